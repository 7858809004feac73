/- A region that draws its order and ends in operations that wait for all ahead of them, one behind the other (stores of an assignment): those ahead are each looked at once (region_st), the end is walked as it stands. Of no program, no conditions. -/
import Derived.Test.YtohiabkjbieflaaReg
import Derived.StillTail
namespace Go.Proofs.Ytohiabkjbieflaa
open Go.RowKit

section
variable {P : Program} {ops : Array Oper} {Q : Exit → Act → World → Prop}
theorem region_tail {id : Nat} {a0 : Act} {w : World} (n : Nat) (φ : Nat → Value → World → Prop) (G : (Nat → Value) → World → Prop) (R : World → World → Prop) (hm : P.follows .mixedOrders = true) (hf : forwards ops = true) (hsl : slotsOk ops a0.tmps.size = true)
    (hn : decide (n < ops.size) = true) (hsk : Region.sinkB .any ops n = true) (hch : Region.chainB .any ops n = true)
    (hR : ∀ j v w w', φ j v w → R w w' → φ j v w') (hG : G (vals ops a0) w.drew) (hops : OpsOkS P ops Q φ G R a0 0 (ops.toList.take n))
    (hend : ∀ a w', G (vals ops a) w' → a.defers = a0.defers → a.tmps.size = a0.tmps.size → (∀ j, j < n → φ j (vals ops a j) w') → (∀ t, (ops.all fun o => o.dst != some t) = true → a.tmps.getD t undef = a0.tmps.getD t undef) → wpList P ops Q (ops.toList.drop n) a w') :
    (Code.region id ops true).wp P Q a0 w := by
  have hn' : n < ops.size := of_decide_eq_true hn
  refine wp_region_any hm ?_
  have h0 : KnownS ops φ G a0 (Array.replicate ops.size false) a0 w.drew :=
    ⟨hG, rfl, rfl, fun i o _ h => by
      exfalso
      simp [Array.getD] at h, fun _ _ => rfl, fun t _ => rfl⟩
  have hh0 : HeadInv .any ops n (Array.replicate ops.size false) :=
    ⟨by simp, (fun j oj _ h => by rw [getD_replicate_false] at h; cases h), fun t _ ht => by simp [Array.getD, ht]⟩
  have hlist : ∀ (m : Nat) (o : Oper), ops[m]? = some o → ops.toList.drop m = o :: ops.toList.drop (m + 1) := fun m o ho => by
    have hl : m < ops.toList.length := by simpa using (Array.getElem?_eq_some_iff.1 ho).1
    rw [List.drop_eq_getElem_cons hl]
    obtain ⟨h1, h2⟩ := Array.getElem?_eq_some_iff.1 ho
    rw [← h2]; simp
  have hstep : ∀ (m : Nat) (o : Oper) (a : Act) (w : World), ops[m]? = some o → wpList P ops Q (ops.toList.drop m) a w → wpOp P ops Q m (wpList P ops Q (ops.toList.drop (m + 1))) a w := fun m o a w ho h => by
    rw [hlist m o ho] at h
    unfold wpOp; simp only [ho]; exact h
  refine wpAny_inv (fun listed a w => (KnownS ops φ G a0 listed a w ∧ HeadInv .any ops n listed) ∨ ∃ m, n ≤ m ∧ m ≤ ops.size ∧ (∀ t, t < m → listed.getD t false = true) ∧ (∀ t, m ≤ t → t < ops.size → listed.getD t true = false) ∧ wpList P ops Q (ops.toList.drop m) a w) ?_ ?_ ops.size (Array.replicate ops.size false) a0 w.drew (by simp) ?_ (.inl ⟨h0, hh0⟩)
  · intro i listed a w hs hI0 hi
    obtain ⟨hun, o, ho, hall⟩ := mem_ready.1 hi
    have hisz : i < ops.size := (Array.getElem?_eq_some_iff.1 ho).1
    have hone : ∀ m, (∀ t, m ≤ t → t < ops.size → listed.getD t true = false) → n ≤ m → m ≤ i → i = m := fun m hm' hnm hmi => by
      rcases Nat.lt_or_ge m i with h | h
      · exfalso
        have h1 := List.all_eq_true.1 hch i (List.mem_range.2 hisz)
        simp only [Bool.or_eq_true, decide_eq_true_eq] at h1
        rcases h1 with h1 | h1
        · omega
        · obtain ⟨o', ho', e, he, hb, hon⟩ := Region.waitsFor_spec h1
          have : o' = o := Option.some.inj (ho'.symm.trans ho)
          subst this
          have h2 := hall e he hb
          rw [hon, getD_both (hm' (i - 1) (by omega) (by omega))] at h2
          cases h2
      · omega
    have hnext : ∀ m, i = m → n ≤ m → (∀ t, t < m → listed.getD t false = true) → (∀ t, m ≤ t → t < ops.size → listed.getD t true = false) → wpList P ops Q (ops.toList.drop m) a w → wpOp P ops Q i (fun a' w' => (KnownS ops φ G a0 (listed.setIfInBounds i true) a' w' ∧ HeadInv .any ops n (listed.setIfInBounds i true)) ∨ ∃ m, n ≤ m ∧ m ≤ ops.size ∧ (∀ t, t < m → (listed.setIfInBounds i true).getD t false = true) ∧ (∀ t, m ≤ t → t < ops.size → (listed.setIfInBounds i true).getD t true = false) ∧ wpList P ops Q (ops.toList.drop m) a' w') a w := fun m hm' hnm hbe ht hw => by
      subst hm'
      refine wpOp_mono (fun a' w' h' => .inr ⟨i + 1, by omega, by omega, fun t h1 => ?_, fun t h1 h2 => ?_, h'⟩) (hstep i o a w ho hw)
      · by_cases e : i = t
        · subst e; simp [Array.getD, show i < listed.size by omega]
        · rw [getD_set_ne false e]; exact hbe t (by omega)
      rw [getD_set_ne true (by omega)]
      exact ht t (by omega) h2
    rcases hI0 with ⟨hI, hH⟩ | ⟨m, hnm, hm1, hbe, hm2, hw⟩
    · by_cases hin : i < n
      · have hok := OpsOkS.at_ (ops.toList.take n) 0 i o hops (by rw [List.getElem?_take, if_pos hin]; simpa using ho)
        rw [Nat.zero_add] at hok
        have hil : i < listed.size := by have := (Array.getElem?_eq_some_iff.1 ho).1; omega
        have hunf : listed.getD i false = false := by simpa [Array.getD, hil] using hun
        have hsl' : slotsOk ops a.tmps.size = true := by rw [hI.size]; exact hsl
        have hgo := hok a w (fun a' w' => (KnownS ops φ G a0 (listed.setIfInBounds i true) a' w' ∧ HeadInv .any ops n (listed.setIfInBounds i true)) ∨ ∃ m, n ≤ m ∧ m ≤ ops.size ∧ (∀ t, t < m → (listed.setIfInBounds i true).getD t false = true) ∧ (∀ t, m ≤ t → t < ops.size → (listed.setIfInBounds i true).getD t true = false) ∧ wpList P ops Q (ops.toList.drop m) a' w') hI.g
          (fun j he hj => by
            obtain ⟨e, he1, he2⟩ := Array.any_eq_true'.1 he
            simp only [Bool.and_eq_true, beq_iff_eq] at he2
            obtain ⟨oj, hoj⟩ := Option.isSome_iff_exists.1 hj
            exact hI.done j oj hoj (by have := hall e he1 he2.2; rwa [he2.1] at this))
          hI.old hI.size (hI.fresh i hunf)
          (fun v w' hv hg' hr => by
            refine .inl ⟨⟨by rw [vals_put hsl' ho]; exact hg', ?_, ?_, ?_, ?_, ?_⟩, hH.set hi hin⟩
            · cases hd : o.dst <;> simpa [Act.put] using hI.defers
            · cases hd : o.dst <;> simpa [Act.put] using hI.size
            · intro j oj hoj hlj
              by_cases hij : i = j
              · subst hij
                rw [vals_same hsl' ho]
                exact hv
              · have hl : listed.getD j false = true := by rw [getD_set_ne false hij] at hlj; exact hlj
                rw [vals_other hsl' ho (Ne.symm hij)]
                exact hR j _ _ _ (hI.done j oj hoj hl) hr
            · intro k hk
              have hki : k ≠ i := fun e => by
                subst e
                simp [Array.getD, hil] at hk
              rw [vals_other hsl' ho hki]
              exact hI.fresh k (by rwa [getD_set_ne false (Ne.symm hki)] at hk)
            · intro t ht
              have e : (a.put o.dst v).tmps.getD t undef = a.tmps.getD t undef := by
                cases hd : o.dst with
                | none => rfl
                | some u =>
                  have hne : u ≠ t := fun e => by
                    have := Array.all_eq_true'.1 ht o (Array.mem_of_getElem? ho)
                    rw [hd, e] at this
                    simp at this
                  simp only [Act.put]
                  rw [Array.getD_eq_getD_getElem?, Array.getD_eq_getD_getElem?, Array.getElem?_setIfInBounds, if_neg hne]
              rw [e]
              exact hI.old t ht)
        unfold wpOp
        rw [ho]
        by_cases hw : Region.wanted o (yielded ops a.tmps) = true
        · rw [if_pos hw] at hgo
          simp only [hw, if_true]
          exact .inl hgo
        · rw [if_neg hw] at hgo
          simp only [hw]
          exact hgo
      · have hfront : ∀ j, j < n → listed.getD j false = true := fun j hj => by
          cases h : listed.getD j false with
          | true => rfl
          | false => exact absurd hi (tail_waits hsk hch hn' hH _ j rfl hj (getD_in (by rw [hH.size]; omega) h) i (by omega))
        have hin2 := hone n hH.tail (Nat.le_refl _) (by omega)
        refine hnext n hin2 (Nat.le_refl _) hfront hH.tail (hend a w hI.g hI.defers hI.size (fun j hj => ?_) hI.old)
        obtain ⟨oj, hoj⟩ : ∃ oj, ops[j]? = some oj := ⟨ops[j]'(by omega), Array.getElem?_eq_getElem _⟩
        exact hI.done j oj hoj (hfront j hj)
    · have hmi : m ≤ i := by
        rcases Nat.lt_or_ge i m with h | h
        · have := hbe i h
          rw [getD_both hun] at this
          cases this
        · exact h
      exact hnext m (hone m hm2 hnm hmi) hnm hbe hm2 hw
  · intro listed a w hs hI hr
    have hal := all_listed hf hs hr
    rcases hI with ⟨hI, hH⟩ | ⟨m, hnm, hm1, hbe, hm2, hw⟩
    · have h1 := getD_both (hH.tail n (Nat.le_refl _) hn')
      rw [hal n hn'] at h1
      cases h1
    · have hme : m = ops.size := by
        rcases Nat.lt_or_ge m ops.size with h | h
        · have h1 := getD_both (hm2 m (Nat.le_refl _) h)
          rw [hal m h] at h1
          cases h1
        · omega
      subst hme
      rw [List.drop_eq_nil_of_le (by simp)] at hw
      exact hw
  · unfold toCome
    have := List.countP_le_length (p := fun b => !b) (l := (Array.replicate ops.size false).toList)
    simpa using this
end
/-- A block made since w0, as it was made. -/
structure NewBox (w0 w : World) (p : Nat) (Z : Array Value) (t : TypeId) : Prop where
  new : w0.heap.size ≤ p
  at_ : w.heap[p]? = some (.cells Z t (0, 0))
theorem NewBox.below {w0 w w' : World} {p : Nat} {Z : Array Value} {t : TypeId} (h : NewBox w0 w p Z t) (hb : Below w.heap.size w w') : NewBox w0 w' p Z t :=
  ⟨h.new, (hb.block p (Array.getElem?_eq_some_iff.1 h.at_).1).trans h.at_⟩
/-- The blocks that a value points to (a struct's fields among them). -/
def vblks : Value → List Nat
  | .pointer (some a) => [a.block]
  | .agg xs => xs.toList.filterMap Value.ownBlock
  | v => v.ownBlock.toList
/-- What operations of L yielded points to blocks that are there, each to others. -/
structure Apart2 (L : List Nat) (vs : Nat → Value) (w : World) : Prop where
  lt : ∀ i ∈ L, ∀ b ∈ vblks (vs i), b < w.heap.size
  ne : ∀ i ∈ L, ∀ j ∈ L, i ≠ j → ∀ b ∈ vblks (vs i), b ∉ vblks (vs j)
theorem Apart2.start {L : List Nat} {vs : Nat → Value} {w : World} (h : ∀ i ∈ L, vblks (vs i) = []) : Apart2 L vs w :=
  ⟨(fun i hi b e => by rw [h i hi] at e; cases e), fun i hi _ _ _ b e => by rw [h i hi] at e; cases e⟩
theorem Apart2.keep {L : List Nat} {vs : Nat → Value} {w w' : World} {i : Nat} {v : Value} (h : Apart2 L vs w) (hi : i ∉ L) (hz : w.heap.size ≤ w'.heap.size) : Apart2 L (updv vs i v) w' := by
  have hne : ∀ j ∈ L, updv vs i v j = vs j := fun j hj => updv_ne _ (fun e => hi (by rw [← e]; exact hj)) _
  refine ⟨fun j hj b e => ?_, fun j hj k hk hjk b e => ?_⟩
  · rw [hne j hj] at e
    exact Nat.lt_of_lt_of_le (h.lt j hj b e) hz
  · rw [hne j hj] at e
    rw [hne k hk]
    exact h.ne j hj k hk hjk b e
theorem Apart2.new {L : List Nat} {vs : Nat → Value} {w w' : World} {i : Nat} {v : Value} (h : Apart2 L vs w) (hz : w.heap.size ≤ w'.heap.size) (hv : ∀ b ∈ vblks v, w.heap.size ≤ b ∧ b < w'.heap.size) : Apart2 L (updv vs i v) w' := by
  have key : ∀ j, updv vs i v j = if j = i then v else vs j := fun j => by
    by_cases hj : j = i
    · subst hj; rw [updv_same, if_pos rfl]
    · rw [updv_ne _ hj, if_neg hj]
  refine ⟨fun j hj b e => ?_, fun j hj k hk hjk b e e' => ?_⟩
  · rw [key] at e
    split at e
    · exact (hv b e).2
    · exact Nat.lt_of_lt_of_le (h.lt j hj b e) hz
  · rw [key] at e e'
    split at e
    · next hji =>
      rw [if_neg (fun e => hjk (hji.trans e.symm))] at e'
      have h1 := h.lt k hk b e'
      have h2 := hv b e
      omega
    · split at e'
      · have h1 := h.lt j hj b e
        have h2 := hv b e'
        omega
      · exact h.ne j hj k hk hjk b e e'
theorem Apart2.alloc {L : List Nat} {vs : Nat → Value} {w : World} {i : Nat} (h : Apart2 L vs w) (o : Obj) : Apart2 L (updv vs i (.pointer (some ⟨w.heap.size, 0, none⟩))) (w.alloc o) :=
  h.new (by simp) fun b hb => by
    simp [vblks] at hb
    subst hb
    simp
end Go.Proofs.Ytohiabkjbieflaa
