/- A region that draws its order, in a round over an iterator: each operation is looked at once; it is told which have come up; of no program, no conditions. -/
import Derived.Test.YteghegojhhoppaaRegIn
namespace Go.Proofs.Yteghegojhhoppaa

section
variable {P : Program} {ops : Array Oper} {Q : Exit → Act → World → Prop}
/-- Which have come up, this one too. -/
def also (d : Nat → Bool) (i : Nat) : Nat → Bool := fun j => if j = i then true else d j
def come (listed : Array Bool) : Nat → Bool := fun j => listed.getD j false
theorem come_set {listed : Array Bool} {i : Nat} (h : i < listed.size) : come (listed.setIfInBounds i true) = also (come listed) i := by
  funext j
  unfold come also
  by_cases hj : j = i
  · subst hj
    simp [Array.getD, h]
  · rw [if_neg hj, getD_set_ne false (Ne.symm hj)]
/-- What is known of a state. -/
structure Known2 (ops : Array Oper) (φ : Nat → Value → World → Prop) (G : (Nat → Bool) → World → Prop) (a0 : Act) (listed : Array Bool) (a : Act) (w : World) : Prop where
  g : G (come listed) w
  defers : a.defers = a0.defers
  size : a.tmps.size = a0.tmps.size
  done : ∀ i o, ops[i]? = some o → come listed i = true → φ i (vals ops a i) w
  old : ∀ t, (ops.all fun o => o.dst != some t) = true → a.tmps.getD t undef = a0.tmps.getD t undef
def OpOk2 (P : Program) (ops : Array Oper) (Q : Exit → Act → World → Prop) (φ : Nat → Value → World → Prop) (G : (Nat → Bool) → World → Prop) (a0 : Act) (i : Nat) (o : Oper) : Prop :=
  ∀ (a : Act) (w : World) (d : Nat → Bool) (K : Act → World → Prop), d i = false → G d w →
    (∀ j, (o.after.any fun e => e.on == j && Region.binds .any e) = true → (ops[j]?).isSome = true → d j = true ∧ φ j (vals ops a j) w) →
    (∀ t, (ops.all fun o => o.dst != some t) = true → a.tmps.getD t undef = a0.tmps.getD t undef) →
    a.tmps.size = a0.tmps.size →
    (∀ v w', φ i (told o v) w' → G (also d i) w' → (∀ j u, j ≠ i → d j = true → φ j u w → φ j u w') → K (a.put o.dst v) w') →
    if Region.wanted o (yielded ops a.tmps) = true then o.wp P a w K Q else K (a.put o.dst undef) w
def OpsOk2 (P : Program) (ops : Array Oper) (Q : Exit → Act → World → Prop) (φ : Nat → Value → World → Prop) (G : (Nat → Bool) → World → Prop) (a0 : Act) : Nat → List Oper → Prop
  | _, [] => True
  | i, o :: r => OpOk2 P ops Q φ G a0 i o ∧ OpsOk2 P ops Q φ G a0 (i + 1) r
theorem OpsOk2.nil {φ : Nat → Value → World → Prop} {G : (Nat → Bool) → World → Prop} {a0 : Act} {i : Nat} : OpsOk2 P ops Q φ G a0 i [] := trivial
theorem OpsOk2.cons {φ : Nat → Value → World → Prop} {G : (Nat → Bool) → World → Prop} {a0 : Act} {i : Nat} {o : Oper} {r : List Oper} (h : OpOk2 P ops Q φ G a0 i o) (hr : OpsOk2 P ops Q φ G a0 (i + 1) r) : OpsOk2 P ops Q φ G a0 i (o :: r) := ⟨h, hr⟩
theorem OpsOk2.at_ {φ : Nat → Value → World → Prop} {G : (Nat → Bool) → World → Prop} {a0 : Act} : ∀ (l : List Oper) (i j : Nat) (o : Oper), OpsOk2 P ops Q φ G a0 i l → l[j]? = some o → OpOk2 P ops Q φ G a0 (i + j) o
  | [], _, _, _, _, h => by simp at h
  | o :: r, i, 0, o', h, hj => by
    obtain rfl : o = o' := by simpa using hj
    exact h.1
  | o :: r, i, j + 1, o', h, hj => by
    have := OpsOk2.at_ r (i + 1) j o' h.2 (by simpa using hj)
    rwa [show i + 1 + j = i + (j + 1) by omega] at this
theorem come_of {listed : Array Bool} {i : Nat} (h : listed.getD i true = false) : i < listed.size ∧ come listed i = false := by
  have hi : i < listed.size := by
    rcases Nat.lt_or_ge i listed.size with h' | h'
    · exact h'
    · simp [Array.getD, Nat.not_lt.2 h'] at h
  refine ⟨hi, ?_⟩
  unfold come
  simpa [Array.getD, hi] using h
/-- THE LAW. -/
theorem region_inv_in2 {l n : Nat} {id : Nat} {a0 : Act} {w : World} (φ : Nat → Value → World → Prop) (G : (Nat → Bool) → World → Prop) (hm : P.follows .mixedOrders = true) (hf : forwards ops = true) (hsl : slotsOk ops a0.tmps.size = true)
    (hnd : noDefer ops = true) (hG : G (fun _ => false) w.drew) (hops : OpsOk2 P ops Q φ G a0 0 ops.toList)
    (hend : ∀ a w' d, G d w' → (∀ j, (ops[j]?).isSome = true → d j = true ∧ φ j (vals ops a j) w') → a.defers = a0.defers → a.tmps.size = a0.tmps.size → (∀ t, (ops.all fun o => o.dst != some t) = true → a.tmps.getD t undef = a0.tmps.getD t undef) → Q .normal a w') :
    (Code.region id ops true).wpIn (Fence.wide.inRound l) n P Q a0 w := by
  refine wpIn_region_any hm ?_
  have hc0 : come (Array.replicate ops.size false) = fun _ => false := by
    funext j
    unfold come
    by_cases hj : j < ops.size <;> simp [Array.getD, hj]
  have h0 : Known2 ops φ G a0 (Array.replicate ops.size false) a0 w.drew :=
    ⟨by rw [hc0]; exact hG, rfl, rfl, fun i o _ h => absurd (show (false : Bool) = true by rw [hc0] at h; exact h) (by decide), fun t _ => rfl⟩
  refine wpAnyIn_inv (fun listed a w => Known2 ops φ G a0 listed a w) ?_ ?_ ops.size (Array.replicate ops.size false) a0 w.drew (by simp) ?_ h0
  · intro i listed a w hs hI hi
    obtain ⟨hun, o, ho, hall⟩ := mem_ready.1 hi
    obtain ⟨hlt, hun'⟩ := come_of hun
    have hok := OpsOk2.at_ ops.toList 0 i o hops (by simpa using ho)
    rw [Nat.zero_add] at hok
    have hmem : o ∈ ops.toList := by simpa using Array.mem_of_getElem? ho
    have hsl' : slotsOk ops a.tmps.size = true := by rw [hI.size]; exact hsl
    have hgo := hok a w (come listed) (fun a' w' => Known2 ops φ G a0 (listed.setIfInBounds i true) a' w') hun' hI.g
      (fun j he hj => by
        obtain ⟨e, he1, he2⟩ := Array.any_eq_true'.1 he
        simp only [Bool.and_eq_true, beq_iff_eq] at he2
        obtain ⟨oj, hoj⟩ := Option.isSome_iff_exists.1 hj
        have hlj : come listed j = true := by have := hall e he1 he2.2; rwa [he2.1] at this
        exact ⟨hlj, hI.done j oj hoj hlj⟩)
      hI.old hI.size
      (fun v w' hv hg' hr => by
        refine ⟨by rw [come_set hlt]; exact hg', ?_, ?_, ?_, ?_⟩
        · cases hd : o.dst <;> simpa [Act.put] using hI.defers
        · cases hd : o.dst <;> simpa [Act.put] using hI.size
        · intro j oj hoj hlj
          by_cases hij : i = j
          · subst hij
            rw [vals_same hsl' ho]
            exact hv
          · have hl : come listed j = true := by
              rw [come_set hlt] at hlj
              unfold also at hlj
              rwa [if_neg (Ne.symm hij)] at hlj
            rw [vals_other hsl' ho (Ne.symm hij)]
            exact hr j _ (Ne.symm hij) hl (hI.done j oj hoj hl)
        · intro t ht
          have e : (a.put o.dst v).tmps.getD t undef = a.tmps.getD t undef := by
            cases hd : o.dst with
            | none => rfl
            | some u =>
              have hne : u ≠ t := fun e => by
                have := Array.all_eq_true'.1 ht o (Array.mem_of_getElem? ho)
                rw [hd, e] at this
                simp at this
              simp only [Act.put]
              rw [Array.getD_eq_getD_getElem?, Array.getD_eq_getD_getElem?, Array.getElem?_setIfInBounds, if_neg hne]
          rw [e]
          exact hI.old t ht)
    unfold wpOpIn
    rw [ho]
    by_cases hw : Region.wanted o (yielded ops a.tmps) = true
    · rw [if_pos hw] at hgo
      simp only [hw, if_true]
      exact op_in_round (noDefer_at hnd hmem) hgo
    · rw [if_neg hw] at hgo
      simp only [hw]
      exact ⟨fun _ _ => trivial, hgo⟩
  · intro listed a w hs hI hr
    have hal := all_listed hf hs hr
    refine hend a w (come listed) hI.g (fun j hj => ?_) hI.defers hI.size hI.old
    obtain ⟨oj, hoj⟩ := Option.isSome_iff_exists.1 hj
    have hc : come listed j = true := hal j (Array.getElem?_eq_some_iff.1 hoj).1
    exact ⟨hc, hI.done j oj hoj hc⟩
  · unfold toCome
    have := List.countP_le_length (p := fun b => !b) (l := (Array.replicate ops.size false).toList)
    simpa using this
end
end Go.Proofs.Yteghegojhhoppaa
