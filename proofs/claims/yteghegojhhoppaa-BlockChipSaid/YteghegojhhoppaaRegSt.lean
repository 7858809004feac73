/- A region that draws its order, by what each of its operations yields, where a call turns a state that the others find: each is looked at once; of no program, no conditions. -/
import Derived.Test.YteghegojhhoppaaRegIn
namespace Go.Proofs.Yteghegojhhoppaa
open Go.RowKit

section
variable {P : Program} {ops : Array Oper} {Q : Exit → Act → World → Prop}
/-- Whatever order is drawn, a word of the state that each operation hands on is handed on to the end. -/
theorem wpAny_inv {md : Region.Mode} (I : Array Bool → Act → World → Prop)
    (hstep : ∀ i listed a w, listed.size = ops.size → I listed a w → i ∈ Region.ready md ops listed → wpOp P ops Q i (fun a' w' => I (listed.setIfInBounds i true) a' w') a w)
    (hend : ∀ listed a w, listed.size = ops.size → I listed a w → Region.ready md ops listed = [] → Q .normal a w) :
    ∀ (fuel : Nat) (listed : Array Bool) (a : Act) (w : World), listed.size = ops.size → toCome listed ≤ fuel → I listed a w → wpAny P md ops Q fuel listed a w := by
  intro fuel
  induction fuel with
  | zero =>
    intro listed a w hs hc hI
    have hr : Region.ready md ops listed = [] := by
      rw [List.eq_nil_iff_forall_not_mem]
      intro i hi
      have h1 := (mem_ready.1 hi).1
      rw [toCome_none (by omega) i] at h1
      cases h1
    exact ⟨hr, hend _ _ _ hs hI hr⟩
  | succ fuel ih =>
    intro listed a w hs hc hI
    refine ⟨hend _ _ _ hs hI, fun i hi => ?_⟩
    refine wpOp_mono (fun a' w' h' => ih _ a' w' (by simpa using hs) ?_ h') (hstep i listed a w hs hI hi)
    have := toCome_set (mem_ready.1 hi).1
    omega

def updv (f : Nat → Value) (i : Nat) (v : Value) : Nat → Value := fun k => if k = i then v else f k
theorem updv_same (f : Nat → Value) (i : Nat) (v : Value) : updv f i v i = v := by simp [updv]
theorem updv_ne (f : Nat → Value) {i k : Nat} (h : k ≠ i) (v : Value) : updv f i v k = f k := by simp [updv, h]
theorem vals_put {a : Act} {i : Nat} {o : Oper} {v : Value} (hsl : slotsOk ops a.tmps.size = true) (ho : ops[i]? = some o) : vals ops (a.put o.dst v) = updv (vals ops a) i (told o v) := by
  funext k
  by_cases hk : k = i
  · subst hk; rw [updv_same, vals_same hsl ho]
  · rw [updv_ne _ hk, vals_other hsl ho hk]
/-- What is known of a state: of each operation that has come up what it yields; the other slots are as they were. -/
structure KnownS (ops : Array Oper) (φ : Nat → Value → World → Prop) (G : (Nat → Value) → World → Prop) (a0 : Act) (listed : Array Bool) (a : Act) (w : World) : Prop where
  g : G (vals ops a) w
  defers : a.defers = a0.defers
  size : a.tmps.size = a0.tmps.size
  done : ∀ i o, ops[i]? = some o → listed.getD i false = true → φ i (vals ops a i) w
  fresh : ∀ i, listed.getD i false = false → vals ops a i = vals ops a0 i
  old : ∀ t, (ops.all fun o => o.dst != some t) = true → a.tmps.getD t undef = a0.tmps.getD t undef
/-- What is asked of one operation: in whatever state in which those that it waits for have come up. -/
def OpOkS (P : Program) (ops : Array Oper) (Q : Exit → Act → World → Prop) (φ : Nat → Value → World → Prop) (G : (Nat → Value) → World → Prop) (R : World → World → Prop) (a0 : Act) (i : Nat) (o : Oper) : Prop :=
  ∀ (a : Act) (w : World) (K : Act → World → Prop), G (vals ops a) w →
    (∀ j, (o.after.any fun e => e.on == j && Region.binds .any e) = true → (ops[j]?).isSome = true → φ j (vals ops a j) w) →
    (∀ t, (ops.all fun o => o.dst != some t) = true → a.tmps.getD t undef = a0.tmps.getD t undef) →
    a.tmps.size = a0.tmps.size →
    vals ops a i = vals ops a0 i →
    (∀ v w', φ i (told o v) w' → G (updv (vals ops a) i (told o v)) w' → R w w' → K (a.put o.dst v) w') →
    if Region.wanted o (yielded ops a.tmps) = true then o.wp P a w K Q else K (a.put o.dst undef) w
def OpsOkS (P : Program) (ops : Array Oper) (Q : Exit → Act → World → Prop) (φ : Nat → Value → World → Prop) (G : (Nat → Value) → World → Prop) (R : World → World → Prop) (a0 : Act) : Nat → List Oper → Prop
  | _, [] => True
  | i, o :: r => OpOkS P ops Q φ G R a0 i o ∧ OpsOkS P ops Q φ G R a0 (i + 1) r
theorem OpsOkS.nil {φ : Nat → Value → World → Prop} {G : (Nat → Value) → World → Prop} {R : World → World → Prop} {a0 : Act} {i : Nat} : OpsOkS P ops Q φ G R a0 i [] := trivial
theorem OpsOkS.cons {φ : Nat → Value → World → Prop} {G : (Nat → Value) → World → Prop} {R : World → World → Prop} {a0 : Act} {i : Nat} {o : Oper} {r : List Oper} (h : OpOkS P ops Q φ G R a0 i o) (hr : OpsOkS P ops Q φ G R a0 (i + 1) r) : OpsOkS P ops Q φ G R a0 i (o :: r) := ⟨h, hr⟩
theorem OpsOkS.at_ {φ : Nat → Value → World → Prop} {G : (Nat → Value) → World → Prop} {R : World → World → Prop} {a0 : Act} : ∀ (l : List Oper) (i j : Nat) (o : Oper), OpsOkS P ops Q φ G R a0 i l → l[j]? = some o → OpOkS P ops Q φ G R a0 (i + j) o
  | [], _, _, _, _, h => by simp at h
  | o :: r, i, 0, o', h, hj => by
    obtain rfl : o = o' := by simpa using hj
    exact h.1
  | o :: r, i, j + 1, o', h, hj => by
    have := OpsOkS.at_ r (i + 1) j o' h.2 (by simpa using hj)
    rwa [show i + 1 + j = i + (j + 1) by omega] at this
/-- THE LAW. -/
theorem region_st {id : Nat} {a0 : Act} {w : World} (φ : Nat → Value → World → Prop) (G : (Nat → Value) → World → Prop) (R : World → World → Prop) (hm : P.follows .mixedOrders = true) (hf : forwards ops = true) (hsl : slotsOk ops a0.tmps.size = true)
    (hR : ∀ j v w w', φ j v w → R w w' → φ j v w') (hG : G (vals ops a0) w.drew) (hops : OpsOkS P ops Q φ G R a0 0 ops.toList)
    (hend : ∀ a w', G (vals ops a) w' → a.defers = a0.defers → a.tmps.size = a0.tmps.size → (∀ j, (ops[j]?).isSome = true → φ j (vals ops a j) w') → (∀ t, (ops.all fun o => o.dst != some t) = true → a.tmps.getD t undef = a0.tmps.getD t undef) → Q .normal a w') :
    (Code.region id ops true).wp P Q a0 w := by
  refine wp_region_any hm ?_
  have h0 : KnownS ops φ G a0 (Array.replicate ops.size false) a0 w.drew :=
    ⟨hG, rfl, rfl, fun i o _ h => by
      exfalso
      simp [Array.getD] at h, fun _ _ => rfl, fun t _ => rfl⟩
  refine wpAny_inv (fun listed a w => KnownS ops φ G a0 listed a w) ?_ ?_ ops.size (Array.replicate ops.size false) a0 w.drew (by simp) ?_ h0
  · intro i listed a w hs hI hi
    obtain ⟨hun, o, ho, hall⟩ := mem_ready.1 hi
    have hok := OpsOkS.at_ ops.toList 0 i o hops (by simpa using ho)
    rw [Nat.zero_add] at hok
    have hil : i < listed.size := by have := (Array.getElem?_eq_some_iff.1 ho).1; omega
    have hunf : listed.getD i false = false := by simpa [Array.getD, hil] using hun
    have hsl' : slotsOk ops a.tmps.size = true := by rw [hI.size]; exact hsl
    have hgo := hok a w (fun a' w' => KnownS ops φ G a0 (listed.setIfInBounds i true) a' w') hI.g
      (fun j he hj => by
        obtain ⟨e, he1, he2⟩ := Array.any_eq_true'.1 he
        simp only [Bool.and_eq_true, beq_iff_eq] at he2
        obtain ⟨oj, hoj⟩ := Option.isSome_iff_exists.1 hj
        exact hI.done j oj hoj (by have := hall e he1 he2.2; rwa [he2.1] at this))
      hI.old hI.size (hI.fresh i hunf)
      (fun v w' hv hg' hr => by
        refine ⟨by rw [vals_put hsl' ho]; exact hg', ?_, ?_, ?_, ?_, ?_⟩
        · cases hd : o.dst <;> simpa [Act.put] using hI.defers
        · cases hd : o.dst <;> simpa [Act.put] using hI.size
        · intro j oj hoj hlj
          by_cases hij : i = j
          · subst hij
            rw [vals_same hsl' ho]
            exact hv
          · have hl : listed.getD j false = true := by rw [getD_set_ne false hij] at hlj; exact hlj
            rw [vals_other hsl' ho (Ne.symm hij)]
            exact hR j _ _ _ (hI.done j oj hoj hl) hr
        · intro k hk
          have hki : k ≠ i := fun e => by
            subst e
            simp [Array.getD, hil] at hk
          rw [vals_other hsl' ho hki]
          exact hI.fresh k (by rwa [getD_set_ne false (Ne.symm hki)] at hk)
        · intro t ht
          have e : (a.put o.dst v).tmps.getD t undef = a.tmps.getD t undef := by
            cases hd : o.dst with
            | none => rfl
            | some u =>
              have hne : u ≠ t := fun e => by
                have := Array.all_eq_true'.1 ht o (Array.mem_of_getElem? ho)
                rw [hd, e] at this
                simp at this
              simp only [Act.put]
              rw [Array.getD_eq_getD_getElem?, Array.getD_eq_getD_getElem?, Array.getElem?_setIfInBounds, if_neg hne]
          rw [e]
          exact hI.old t ht)
    unfold wpOp
    rw [ho]
    by_cases hw : Region.wanted o (yielded ops a.tmps) = true
    · rw [if_pos hw] at hgo
      simp only [hw, if_true]
      exact .inl hgo
    · rw [if_neg hw] at hgo
      simp only [hw]
      exact hgo
  · intro listed a w hs hI hr
    have hal := all_listed hf hs hr
    refine hend a w hI.g hI.defers hI.size (fun j hj => ?_) hI.old
    obtain ⟨oj, hoj⟩ := Option.isSome_iff_exists.1 hj
    exact hI.done j oj hoj (hal j (Array.getElem?_eq_some_iff.1 hoj).1)
  · unfold toCome
    have := List.countP_le_length (p := fun b => !b) (l := (Array.replicate ops.size false).toList)
    simpa using this

end
end Go.Proofs.Yteghegojhhoppaa
