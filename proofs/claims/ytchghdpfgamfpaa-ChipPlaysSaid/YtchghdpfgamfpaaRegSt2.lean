/- A region that draws its order, outside of rounds: each operation is looked at once; it is told which have come up; of no program, no conditions. -/
import Derived.Test.YtchghdpfgamfpaaRegIn2
import Derived.Test.YtchghdpfgamfpaaRegSt
namespace Go.Proofs.Ytchghdpfgamfpaa

section
variable {P : Program} {ops : Array Oper} {Q : Exit → Act → World → Prop}
/-- THE LAW. -/
theorem region_inv2 {id : Nat} {a0 : Act} {w : World} (φ : Nat → Value → World → Prop) (G : (Nat → Bool) → World → Prop) (hm : P.follows .mixedOrders = true) (hf : forwards ops = true) (hsl : slotsOk ops a0.tmps.size = true)
    (hG : G (fun _ => false) w.drew) (hops : OpsOk2 P ops Q φ G a0 0 ops.toList)
    (hend : ∀ a w' d, G d w' → (∀ j, (ops[j]?).isSome = true → d j = true ∧ φ j (vals ops a j) w') → a.defers = a0.defers → a.tmps.size = a0.tmps.size → (∀ t, (ops.all fun o => o.dst != some t) = true → a.tmps.getD t undef = a0.tmps.getD t undef) → Q .normal a w') :
    (Code.region id ops true).wp P Q a0 w := by
  refine wp_region_any hm ?_
  have hc0 : come (Array.replicate ops.size false) = fun _ => false := by
    funext j
    unfold come
    by_cases hj : j < ops.size <;> simp [Array.getD, hj]
  have h0 : Known2 ops φ G a0 (Array.replicate ops.size false) a0 w.drew :=
    ⟨by rw [hc0]; exact hG, rfl, rfl, fun i o _ h => absurd (show (false : Bool) = true by rw [hc0] at h; exact h) (by decide), fun t _ => rfl⟩
  refine wpAny_inv (fun listed a w => Known2 ops φ G a0 listed a w) ?_ ?_ ops.size (Array.replicate ops.size false) a0 w.drew (by simp) ?_ h0
  · intro i listed a w hs hI hi
    obtain ⟨hun, o, ho, hall⟩ := mem_ready.1 hi
    obtain ⟨hlt, hun'⟩ := come_of hun
    have hok := OpsOk2.at_ ops.toList 0 i o hops (by simpa using ho)
    rw [Nat.zero_add] at hok
    have hsl' : slotsOk ops a.tmps.size = true := by rw [hI.size]; exact hsl
    have hgo := hok a w (come listed) (fun a' w' => Known2 ops φ G a0 (listed.setIfInBounds i true) a' w') hun' hI.g
      (fun j he hj => by
        obtain ⟨e, he1, he2⟩ := Array.any_eq_true'.1 he
        simp only [Bool.and_eq_true, beq_iff_eq] at he2
        obtain ⟨oj, hoj⟩ := Option.isSome_iff_exists.1 hj
        have hlj : come listed j = true := by have := hall e he1 he2.2; rwa [he2.1] at this
        exact ⟨hlj, hI.done j oj hoj hlj⟩)
      hI.old hI.size
      (fun v w' hv hg' hr => by
        refine ⟨by rw [come_set hlt]; exact hg', ?_, ?_, ?_, ?_⟩
        · cases hd : o.dst <;> simpa [Act.put] using hI.defers
        · cases hd : o.dst <;> simpa [Act.put] using hI.size
        · intro j oj hoj hlj
          by_cases hij : i = j
          · subst hij
            rw [vals_same hsl' ho]
            exact hv
          · have hl : come listed j = true := by
              rw [come_set hlt] at hlj
              unfold also at hlj
              rwa [if_neg (Ne.symm hij)] at hlj
            rw [vals_other hsl' ho (Ne.symm hij)]
            exact hr j _ (Ne.symm hij) hl (hI.done j oj hoj hl)
        · intro t ht
          have e : (a.put o.dst v).tmps.getD t undef = a.tmps.getD t undef := by
            cases hd : o.dst with
            | none => rfl
            | some u =>
              have hne : u ≠ t := fun e => by
                have := Array.all_eq_true'.1 ht o (Array.mem_of_getElem? ho)
                rw [hd, e] at this
                simp at this
              simp only [Act.put]
              rw [Array.getD_eq_getD_getElem?, Array.getD_eq_getD_getElem?, Array.getElem?_setIfInBounds, if_neg hne]
          rw [e]
          exact hI.old t ht)
    unfold wpOp
    rw [ho]
    by_cases hw : Region.wanted o (yielded ops a.tmps) = true
    · rw [if_pos hw] at hgo
      simp only [hw, if_true]
      exact .inl hgo
    · rw [if_neg hw] at hgo
      simp only [hw]
      exact hgo
  · intro listed a w hs hI hr
    have hal := all_listed hf hs hr
    refine hend a w (come listed) hI.g (fun j hj => ?_) hI.defers hI.size hI.old
    obtain ⟨oj, hoj⟩ := Option.isSome_iff_exists.1 hj
    have hc : come listed j = true := hal j (Array.getElem?_eq_some_iff.1 hoj).1
    exact ⟨hc, hI.done j oj hoj hc⟩
  · unfold toCome
    have := List.countP_le_length (p := fun b => !b) (l := (Array.replicate ops.size false).toList)
    simpa using this
end
end Go.Proofs.Ytchghdpfgamfpaa
