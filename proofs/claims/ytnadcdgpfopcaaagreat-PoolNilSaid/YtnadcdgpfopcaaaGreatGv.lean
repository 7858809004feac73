/- Contracts of the packages below: RegSt2, Puts. -/
import Derived.Test.YtnadcdgpfopcaaaGreatGc
namespace Go.Proofs.YtnadcdgpfopcaaaGreat

section
variable {P : Program} {ops : Array Oper} {Q : Exit → Act → World → Prop}
/-- THE LAW. -/
theorem region_inv2 {id : Nat} {a0 : Act} {w : World} (φ : Nat → Value → World → Prop) (G : (Nat → Bool) → World → Prop) (hm : P.follows .mixedOrders = true) (hf : forwards ops = true) (hsl : slotsOk ops a0.tmps.size = true)
    (hG : G (fun _ => false) w.drew) (hops : OpsOk2 P ops Q φ G a0 0 ops.toList)
    (hend : ∀ a w' d, G d w' → (∀ j, (ops[j]?).isSome = true → d j = true ∧ φ j (vals ops a j) w') → a.defers = a0.defers → a.tmps.size = a0.tmps.size → (∀ t, (ops.all fun o => o.dst != some t) = true → a.tmps.getD t undef = a0.tmps.getD t undef) → Q .normal a w') :
    (Code.region id ops true).wp P Q a0 w := by
  refine wp_region_any hm ?_
  have hc0 : come (Array.replicate ops.size false) = fun _ => false := by
    funext j
    unfold come
    by_cases hj : j < ops.size <;> simp [Array.getD, hj]
  have h0 : Known2 ops φ G a0 (Array.replicate ops.size false) a0 w.drew :=
    ⟨by rw [hc0]; exact hG, rfl, rfl, fun i o _ h => absurd (show (false : Bool) = true by rw [hc0] at h; exact h) (by decide), fun t _ => rfl⟩
  refine wpAny_inv (fun listed a w => Known2 ops φ G a0 listed a w) ?_ ?_ ops.size (Array.replicate ops.size false) a0 w.drew (by simp) ?_ h0
  · intro i listed a w hs hI hi
    obtain ⟨hun, o, ho, hall⟩ := mem_ready.1 hi
    obtain ⟨hlt, hun'⟩ := come_of hun
    have hok := OpsOk2.at_ ops.toList 0 i o hops (by simpa using ho)
    rw [Nat.zero_add] at hok
    have hsl' : slotsOk ops a.tmps.size = true := by rw [hI.size]; exact hsl
    have hgo := hok a w (come listed) (fun a' w' => Known2 ops φ G a0 (listed.setIfInBounds i true) a' w') hun' hI.g
      (fun j he hj => by
        obtain ⟨e, he1, he2⟩ := Array.any_eq_true'.1 he
        simp only [Bool.and_eq_true, beq_iff_eq] at he2
        obtain ⟨oj, hoj⟩ := Option.isSome_iff_exists.1 hj
        have hlj : come listed j = true := by have := hall e he1 he2.2; rwa [he2.1] at this
        exact ⟨hlj, hI.done j oj hoj hlj⟩)
      hI.old hI.size
      (fun v w' hv hg' hr => by
        refine ⟨by rw [come_set hlt]; exact hg', ?_, ?_, ?_, ?_⟩
        · cases hd : o.dst <;> simpa [Act.put] using hI.defers
        · cases hd : o.dst <;> simpa [Act.put] using hI.size
        · intro j oj hoj hlj
          by_cases hij : i = j
          · subst hij
            rw [vals_same hsl' ho]
            exact hv
          · have hl : come listed j = true := by
              rw [come_set hlt] at hlj
              unfold also at hlj
              rwa [if_neg (Ne.symm hij)] at hlj
            rw [vals_other hsl' ho (Ne.symm hij)]
            exact hr j _ (Ne.symm hij) hl (hI.done j oj hoj hl)
        · intro t ht
          have e : (a.put o.dst v).tmps.getD t undef = a.tmps.getD t undef := by
            cases hd : o.dst with
            | none => rfl
            | some u =>
              have hne : u ≠ t := fun e => by
                have := Array.all_eq_true'.1 ht o (Array.mem_of_getElem? ho)
                rw [hd, e] at this
                simp at this
              simp only [Act.put]
              rw [Array.getD_eq_getD_getElem?, Array.getD_eq_getD_getElem?, Array.getElem?_setIfInBounds, if_neg hne]
          rw [e]
          exact hI.old t ht)
    unfold wpOp
    rw [ho]
    by_cases hw : Region.wanted o (yielded ops a.tmps) = true
    · rw [if_pos hw] at hgo
      simp only [hw, if_true]
      exact .inl hgo
    · rw [if_neg hw] at hgo
      simp only [hw]
      exact hgo
  · intro listed a w hs hI hr
    have hal := all_listed hf hs hr
    refine hend a w (come listed) hI.g (fun j hj => ?_) hI.defers hI.size hI.old
    obtain ⟨oj, hoj⟩ := Option.isSome_iff_exists.1 hj
    have hc : come listed j = true := hal j (Array.getElem?_eq_some_iff.1 hoj).1
    exact ⟨hc, hI.done j oj hoj hc⟩
  · unfold toCome
    have := List.countP_le_length (p := fun b => !b) (l := (Array.replicate ops.size false).toList)
    simpa using this
end
end Go.Proofs.YtnadcdgpfopcaaaGreat

namespace Go.Proofs.YtnadcdgpfopcaaaGreat

section
variable {P : Program} {ops : Array Oper} {Q : Exit → Act → World → Prop}
theorem skip_op {o : Oper} {a : Act} {w : World} {K : Act → World → Prop} {j : Nat} {b c : Bool} (hg : o.guard = some (j, b)) (h : vals ops a j = .bool c) (hne : c ≠ b) (hK : K (a.put o.dst undef) w) :
    if Region.wanted o (yielded ops a.tmps) = true then o.wp P a w K Q else K (a.put o.dst undef) w := by
  have hw : Region.wanted o (yielded ops a.tmps) = false := by
    unfold Region.wanted
    rw [hg]
    simp [yielded_of h, hne]
  rw [hw]
  exact hK
theorem put_getD (a : Act) (t u : Tmp) (v : Value) : (a.put (some t) v).tmps.getD u undef = if t = u ∧ u < a.tmps.size then v else a.tmps.getD u undef := by
  simp only [Act.put]
  rw [Array.getD_eq_getD_getElem?, Array.getD_eq_getD_getElem?, Array.getElem?_setIfInBounds]
  by_cases h : t = u
  · subst h
    rw [if_pos rfl]
    by_cases hs : t < a.tmps.size
    · rw [if_pos hs, if_pos ⟨rfl, hs⟩]; rfl
    · have e : a.tmps[t]? = none := Array.getElem?_eq_none (Nat.not_lt.1 hs)
      rw [if_neg hs, if_neg fun h => hs h.2, e]
  · rw [if_neg h, if_neg fun h' => h h'.1]
theorem act_ext {a b : Act} (hd : a.defers = b.defers) (hs : a.tmps.size = b.tmps.size) (h : ∀ t, a.tmps.getD t undef = b.tmps.getD t undef) : a = b := by
  obtain ⟨ta, da⟩ := a
  obtain ⟨tb, db⟩ := b
  simp only at hd hs h
  subst hd
  congr 1
  refine Array.ext hs fun i h1 h2 => ?_
  have := h i
  simpa [Array.getD, h1, h2] using this
/-- a0 with each of these slots written. -/
def putAll (a : Act) : List (Tmp × Value) → Act
  | [] => a
  | p :: r => putAll (a.put (some p.1) p.2) r
theorem putAll_defers (l : List (Tmp × Value)) : ∀ a : Act, (putAll a l).defers = a.defers := by
  induction l with
  | nil => intro a; rfl
  | cons p r ih => intro a; exact (ih _).trans rfl
theorem putAll_size (l : List (Tmp × Value)) : ∀ a : Act, (putAll a l).tmps.size = a.tmps.size := by
  induction l with
  | nil => intro a; rfl
  | cons p r ih => intro a; exact (ih _).trans (by simp [Act.put])
theorem putAll_out (l : List (Tmp × Value)) : ∀ (a : Act) (t : Tmp), (∀ p ∈ l, p.1 ≠ t) → (putAll a l).tmps.getD t undef = a.tmps.getD t undef := by
  induction l with
  | nil => intro a t _; rfl
  | cons p r ih =>
    intro a t h
    rw [putAll, ih _ t fun q hq => h q (by simp [hq]), put_getD, if_neg fun h' => h p (by simp) h'.1]
theorem putAll_in (l : List (Tmp × Value)) : ∀ (a : Act) (f : Tmp → Value), (∀ p ∈ l, p.2 = f p.1 ∧ p.1 < a.tmps.size) → ∀ p ∈ l, (putAll a l).tmps.getD p.1 undef = f p.1 := by
  induction l with
  | nil => intro a f _ p hp; cases hp
  | cons q r ih =>
    intro a f h p hp
    rw [putAll]
    by_cases hr : p ∈ r
    · exact ih _ f (fun x hx => ⟨(h x (by simp [hx])).1, by have := (h x (by simp [hx])).2; simpa [Act.put] using this⟩) p hr
    · obtain rfl : p = q := by simpa [hr] using hp
      by_cases hq : ∃ x ∈ r, x.1 = p.1
      · obtain ⟨x, hx, e⟩ := hq
        rw [← e]
        exact ih _ f (fun y hy => ⟨(h y (by simp [hy])).1, by have := (h y (by simp [hy])).2; simpa [Act.put] using this⟩) x hx
      · rw [putAll_out r _ p.1 fun x hx e => hq ⟨x, hx, e⟩, put_getD, if_pos ⟨rfl, (h p (by simp)).2⟩]
        exact (h p (by simp)).1
/-- Each slot of the region is in the list. -/
def covers (ops : Array Oper) (ts : List Tmp) : Bool := ops.all fun o => (o.dst.map fun t => ts.contains t).getD true
/-- THE FRAME behind a drawn region. -/
theorem act_puts {a a0 : Act} (l : List (Tmp × Value)) (ts : List Tmp) (hts : l.map Prod.fst = ts) (hc : covers ops ts = true) (hlt : ts.all (fun t => decide (t < a0.tmps.size)) = true) (hd : a.defers = a0.defers) (hs : a.tmps.size = a0.tmps.size)
    (hin : ∀ p ∈ l, a.tmps.getD p.1 undef = p.2) (hold : ∀ t, (ops.all fun o => o.dst != some t) = true → a.tmps.getD t undef = a0.tmps.getD t undef) : a = putAll a0 l := by
  refine act_ext (hd.trans (putAll_defers l a0).symm) (hs.trans (putAll_size l a0).symm) fun t => ?_
  by_cases ht : ∃ p ∈ l, p.1 = t
  · obtain ⟨p, hp, rfl⟩ := ht
    rw [putAll_in l a0 (fun t => a.tmps.getD t undef) (fun q hq => ⟨(hin q hq).symm, ?_⟩) p hp]
    have : q.1 ∈ ts := by rw [← hts]; exact List.mem_map_of_mem hq
    simpa using List.all_eq_true.1 hlt q.1 this
  · rw [putAll_out l a0 t fun p hp e => ht ⟨p, hp, e⟩]
    refine hold t (Array.all_eq_true'.2 fun o ho => ?_)
    have h1 := Array.all_eq_true'.1 hc o ho
    cases hdst : o.dst with
    | none => rfl
    | some u =>
      rw [hdst] at h1
      have h2 : u ∈ ts := by simpa using h1
      rw [← hts] at h2
      obtain ⟨p, hp, e⟩ := List.mem_map.1 h2
      simp only [bne_iff_ne, ne_eq, Option.some.injEq]
      intro e'
      exact ht ⟨p, hp, e.trans e'⟩
end
end Go.Proofs.YtnadcdgpfopcaaaGreat
