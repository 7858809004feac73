/- A pool: is a page twice among refs? -/
import Derived.Maps.OwnSet
import Derived.Maps.RangeWalk
import Derived.Carry
import Derived.Test.YtnadcdgpfopcaaaGreatPoG3
namespace Go.Proofs.YtnadcdgpfopcaaaGreat
open Go.RowKit Go.Maps

section
variable {w w' V : World} {p c l f : Nat} {x y X Y Z : Nat → Prop} {Q Q1 : PS} {T : List Fd} {S : LS}
/-- An element that says nothing. -/
def RU (_ : Value) : Option (DataW Unit × List MemPlace) := some (.agg [], [])
theorem twkeyed : Keyed Tryz.prog 3 := int_keyed Tryz.underlying3
theorem twkey {a : Int} (h : (Lit.int .i64 a).wf = true) : keyOf Tryz.prog 3 (.int .i64 a) = some (.int .i64 a) := keyOf_int_mk Tryz.underlying3 h
/-- What the map says of the first j: which pages, and whether each was once. -/
structure Tw (w : World) (b : Nat) (n : Nat) (L : List Int) : Prop where
  own : ∃ D : DataW Unit, w.ownsMap Tryz.prog 3 RU b n D ∧ Tidy D ∧ (∀ k : Int, (Lit.int .i64 k).wf = true → (Maps.has D (.int .i64 k) = true ↔ k ∈ L)) ∧ Maps.size D ≤ L.length ∧ (Maps.size D = L.length ↔ L.Nodup)
theorem Tw.step {D : DataW Unit} {L : List Int} {k : Int} (hk : (Lit.int .i64 k).wf = true) (h1 : Tidy D) (h2 : ∀ k : Int, (Lit.int .i64 k).wf = true → (Maps.has D (.int .i64 k) = true ↔ k ∈ L)) (h3 : Maps.size D ≤ L.length) (h4 : Maps.size D = L.length ↔ L.Nodup) :
    Tidy (D.put (.int .i64 k) (.agg [])) ∧ (∀ j : Int, (Lit.int .i64 j).wf = true → (Maps.has (D.put (.int .i64 k) (.agg [])) (.int .i64 j) = true ↔ j ∈ L ++ [k])) ∧ Maps.size (D.put (.int .i64 k) (.agg [])) ≤ (L ++ [k]).length ∧ (Maps.size (D.put (.int .i64 k) (.agg [])) = (L ++ [k]).length ↔ (L ++ [k]).Nodup) := by
  have hkl := twkeyed.key (twkey hk)
  refine ⟨h1.put hkl _, fun j hj => ?_, ?_, ?_⟩
  · by_cases e : j = k
    · subst e
      rw [has_put_same h1.isMap hkl]; simp
    · rw [has_put_other (by simpa using e), h2 j hj]; simp [e]
  · rw [size_put h1]
    split <;> simp <;> omega
  · rw [size_put h1, List.length_append, List.nodup_append]
    cases hh : Maps.has D (.int .i64 k) with
    | true =>
      have hm := (h2 k hk).1 hh
      simp only [if_true, List.length_singleton]
      constructor
      · intro e; omega
      · intro e; exact absurd rfl (e.2.2 k hm k (by simp))
    | false =>
      have hm : k ∉ L := fun e => by rw [(h2 k hk).2 e] at hh; cases hh
      simp only [Bool.false_eq_true, if_false, List.length_singleton]
      constructor
      · intro e; exact ⟨h4.1 (by omega), by simp, fun a ha b hb => by simp at hb; subst hb; exact fun e => hm (e ▸ ha)⟩
      · intro e; rw [h4.2 e.1]
def twiceP (l : List P2) : Bool := !decide (l.map (·.1)).Nodup
set_option maxRecDepth 100000 in
set_option maxHeartbeats 4000000 in
theorem q_twice (A : Option Addr) (m : Nat) (l0 : List P2) (w : World) (hl : RLies w A l0) (hlen : l0.length ≤ 1000) (hwf : ∀ r ∈ l0, WfP r) : Calls Tryz.prog 62 #[.slice A l0.length m] w fun e w' => e = .returned (.bool (twiceP l0)) ∧ Below w.heap.size w w' := by
  have hmm := @run_makeMap Tryz.prog
  have HL := Lib.hid hl
  have HWF := Lib.hid hwf
  have HM0 := Lib.hid (World.ownsMap_made (H := Unit) w Tryz.prog 3 RU)
  have HB0 : Hid (Below w.heap.size w (w.alloc (.map #[] 0))) := Lib.hid ((Below.refl _ _).alloc (Nat.le_refl _) _)
  clear hl hwf
  go_enter Tryz.func62, Tryz.ntmps62
  go_wp2_with fail
  obtain ⟨b, hb⟩ : ∃ b, b = w.heap.size := ⟨_, rfl⟩
  have HBb := Lib.hid hb
  rw [← hb] at HM0 ⊢
  generalize w.alloc (.map #[] 0) = w1 at HM0 HB0 ⊢
  clear hmm hb
  go_loopw [9] (fun v9 wr => ∃ j : Nat, j ≤ l0.length ∧ v9 = .int .i64 j ∧ Tw wr b j ((l0.take j).map (·.1)) ∧ Below w.heap.size w wr) (fun v9 _ => l0.length - (intOf v9).toNat)
  case atStart => exact ⟨0, Nat.zero_le _, rfl, ⟨_, HM0.out, tidy_empty, fun k _ => by simp [Maps.has], by simp [Maps.size], by simp [Maps.size]⟩, HB0.out⟩
  case round =>
    obtain ⟨j, hj, rfl, ⟨D, hD, t1, t2, t3, t4⟩, hB⟩ := hrel
    have HB := Lib.hid hB
    have HD := Lib.hid hD
    have H4 := Lib.hid (And.intro t1 (And.intro t2 (And.intro t3 t4)))
    have hs := hB.size
    clear hB hD t1 t2 t3 t4
    by_cases hj1 : j < l0.length
    · obtain ⟨B, o, rfl, hBs, hc⟩ := (HL.out.below HB.out) (by omega)
      obtain ⟨k0, k1⟩ := hc j hj1
      have HW := Lib.hid (HWF.out l0[j] (List.getElem_mem hj1)).1
      have HTK : Hid ((l0.take (j + 1)).map (·.1) = (l0.take j).map (·.1) ++ [l0[j].1]) := Lib.hid (by rw [List.take_succ_eq_append_getElem hj1, List.map_append]; rfl)
      clear hc
      generalize l0[j] = r at k0 k1 HW HTK
      have HD2 : Hid ((wr.alloc (.cells #[.int .i64 r.1, .int .i64 r.2] 33)).ownsMap Tryz.prog 3 RU b j D) := Lib.hid (HD.out.kept (World.grownBy_alloc wr _ none) (by simp))
      have HKEY := Lib.hid (twkey HW.out)
      go_wp2_with (at_mapUpdate; refine wpList_mapUpdate_own _ rfl _ _ _ 161 rfl 3 162 twkeyed Tryz.underlying161 RU b j D rfl HD2.out (by unfold maxLen; omega) _ _ _ rfl rfl HKEY.out (.agg []) [] rfl ?_; intro w5 hown5 hg5)
      have HO5 := Lib.hid hown5
      have HB5 : Hid (Below w.heap.size w w5) := Lib.hid ((HB.out.alloc hs _).grown hg5 (by simp; omega) fun k e => by cases e; rw [HBb.out]; exact Nat.le_refl _)
      clear hown5 hg5
      go_roundw
      case rel =>
        obtain ⟨t1, t2, t3, t4⟩ := Tw.step HW.out H4.out.1 H4.out.2.1 H4.out.2.2.1 H4.out.2.2.2
        exact ⟨j + 1, by omega, by go_num, by rw [HTK.out]; exact ⟨_, HO5.out, t1, t2, t3, t4⟩, HB5.out⟩
      case measure => simp [intOf]; omega
    · obtain rfl : j = l0.length := by omega
      have hln := fun ty => HD.out.len Tryz.underlying161 ty
      obtain ⟨n, hn⟩ : ∃ n, n = Maps.size D := ⟨_, rfl⟩
      rw [← hn] at hln
      have HE : Hid (twiceP l0 = decide (n < l0.length)) := Lib.hid (by
        obtain ⟨t1, t2, t3, t4⟩ := H4.out
        rw [List.take_length, List.length_map, ← hn] at t3 t4
        unfold twiceP
        by_cases e : (l0.map (·.1)).Nodup
        · rw [decide_eq_true e, decide_eq_false (by have := t4.2 e; omega)]; rfl
        · rw [decide_eq_false e, decide_eq_true (by have : n ≠ l0.length := fun k => e (t4.1 k); omega)]; rfl)
      clear hn
      go_wp2_with fail
      go_ret
      exact ⟨by rw [HE.out]; rfl, HB.out⟩
end
end Go.Proofs.YtnadcdgpfopcaaaGreat
