/- Package name: Find; the reference's At, SameEntries; the law's Light. -/
import Derived.Test.YtohiabkjbieflaaEnA
namespace Go.Proofs.Ytohiabkjbieflaa
open Go.RowKit Go.Lib

theorem toList_iff (a b : ByteArray) : a.toList = b.toList ↔ a = b := ⟨fun h => byte_ext' (by rw [← Lib.toList_data, ← Lib.toList_data]; exact h), fun h => by rw [h]⟩
theorem neq_ent (w : World) (s t : ByteArray) (n m : Int) : (binOp .neq 38 (.agg #[.string s, .int .i64 n]) (.agg #[.string t, .int .i64 m])).run Try.prog w = .ok (.bool (!decide ((s, n) = (t, m)))) w := by
  have e : ((s, n) = (t, m)) ↔ (s = t ∧ n = m) := Prod.mk.injEq .. ▸ Iff.rfl
  have hl := toList_iff s t
  by_cases h1 : s = t <;> by_cases h2 : n = m <;> simp [go_sem, e, h1, h2, hl]
set_option maxRecDepth 100000 in
set_option maxHeartbeats 2000000 in
theorem same_any (A1 A2 : Option Addr) (c1 c2 : Nat) (l m : List Ent) (w : World) (h1 : ELies w A1 l) (h2 : ELies w A2 m) (hl : l.length ≤ maxLen) (hm : m.length ≤ maxLen) : Calls Try.prog 32 #[.slice A1 l.length c1, .slice A2 m.length c2] w fun x w' => x = .returned (.bool (decide (l = m))) ∧ Below w.heap.size w w' := by
  have hmx : maxLen = 9223372036854775807 := rfl
  by_cases hlm : l.length = m.length
  case neg =>
    rw [decide_eq_false (fun e => hlm (by rw [e]))]
    have d1 : ((l.length : Int) != (m.length : Int)) = true := by rw [bne_iff_ne]; omega
    go_enter Try.func32, Try.ntmps32
    go_wp2_with fail
    go_ret
    exact ⟨rfl, Below.refl _ _⟩
  have d1 : ((l.length : Int) != (m.length : Int)) = false := by rw [bne_eq_false_iff_eq]; omega
  have HLM := Lib.hid hlm
  clear hlm
  have H1 := Lib.hid h1
  have H2 := Lib.hid h2
  obtain ⟨R, hR⟩ : ∃ R, decide (l = m) = R := ⟨_, rfl⟩
  rw [hR]
  replace hR := Lib.hid hR
  clear h1 h2
  go_enter Try.func32, Try.ntmps32
  go_wp2_with fail
  go_loopw [5, 13] (fun _ v13 wr => ∃ j : Nat, j ≤ l.length ∧ v13 = .int .i64 j ∧ Hid (∀ i (h : i < l.length) (h' : i < m.length), i < j → l[i] = m[i]) ∧ Below w.heap.size w wr) (fun _ v13 _ => l.length - (RowKit.intOf v13).toNat)
  case atStart => exact ⟨0, Nat.zero_le _, rfl, Lib.hid fun i _ _ h => absurd h (Nat.not_lt_zero i), Below.refl _ _⟩
  case round =>
    obtain ⟨j, hj, rfl, HI, hB⟩ := hrel
    have HB := Lib.hid hB
    clear hB
    by_cases hj1 : j < l.length
    · have hj2 : j < m.length := by have := HLM.out; omega
      obtain ⟨B, o, rfl, hBs, hc⟩ := (H1.out.below HB.out) (by omega)
      obtain ⟨B', o', rfl, hBs', hc'⟩ := (H2.out.below HB.out) (by omega)
      have d2 : decide ((j : Int) < (l.length : Int)) = true := decide_eq_true (by omega)
      obtain ⟨k0, k1⟩ := hc j hj1
      obtain ⟨p0, p1⟩ := hc' j hj2
      obtain ⟨x, hx⟩ : ∃ x, l[j] = x := ⟨_, rfl⟩
      obtain ⟨y, hy⟩ : ∃ y, m[j] = y := ⟨_, rfl⟩
      rw [hx] at k0 k1
      rw [hy] at p0 p1
      have HX := Lib.hid hx
      have HY := Lib.hid hy
      clear hc hc' hx hy
      obtain ⟨s, n⟩ := x
      obtain ⟨t, k⟩ := y
      have hne := fun w => neq_ent w s t n k
      by_cases e : (s, n) = (t, k)
      · have HE := Lib.hid e
        rw [decide_eq_true e] at hne
        clear e
        go_wp2_with fail
        go_quiet (fail)
        go_wp2_with fail
        go_roundw
        case rel =>
          refine ⟨j + 1, by omega, by go_num, Lib.hid fun i h h' hi => ?_, by first | exact HB.out | exact HB.out.drew | exact drewN_below HB.out _⟩
          by_cases e : i = j
          · subst e; rw [HX.out, HY.out]; exact HE.out
          · exact HI.out i h h' (by omega)
        case measure => simp [RowKit.intOf]; omega
      · have HE : Hid (R = false) := Lib.hid (by
          rw [← hR.out]
          refine decide_eq_false fun hh => e ?_
          have h3 := HX.out
          have h4 := HY.out
          subst hh
          rw [← h3, ← h4])
        rw [decide_eq_false e] at hne
        clear e
        go_wp2_with fail
        go_quiet (fail)
        go_wp2_with fail
        go_ret
        exact ⟨by rw [HE.out]; rfl, by first | exact HB.out | exact HB.out.drew | exact drewN_below HB.out _⟩
    · have d2 : decide ((j : Int) < (l.length : Int)) = false := decide_eq_false (by omega)
      have HR2 : Hid (R = true) := Lib.hid (by
        rw [← hR.out]
        exact decide_eq_true (List.ext_getElem HLM.out fun i h h' => HI.out i h h' (by omega)))
      go_wp2_with fail
      go_ret
      exact ⟨by rw [HR2.out]; rfl, HB.out⟩
/-- What Light counts, as ints are. -/
def sumW (l : List Ent) : Int := l.foldl (fun n e => IntKind.i64.wrap (n + (e.1.size : Int))) 0
theorem sumW_snoc (l : List Ent) (e : Ent) : sumW (l ++ [e]) = IntKind.i64.wrap (sumW l + (e.1.size : Int)) := by simp [sumW]
def lightV (l : List Ent) : Int := if l.length ≤ 60 ∧ sumW l ≤ 1000 then 0 else 1
theorem lightV_cases (l : List Ent) : lightV l = 0 ∧ l.length ≤ 60 ∨ lightV l = 1 := by
  unfold lightV
  split
  · next h => exact .inl ⟨rfl, h.1⟩
  · exact .inr rfl
set_option maxRecDepth 100000 in
set_option maxHeartbeats 2000000 in
theorem light_any (A : Option Addr) (c : Nat) (l : List Ent) (w : World) (hA : ELies w A l) (hl : l.length ≤ maxLen) : Calls Try.prog 23 #[.slice A l.length c] w fun x w' => x = .returned (.int .i64 (lightV l)) ∧ Below w.heap.size w w' := by
  have hmx : maxLen = 9223372036854775807 := rfl
  have HA := Lib.hid hA
  obtain ⟨R, hR⟩ : ∃ R, lightV l = R := ⟨_, rfl⟩
  rw [hR]
  have HR := Lib.hid hR
  clear hA hR
  go_enter Try.func23, Try.ntmps23
  go_wp2_with fail
  go_loopw [3, 5, 8] (fun v3 _ v8 wr => ∃ (j : Nat) (n : Int), j ≤ l.length ∧ v8 = .int .i64 j ∧ v3 = .int .i64 n ∧ Hid (n = sumW (l.take j)) ∧ Below w.heap.size w wr) (fun _ _ v8 _ => l.length - (RowKit.intOf v8).toNat)
  case atStart => exact ⟨0, 0, Nat.zero_le _, rfl, rfl, Lib.hid rfl, Below.refl _ _⟩
  case round =>
    obtain ⟨j, n, hj, rfl, rfl, HS, hB⟩ := hrel
    have HB := Lib.hid hB
    have hs := hB.size
    clear hB
    by_cases hj1 : j < l.length
    · obtain ⟨B, o, rfl, hBs, hc⟩ := (HA.out.below HB.out) (by omega)
      have d2 : decide ((j : Int) < (l.length : Int)) = true := decide_eq_true (by omega)
      obtain ⟨k0, k1⟩ := hc j hj1
      have HS2 : Hid (sumW (l.take (j + 1)) = IntKind.i64.wrap (n + ((l[j].1).size : Int))) := Lib.hid (by rw [List.take_succ_eq_append_getElem hj1, sumW_snoc, ← HS.out])
      generalize l[j] = q at k0 k1 HS2
      obtain ⟨t, z⟩ := q
      have HBW := Lib.hid (HB.out.alloc (by omega) (.cells #[.string t, .int .i64 z] 38))
      clear hc
      go_wp2_with fail
      go_roundw
      case rel => exact ⟨j + 1, _, by omega, by go_num, rfl, Lib.hid (by rw [HS2.out, IntWalk.i64_left]), HBW.out⟩
      case measure => simp [RowKit.intOf]; omega
    · have d2 : decide ((j : Int) < (l.length : Int)) = false := decide_eq_false (by omega)
      have HS2 : Hid (n = sumW l) := Lib.hid (by rw [HS.out, List.take_of_length_le (by omega)])
      by_cases h60 : l.length ≤ 60
      · have d3 : decide ((60 : Int) < (l.length : Int)) = false := decide_eq_false (by omega)
        have H60 := Lib.hid h60
        clear h60
        by_cases hn : 1000 < n
        · have d4 : decide (1000 < n) = true := decide_eq_true hn
          have HE : Hid (R = 1) := Lib.hid (by rw [← HR.out]; unfold lightV; rw [if_neg (by rw [← HS2.out]; omega)])
          go_wp2_with fail
          go_ret
          exact ⟨by rw [HE.out]; rfl, HB.out⟩
        · have d4 : decide (1000 < n) = false := decide_eq_false hn
          have HE : Hid (R = 0) := Lib.hid (by rw [← HR.out]; unfold lightV; rw [if_pos ⟨H60.out, by rw [← HS2.out]; omega⟩])
          go_wp2_with fail
          go_ret
          exact ⟨by rw [HE.out]; rfl, HB.out⟩
      · have d3 : decide ((60 : Int) < (l.length : Int)) = true := decide_eq_true (by omega)
        have HE : Hid (R = 1) := Lib.hid (by rw [← HR.out]; unfold lightV; rw [if_neg (by omega)])
        go_wp2_with fail
        go_ret
        exact ⟨by rw [HE.out]; rfl, HB.out⟩
end Go.Proofs.Ytohiabkjbieflaa
