/- slices.Equal, slices.Clone of ints and of entries (written by mkeq.py). -/
import Derived.Test.YtohiabkjbieflaaNdK
namespace Go.Proofs.Ytohiabkjbieflaa
open Go.RowKit Go.Lib

set_option maxRecDepth 100000 in
set_option maxHeartbeats 2000000 in
theorem eqi_any (A1 A2 : Option Addr) (c1 c2 : Nat) (l m : List Int) (w : World) (h1 : ILies w A1 l) (h2 : ILies w A2 m) (hl : l.length ≤ maxLen) (hm : m.length ≤ maxLen) : Calls Try.prog 29 #[.slice A1 l.length c1, .slice A2 m.length c2] w fun x w' => x = .returned (.bool (decide (l = m))) ∧ Below w.heap.size w w' := by
  have hmx : maxLen = 9223372036854775807 := rfl
  by_cases hlm : l.length = m.length
  case neg =>
    rw [decide_eq_false (fun e => hlm (by rw [e]))]
    have d1 : ((l.length : Int) != (m.length : Int)) = true := by rw [bne_iff_ne]; omega
    go_enter Try.func29, Try.ntmps29
    go_wp2_with fail
    go_ret
    exact ⟨rfl, Below.refl _ _⟩
  have d1 : ((l.length : Int) != (m.length : Int)) = false := by rw [bne_eq_false_iff_eq]; omega
  have HLM := Lib.hid hlm
  clear hlm
  have H1 := Lib.hid h1
  have H2 := Lib.hid h2
  obtain ⟨R, hR⟩ : ∃ R, decide (l = m) = R := ⟨_, rfl⟩
  rw [hR]
  replace hR := Lib.hid hR
  clear h1 h2
  go_enter Try.func29, Try.ntmps29
  go_wp2_with fail
  go_loopw [5, 13] (fun _ v13 wr => ∃ j : Nat, j ≤ l.length ∧ v13 = .int .i64 j ∧ Hid (∀ i (h : i < l.length) (h' : i < m.length), i < j → l[i] = m[i]) ∧ Below w.heap.size w wr) (fun _ v13 _ => l.length - (RowKit.intOf v13).toNat)
  case atStart => exact ⟨0, Nat.zero_le _, rfl, Lib.hid fun i _ _ h => absurd h (Nat.not_lt_zero i), Below.refl _ _⟩
  case round =>
    obtain ⟨j, hj, rfl, HI, hB⟩ := hrel
    have HB := Lib.hid hB
    clear hB
    by_cases hj1 : j < l.length
    · have hj2 : j < m.length := by have := HLM.out; omega
      obtain ⟨B, o, rfl, hBs, hc⟩ := (H1.out.below HB.out) (by omega)
      obtain ⟨B', o', rfl, hBs', hc'⟩ := (H2.out.below HB.out) (by omega)
      have d2 : decide ((j : Int) < (l.length : Int)) = true := decide_eq_true (by omega)
      have k0 := hc j hj1
      have p0 := hc' j hj2
      obtain ⟨x, hx⟩ : ∃ x, l[j] = x := ⟨_, rfl⟩
      obtain ⟨y, hy⟩ : ∃ y, m[j] = y := ⟨_, rfl⟩
      rw [hx] at k0
      rw [hy] at p0
      have HX := Lib.hid hx
      have HY := Lib.hid hy
      clear hc hc' hx hy
      by_cases e : x = y
      · have HE := Lib.hid e
        have hne : (x != y) = false := by simp [e]
        clear e
        go_wp2_with fail
        go_quiet (fail)
        go_wp2_with fail
        go_roundw
        case rel =>
          refine ⟨j + 1, by omega, by go_num, Lib.hid fun i h h' hi => ?_, by first | exact HB.out | exact HB.out.drew | exact drewN_below HB.out _⟩
          by_cases e : i = j
          · subst e; rw [HX.out, HY.out]; exact HE.out
          · exact HI.out i h h' (by omega)
        case measure => simp [RowKit.intOf]; omega
      · have HE : Hid (R = false) := Lib.hid (by
          rw [← hR.out]
          refine decide_eq_false fun hh => e ?_
          have h3 := HX.out
          have h4 := HY.out
          subst hh
          rw [← h3, ← h4])
        have hne : (x != y) = true := by simp [e]
        clear e
        go_wp2_with fail
        go_quiet (fail)
        go_wp2_with fail
        go_ret
        exact ⟨by rw [HE.out]; rfl, by first | exact HB.out | exact HB.out.drew | exact drewN_below HB.out _⟩
    · have d2 : decide ((j : Int) < (l.length : Int)) = false := decide_eq_false (by omega)
      have HR2 : Hid (R = true) := Lib.hid (by
        rw [← hR.out]
        exact decide_eq_true (List.ext_getElem HLM.out fun i h h' => HI.out i h h' (by omega)))
      go_wp2_with fail
      go_ret
      exact ⟨by rw [HR2.out]; rfl, HB.out⟩
set_option maxRecDepth 100000 in
set_option maxHeartbeats 2000000 in
theorem eqe_any (A1 A2 : Option Addr) (c1 c2 : Nat) (l m : List Ent) (w : World) (h1 : ELies w A1 l) (h2 : ELies w A2 m) (hl : l.length ≤ maxLen) (hm : m.length ≤ maxLen) : Calls Try.prog 30 #[.slice A1 l.length c1, .slice A2 m.length c2] w fun x w' => x = .returned (.bool (decide (l = m))) ∧ Below w.heap.size w w' := by
  have hmx : maxLen = 9223372036854775807 := rfl
  by_cases hlm : l.length = m.length
  case neg =>
    rw [decide_eq_false (fun e => hlm (by rw [e]))]
    have d1 : ((l.length : Int) != (m.length : Int)) = true := by rw [bne_iff_ne]; omega
    go_enter Try.func30, Try.ntmps30
    go_wp2_with fail
    go_ret
    exact ⟨rfl, Below.refl _ _⟩
  have d1 : ((l.length : Int) != (m.length : Int)) = false := by rw [bne_eq_false_iff_eq]; omega
  have HLM := Lib.hid hlm
  clear hlm
  have H1 := Lib.hid h1
  have H2 := Lib.hid h2
  obtain ⟨R, hR⟩ : ∃ R, decide (l = m) = R := ⟨_, rfl⟩
  rw [hR]
  replace hR := Lib.hid hR
  clear h1 h2
  go_enter Try.func30, Try.ntmps30
  go_wp2_with fail
  go_loopw [5, 13] (fun _ v13 wr => ∃ j : Nat, j ≤ l.length ∧ v13 = .int .i64 j ∧ Hid (∀ i (h : i < l.length) (h' : i < m.length), i < j → l[i] = m[i]) ∧ Below w.heap.size w wr) (fun _ v13 _ => l.length - (RowKit.intOf v13).toNat)
  case atStart => exact ⟨0, Nat.zero_le _, rfl, Lib.hid fun i _ _ h => absurd h (Nat.not_lt_zero i), Below.refl _ _⟩
  case round =>
    obtain ⟨j, hj, rfl, HI, hB⟩ := hrel
    have HB := Lib.hid hB
    clear hB
    by_cases hj1 : j < l.length
    · have hj2 : j < m.length := by have := HLM.out; omega
      obtain ⟨B, o, rfl, hBs, hc⟩ := (H1.out.below HB.out) (by omega)
      obtain ⟨B', o', rfl, hBs', hc'⟩ := (H2.out.below HB.out) (by omega)
      have d2 : decide ((j : Int) < (l.length : Int)) = true := decide_eq_true (by omega)
      obtain ⟨k0, k1⟩ := hc j hj1
      obtain ⟨p0, p1⟩ := hc' j hj2
      obtain ⟨x, hx⟩ : ∃ x, l[j] = x := ⟨_, rfl⟩
      obtain ⟨y, hy⟩ : ∃ y, m[j] = y := ⟨_, rfl⟩
      rw [hx] at k0 k1
      rw [hy] at p0 p1
      have HX := Lib.hid hx
      have HY := Lib.hid hy
      clear hc hc' hx hy
      obtain ⟨s, n⟩ := x
      obtain ⟨t, k⟩ := y
      have hne := fun w => neq_ent w s t n k
      by_cases e : (s, n) = (t, k)
      · have HE := Lib.hid e
        rw [decide_eq_true e] at hne
        clear e
        go_wp2_with fail
        go_quiet (fail)
        go_wp2_with fail
        go_roundw
        case rel =>
          refine ⟨j + 1, by omega, by go_num, Lib.hid fun i h h' hi => ?_, by first | exact HB.out | exact HB.out.drew | exact drewN_below HB.out _⟩
          by_cases e : i = j
          · subst e; rw [HX.out, HY.out]; exact HE.out
          · exact HI.out i h h' (by omega)
        case measure => simp [RowKit.intOf]; omega
      · have HE : Hid (R = false) := Lib.hid (by
          rw [← hR.out]
          refine decide_eq_false fun hh => e ?_
          have h3 := HX.out
          have h4 := HY.out
          subst hh
          rw [← h3, ← h4])
        rw [decide_eq_false e] at hne
        clear e
        go_wp2_with fail
        go_quiet (fail)
        go_wp2_with fail
        go_ret
        exact ⟨by rw [HE.out]; rfl, by first | exact HB.out | exact HB.out.drew | exact drewN_below HB.out _⟩
    · have d2 : decide ((j : Int) < (l.length : Int)) = false := decide_eq_false (by omega)
      have HR2 : Hid (R = true) := Lib.hid (by
        rw [← hR.out]
        exact decide_eq_true (List.ext_getElem HLM.out fun i h h' => HI.out i h h' (by omega)))
      go_wp2_with fail
      go_ret
      exact ⟨by rw [HR2.out]; rfl, HB.out⟩
set_option maxRecDepth 100000 in
set_option maxHeartbeats 2000000 in
theorem clonei_any (A : Option Addr) (c : Nat) (l : List Int) (w : World) (hl : ILies w A l) (hA : A = none → l = [] ∧ c = 0) (h6 : l.length ≤ 60) : Calls Try.prog 33 #[.slice A l.length c] w fun e w' =>
    ∃ A' c', e = .returned (.slice A' l.length c') ∧ IOwn w' w.heap.size (.slice A' l.length c') l ∧ Below w.heap.size w w' := by
  cases A with
  | none =>
    obtain ⟨rfl, rfl⟩ := hA rfl
    have hn := fun w1 : World => Lib.run_eql_slice_nil (P := Try.prog) w1 22 3 none 0 0 0 0 Try.underlying22
    simp only [Option.isNone] at hn
    go_enter Try.func33, Try.ntmps33
    go_wp2_with fail
    go_ret
    exact ⟨none, 0, rfl, iown_nil _ _, Below.refl _ _⟩
  | some ad =>
    have HL := Lib.hid hl
    have HX := Lib.hid (heap_alloc_new w (.cells #[] 3))
    have HB := Lib.hid ((Below.refl w.heap.size w).alloc (Nat.le_refl _) (.cells #[] 3))
    have hn := fun w1 : World => Lib.run_eql_slice_nil (P := Try.prog) w1 22 3 (some ad) l.length c 0 0 Try.underlying22
    simp only [Option.isNone] at hn
    clear hl hA
    go_enter Try.func33, Try.ntmps33
    go_wp2_with (at_builtin; refine wpList_iapp rfl _ _ rfl w.heap.size (.slice (some ⟨w.heap.size, 0, none⟩) 0 0) ([] : List Int) l (some ad) c rfl rfl (iown_empty HX.out (Nat.le_refl _)) (HL.out.below HB.out) (fun e => by cases e) (by rw [List.length_nil]; omega) HB.out.size ?_; intro q cap w2 hown hg)
    simp only [List.nil_append, List.length_nil, Nat.zero_add] at hown
    have HO := Lib.hid hown
    have HB2 := Lib.hid (HB.out.grown hg HB.out.size fun k e => by cases e; exact Nat.le_refl _)
    clear hown hg
    go_ret
    exact ⟨q, cap, by first | rfl | simp, HO.out, HB2.out⟩
set_option maxRecDepth 100000 in
set_option maxHeartbeats 2000000 in
theorem clonee_any (A : Option Addr) (c : Nat) (l : List Ent) (w : World) (hl : ELies w A l) (hA : A = none → l = [] ∧ c = 0) (h6 : l.length ≤ 60) : Calls Try.prog 34 #[.slice A l.length c] w fun e w' =>
    ∃ A' c', e = .returned (.slice A' l.length c') ∧ EOwn w' w.heap.size (.slice A' l.length c') l ∧ Below w.heap.size w w' := by
  cases A with
  | none =>
    obtain ⟨rfl, rfl⟩ := hA rfl
    have hn := fun w1 : World => Lib.run_eql_slice_nil (P := Try.prog) w1 23 38 none 0 0 0 0 Try.underlying23
    simp only [Option.isNone] at hn
    go_enter Try.func34, Try.ntmps34
    go_wp2_with fail
    go_ret
    exact ⟨none, 0, rfl, eown_nil _ _, Below.refl _ _⟩
  | some ad =>
    have HL := Lib.hid hl
    have HX := Lib.hid (heap_alloc_new w (.cells #[] 38))
    have HB := Lib.hid ((Below.refl w.heap.size w).alloc (Nat.le_refl _) (.cells #[] 38))
    have hn := fun w1 : World => Lib.run_eql_slice_nil (P := Try.prog) w1 23 38 (some ad) l.length c 0 0 Try.underlying23
    simp only [Option.isNone] at hn
    clear hl hA
    go_enter Try.func34, Try.ntmps34
    go_wp2_with (at_builtin; refine wpList_eapp rfl _ _ rfl w.heap.size (.slice (some ⟨w.heap.size, 0, none⟩) 0 0) ([] : List Ent) l (some ad) c rfl rfl (eown_empty HX.out (Nat.le_refl _)) (HL.out.below HB.out) (fun e => by cases e) (by rw [List.length_nil]; omega) HB.out.size ?_; intro q cap w2 hown hg)
    simp only [List.nil_append, List.length_nil, Nat.zero_add] at hown
    have HO := Lib.hid hown
    have HB2 := Lib.hid (HB.out.grown hg HB.out.size fun k e => by cases e; exact Nat.le_refl _)
    clear hown hg
    go_ret
    exact ⟨q, cap, by first | rfl | simp, HO.out, HB2.out⟩
end Go.Proofs.Ytohiabkjbieflaa
