/- Package plan, and the reference's: Need, Room, Floor. -/
import Derived.Test.YtfnhmnfhkhjojaaPlan
namespace Go.Proofs.Ytfnhmnfhkhjojaa
open Go.RowKit

theorem wrap64_id (n : Int) (h : -9223372036854775808 ≤ n ∧ n ≤ 9223372036854775807) : wrap64 n = n := by unfold wrap64; omega
set_option maxRecDepth 100000 in
set_option maxHeartbeats 1000000 in
theorem needp_any (B P S D U : Int) (w : World) :
    Calls Try.prog 10 #[.agg #[.int .i64 B, .int .i64 P, .int .i64 S, .int .i64 D, .int .i64 U]] w fun e w' => e = .returned (.int .i64 (needP B P S D U)) ∧ Below w.heap.size w w' := by
  have hb0 := (Below.refl w.heap.size w).alloc (Nat.le_refl _) (.cells #[.int .i64 B, .int .i64 P, .int .i64 S, .int .i64 D, .int .i64 U] 23)
  by_cases hM : MayP B P S D U
  · have HM := Lib.hid hM
    have hd := hM.2.2.2.1
    clear hM
    go_enter Try.func10, Try.ntmps10
    go_wp2_with (go_at_call 8; refine (mayp_any _ _ _ _ _ _).mono ?_; rintro e w1 ⟨rfl, hb⟩; rw [decide_eq_true HM.out]; obtain ⟨_, _, _, k3, _⟩ := cells5 ((hb.block w.heap.size (by simp)).trans (heap_alloc_new w _)); have HB := Lib.hid (hb0.trans (hb.mono (by simp))); clear hb)
    go_ret
    exact ⟨ret_int (by unfold needP; rw [if_pos HM.out]; omega), HB.out⟩
  · have HM := Lib.hid hM
    clear hM
    go_enter Try.func10, Try.ntmps10
    go_wp2_with (go_at_call 8; refine (mayp_any _ _ _ _ _ _).mono ?_; rintro e w1 ⟨rfl, hb⟩; rw [decide_eq_false HM.out]; obtain ⟨_, _, _, _, _⟩ := cells5 ((hb.block w.heap.size (by simp)).trans (heap_alloc_new w _)); have HB := Lib.hid (hb0.trans (hb.mono (by simp))); clear hb)
    go_ret
    exact ⟨ret_int (by unfold needP; rw [if_neg HM.out]), HB.out⟩
set_option maxRecDepth 100000 in
set_option maxHeartbeats 1000000 in
theorem roomp_any (B P S D U bad : Int) (w : World) (hbd : (Lit.int .i64 bad).wf = true) :
    Calls Try.prog 12 #[.agg #[.int .i64 B, .int .i64 P, .int .i64 S, .int .i64 D, .int .i64 U], .int .i64 bad] w fun e w' => e = .returned (.int .i64 (roomP B P S D U bad)) ∧ Below w.heap.size w w' := by
  have hb0 := (Below.refl w.heap.size w).alloc (Nat.le_refl _) (.cells #[.int .i64 B, .int .i64 P, .int .i64 S, .int .i64 D, .int .i64 U] 23)
  have hbd1 := wf_le hbd
  have HR := Lib.hid (show roomP B P S D U bad = roomP B P S D U bad from rfl)
  by_cases hM : MayP B P S D U
  · have HM := Lib.hid hM
    have hB := hM.1
    have hP := hM.2.1
    have hS := hM.2.2.1
    clear hM
    by_cases h2 : 0 ≤ bad ∧ bad ≤ B
    · have H2 := Lib.hid h2
      by_cases h3 : 0 < B - bad - S - 1
      · have hp0 : 0 < (B - bad - S - 1) * P := Int.mul_pos (by omega) (by omega)
        have hp1 : (B - bad - S - 1) * P ≤ 64 * 32 := Int.mul_le_mul (by omega) (by omega) (by omega) (by omega)
        have e : roomP B P S D U bad = (B - bad - S - 1) * P := by unfold roomP; rw [if_pos ⟨HM.out, h2⟩, if_pos h3]
        have E := Lib.hid e
        clear e
        go_enter Try.func12, Try.ntmps12
        go_wp2_with (first | (go_at_call 8; refine (mayp_any _ _ _ _ _ _).mono ?_; rintro e w1 ⟨rfl, hb⟩; rw [decide_eq_true HM.out]; obtain ⟨k0, k1, k2, k3, k4⟩ := cells5 ((hb.block w.heap.size (by simp)).trans (heap_alloc_new w _)); have HB := Lib.hid (hb0.trans (hb.mono (by simp))); clear hb) | (go_at_call 19; refine (withinp_any _ _ _ _).mono ?_; rintro e w' ⟨rfl, rfl⟩; rw [decide_eq_true H2.out]))
        all_goals
          go_ret
          exact ⟨ret_int (by refine Eq.trans ?_ E.out.symm; have hw := wrap64_id ((B - bad - S - 1) * P) (by omega); first | rfl | exact wrap64_id 0 (by decide) | (rw [hw]; done) | (rw [hw]; omega) | omega | (obtain h0 | h0 : B - bad - S - 1 = 0 ∨ B - bad - S - 1 ≠ 0 := Decidable.em _ <;> first | exact (by rw [h0, Int.zero_mul] : (B - bad - S - 1) * P = 0) ▸ wrap64_id 0 (by decide) | (rw [show (B - bad - S - 1) * P = 0 by rw [h0, Int.zero_mul]]; exact wrap64_id 0 (by decide)) | omega)), HB.out⟩
      · have hp0 : (B - bad - S - 1) * P ≤ 0 := Int.mul_nonpos_of_nonpos_of_nonneg (by omega) (by omega)
        have hp1 : -(64 * 32) ≤ (B - bad - S - 1) * P := by
          have := Int.mul_le_mul (a := -(B - bad - S - 1)) (b := P) (c := 64) (d := 32) (by omega) (by omega) (by omega) (by omega)
          rw [Int.neg_mul] at this; omega
        have e : roomP B P S D U bad = 0 := by unfold roomP; rw [if_pos ⟨HM.out, h2⟩, if_neg h3]
        have E := Lib.hid e
        clear e
        go_enter Try.func12, Try.ntmps12
        go_wp2_with (first | (go_at_call 8; refine (mayp_any _ _ _ _ _ _).mono ?_; rintro e w1 ⟨rfl, hb⟩; rw [decide_eq_true HM.out]; obtain ⟨k0, k1, k2, k3, k4⟩ := cells5 ((hb.block w.heap.size (by simp)).trans (heap_alloc_new w _)); have HB := Lib.hid (hb0.trans (hb.mono (by simp))); clear hb) | (go_at_call 19; refine (withinp_any _ _ _ _).mono ?_; rintro e w' ⟨rfl, rfl⟩; rw [decide_eq_true H2.out]))
        all_goals
          go_ret
          exact ⟨ret_int (by refine Eq.trans ?_ E.out.symm; have hw := wrap64_id ((B - bad - S - 1) * P) (by omega); first | rfl | exact wrap64_id 0 (by decide) | (rw [hw]; done) | (rw [hw]; omega) | omega | (obtain h0 | h0 : B - bad - S - 1 = 0 ∨ B - bad - S - 1 ≠ 0 := Decidable.em _ <;> first | exact (by rw [h0, Int.zero_mul] : (B - bad - S - 1) * P = 0) ▸ wrap64_id 0 (by decide) | (rw [show (B - bad - S - 1) * P = 0 by rw [h0, Int.zero_mul]]; exact wrap64_id 0 (by decide)) | omega)), HB.out⟩
    · have H2 := Lib.hid h2
      have E := Lib.hid (show roomP B P S D U bad = 0 by unfold roomP; rw [if_neg (fun h => h2 h.2)])
      clear h2
      go_enter Try.func12, Try.ntmps12
      go_wp2_with (first | (go_at_call 8; refine (mayp_any _ _ _ _ _ _).mono ?_; rintro e w1 ⟨rfl, hb⟩; rw [decide_eq_true HM.out]; obtain ⟨k0, k1, k2, k3, k4⟩ := cells5 ((hb.block w.heap.size (by simp)).trans (heap_alloc_new w _)); have HB := Lib.hid (hb0.trans (hb.mono (by simp))); clear hb) | (go_at_call 19; refine (withinp_any _ _ _ _).mono ?_; rintro e w' ⟨rfl, rfl⟩; rw [decide_eq_false H2.out]))
      all_goals
        go_ret
        exact ⟨ret_int (by rw [E.out]), HB.out⟩
  · have HM := Lib.hid hM
    have E := Lib.hid (show roomP B P S D U bad = 0 by unfold roomP; rw [if_neg (fun h => hM h.1)])
    clear hM
    go_enter Try.func12, Try.ntmps12
    go_wp2_with (go_at_call 8; refine (mayp_any _ _ _ _ _ _).mono ?_; rintro e w1 ⟨rfl, hb⟩; rw [decide_eq_false HM.out]; obtain ⟨_, _, _, _, _⟩ := cells5 ((hb.block w.heap.size (by simp)).trans (heap_alloc_new w _)); have HB := Lib.hid (hb0.trans (hb.mono (by simp))); clear hb)
    go_ret
    exact ⟨ret_int (by rw [E.out]), HB.out⟩
set_option maxRecDepth 100000 in
set_option maxHeartbeats 1000000 in
theorem floorp_any (B P S D U bad : Int) (w : World) (hbd : (Lit.int .i64 bad).wf = true) :
    Calls Try.prog 16 #[.agg #[.int .i64 B, .int .i64 P, .int .i64 S, .int .i64 D, .int .i64 U], .int .i64 bad] w fun e w' => e = .returned (.int .i64 (floorP B P S D U bad)) ∧ Below w.heap.size w w' := by
  have hb0 := (Below.refl w.heap.size w).alloc (Nat.le_refl _) (.cells #[.int .i64 B, .int .i64 P, .int .i64 S, .int .i64 D, .int .i64 U] 23)
  have hbd1 := wf_le hbd
  by_cases hM : MayP B P S D U
  · have HM := Lib.hid hM
    have hS := hM.2.2.1
    clear hM
    by_cases h2 : 0 ≤ bad
    · by_cases h3 : bad ≤ S
      all_goals
        have e : floorP B P S D U bad = if bad ≤ S then S - bad + 1 else 0 := by unfold floorP; rw [if_pos ⟨HM.out, h2⟩]
        (first | rw [if_pos h3] at e | rw [if_neg h3] at e)
        have E := Lib.hid e
        clear e
        go_enter Try.func16, Try.ntmps16
        go_wp2_with (go_at_call 8; refine (mayp_any _ _ _ _ _ _).mono ?_; rintro e w1 ⟨rfl, hb⟩; rw [decide_eq_true HM.out]; obtain ⟨_, _, k2, _, _⟩ := cells5 ((hb.block w.heap.size (by simp)).trans (heap_alloc_new w _)); have HB := Lib.hid (hb0.trans (hb.mono (by simp))); clear hb)
        all_goals
          go_ret
          exact ⟨ret_int (by refine Eq.trans ?_ E.out.symm; first | rfl | omega), HB.out⟩
    · have E := Lib.hid (show floorP B P S D U bad = 0 by unfold floorP; rw [if_neg (fun h => h2 h.2)])
      go_enter Try.func16, Try.ntmps16
      go_wp2_with (go_at_call 8; refine (mayp_any _ _ _ _ _ _).mono ?_; rintro e w1 ⟨rfl, hb⟩; rw [decide_eq_true HM.out]; obtain ⟨_, _, k2, _, _⟩ := cells5 ((hb.block w.heap.size (by simp)).trans (heap_alloc_new w _)); have HB := Lib.hid (hb0.trans (hb.mono (by simp))); clear hb)
      go_ret
      exact ⟨ret_int (by rw [E.out]), HB.out⟩
  · have HM := Lib.hid hM
    have E := Lib.hid (show floorP B P S D U bad = 0 by unfold floorP; rw [if_neg (fun h => hM h.1)])
    clear hM
    go_enter Try.func16, Try.ntmps16
    go_wp2_with (go_at_call 8; refine (mayp_any _ _ _ _ _ _).mono ?_; rintro e w1 ⟨rfl, hb⟩; rw [decide_eq_false HM.out]; obtain ⟨_, _, _, _, _⟩ := cells5 ((hb.block w.heap.size (by simp)).trans (heap_alloc_new w _)); have HB := Lib.hid (hb0.trans (hb.mono (by simp))); clear hb)
    go_ret
    exact ⟨ret_int (by rw [E.out]), HB.out⟩
set_option maxRecDepth 100000 in
set_option maxHeartbeats 1000000 in
theorem needr_any (B P S D U : Int) (w : World) :
    Calls Try.prog 11 #[.agg #[.int .i64 B, .int .i64 P, .int .i64 S, .int .i64 D, .int .i64 U]] w fun e w' => e = .returned (.int .i64 (needP B P S D U)) ∧ Below w.heap.size w w' := by
  have hb0 := (Below.refl w.heap.size w).alloc (Nat.le_refl _) (.cells #[.int .i64 B, .int .i64 P, .int .i64 S, .int .i64 D, .int .i64 U] 23)
  by_cases hM : MayP B P S D U
  · have HM := Lib.hid hM
    have hd := hM.2.2.2.1
    clear hM
    go_enter Try.func11, Try.ntmps11
    go_wp2_with (go_at_call 9; refine (mayr_any _ _ _ _ _ _).mono ?_; rintro e w1 ⟨rfl, hb⟩; rw [decide_eq_true HM.out]; obtain ⟨_, _, _, k3, _⟩ := cells5 ((hb.block w.heap.size (by simp)).trans (heap_alloc_new w _)); have HB := Lib.hid (hb0.trans (hb.mono (by simp))); clear hb)
    go_ret
    exact ⟨ret_int (by unfold needP; rw [if_pos HM.out]; omega), HB.out⟩
  · have HM := Lib.hid hM
    clear hM
    go_enter Try.func11, Try.ntmps11
    go_wp2_with (go_at_call 9; refine (mayr_any _ _ _ _ _ _).mono ?_; rintro e w1 ⟨rfl, hb⟩; rw [decide_eq_false HM.out]; obtain ⟨_, _, _, _, _⟩ := cells5 ((hb.block w.heap.size (by simp)).trans (heap_alloc_new w _)); have HB := Lib.hid (hb0.trans (hb.mono (by simp))); clear hb)
    go_ret
    exact ⟨ret_int (by unfold needP; rw [if_neg HM.out]), HB.out⟩
set_option maxRecDepth 100000 in
set_option maxHeartbeats 1000000 in
theorem roomr_any (B P S D U bad : Int) (w : World) (hbd : (Lit.int .i64 bad).wf = true) :
    Calls Try.prog 13 #[.agg #[.int .i64 B, .int .i64 P, .int .i64 S, .int .i64 D, .int .i64 U], .int .i64 bad] w fun e w' => e = .returned (.int .i64 (roomP B P S D U bad)) ∧ Below w.heap.size w w' := by
  have hb0 := (Below.refl w.heap.size w).alloc (Nat.le_refl _) (.cells #[.int .i64 B, .int .i64 P, .int .i64 S, .int .i64 D, .int .i64 U] 23)
  have hbd1 := wf_le hbd
  have HR := Lib.hid (show roomP B P S D U bad = roomP B P S D U bad from rfl)
  by_cases hM : MayP B P S D U
  · have HM := Lib.hid hM
    have hB := hM.1
    have hP := hM.2.1
    have hS := hM.2.2.1
    clear hM
    by_cases h2 : 0 ≤ bad ∧ bad ≤ B
    · have H2 := Lib.hid h2
      by_cases h3 : 0 < B - bad - S - 1
      · have hp0 : 0 < (B - bad - S - 1) * P := Int.mul_pos (by omega) (by omega)
        have hp1 : (B - bad - S - 1) * P ≤ 64 * 32 := Int.mul_le_mul (by omega) (by omega) (by omega) (by omega)
        have e : roomP B P S D U bad = (B - bad - S - 1) * P := by unfold roomP; rw [if_pos ⟨HM.out, h2⟩, if_pos h3]
        have E := Lib.hid e
        clear e
        go_enter Try.func13, Try.ntmps13
        go_wp2_with (first | (go_at_call 9; refine (mayr_any _ _ _ _ _ _).mono ?_; rintro e w1 ⟨rfl, hb⟩; rw [decide_eq_true HM.out]; obtain ⟨k0, k1, k2, k3, k4⟩ := cells5 ((hb.block w.heap.size (by simp)).trans (heap_alloc_new w _)); have HB := Lib.hid (hb0.trans (hb.mono (by simp))); clear hb))
        all_goals
          go_ret
          exact ⟨ret_int (by refine Eq.trans ?_ E.out.symm; have hw := wrap64_id ((B - bad - S - 1) * P) (by omega); first | rfl | exact wrap64_id 0 (by decide) | (rw [hw]; done) | (rw [hw]; omega) | omega | (obtain h0 | h0 : B - bad - S - 1 = 0 ∨ B - bad - S - 1 ≠ 0 := Decidable.em _ <;> first | exact (by rw [h0, Int.zero_mul] : (B - bad - S - 1) * P = 0) ▸ wrap64_id 0 (by decide) | (rw [show (B - bad - S - 1) * P = 0 by rw [h0, Int.zero_mul]]; exact wrap64_id 0 (by decide)) | omega)), HB.out⟩
      · have hp0 : (B - bad - S - 1) * P ≤ 0 := Int.mul_nonpos_of_nonpos_of_nonneg (by omega) (by omega)
        have hp1 : -(64 * 32) ≤ (B - bad - S - 1) * P := by
          have := Int.mul_le_mul (a := -(B - bad - S - 1)) (b := P) (c := 64) (d := 32) (by omega) (by omega) (by omega) (by omega)
          rw [Int.neg_mul] at this; omega
        have e : roomP B P S D U bad = 0 := by unfold roomP; rw [if_pos ⟨HM.out, h2⟩, if_neg h3]
        have E := Lib.hid e
        clear e
        go_enter Try.func13, Try.ntmps13
        go_wp2_with (first | (go_at_call 9; refine (mayr_any _ _ _ _ _ _).mono ?_; rintro e w1 ⟨rfl, hb⟩; rw [decide_eq_true HM.out]; obtain ⟨k0, k1, k2, k3, k4⟩ := cells5 ((hb.block w.heap.size (by simp)).trans (heap_alloc_new w _)); have HB := Lib.hid (hb0.trans (hb.mono (by simp))); clear hb))
        all_goals
          go_ret
          exact ⟨ret_int (by refine Eq.trans ?_ E.out.symm; have hw := wrap64_id ((B - bad - S - 1) * P) (by omega); first | rfl | exact wrap64_id 0 (by decide) | (rw [hw]; done) | (rw [hw]; omega) | omega | (obtain h0 | h0 : B - bad - S - 1 = 0 ∨ B - bad - S - 1 ≠ 0 := Decidable.em _ <;> first | exact (by rw [h0, Int.zero_mul] : (B - bad - S - 1) * P = 0) ▸ wrap64_id 0 (by decide) | (rw [show (B - bad - S - 1) * P = 0 by rw [h0, Int.zero_mul]]; exact wrap64_id 0 (by decide)) | omega)), HB.out⟩
    · have H2 := Lib.hid h2
      have E := Lib.hid (show roomP B P S D U bad = 0 by unfold roomP; rw [if_neg (fun h => h2 h.2)])
      clear h2
      go_enter Try.func13, Try.ntmps13
      go_wp2_with (first | (go_at_call 9; refine (mayr_any _ _ _ _ _ _).mono ?_; rintro e w1 ⟨rfl, hb⟩; rw [decide_eq_true HM.out]; obtain ⟨k0, k1, k2, k3, k4⟩ := cells5 ((hb.block w.heap.size (by simp)).trans (heap_alloc_new w _)); have HB := Lib.hid (hb0.trans (hb.mono (by simp))); clear hb))
      all_goals
        go_ret
        exact ⟨ret_int (by rw [E.out]), HB.out⟩
  · have HM := Lib.hid hM
    have E := Lib.hid (show roomP B P S D U bad = 0 by unfold roomP; rw [if_neg (fun h => hM h.1)])
    clear hM
    go_enter Try.func13, Try.ntmps13
    go_wp2_with (go_at_call 9; refine (mayr_any _ _ _ _ _ _).mono ?_; rintro e w1 ⟨rfl, hb⟩; rw [decide_eq_false HM.out]; obtain ⟨_, _, _, _, _⟩ := cells5 ((hb.block w.heap.size (by simp)).trans (heap_alloc_new w _)); have HB := Lib.hid (hb0.trans (hb.mono (by simp))); clear hb)
    go_ret
    exact ⟨ret_int (by rw [E.out]), HB.out⟩
set_option maxRecDepth 100000 in
set_option maxHeartbeats 1000000 in
theorem floorr_any (B P S D U bad : Int) (w : World) (hbd : (Lit.int .i64 bad).wf = true) :
    Calls Try.prog 17 #[.agg #[.int .i64 B, .int .i64 P, .int .i64 S, .int .i64 D, .int .i64 U], .int .i64 bad] w fun e w' => e = .returned (.int .i64 (floorP B P S D U bad)) ∧ Below w.heap.size w w' := by
  have hb0 := (Below.refl w.heap.size w).alloc (Nat.le_refl _) (.cells #[.int .i64 B, .int .i64 P, .int .i64 S, .int .i64 D, .int .i64 U] 23)
  have hbd1 := wf_le hbd
  by_cases hM : MayP B P S D U
  · have HM := Lib.hid hM
    have hS := hM.2.2.1
    clear hM
    by_cases h2 : 0 ≤ bad
    · by_cases h3 : bad ≤ S
      all_goals
        have e : floorP B P S D U bad = if bad ≤ S then S - bad + 1 else 0 := by unfold floorP; rw [if_pos ⟨HM.out, h2⟩]
        (first | rw [if_pos h3] at e | rw [if_neg h3] at e)
        have E := Lib.hid e
        clear e
        go_enter Try.func17, Try.ntmps17
        go_wp2_with (go_at_call 9; refine (mayr_any _ _ _ _ _ _).mono ?_; rintro e w1 ⟨rfl, hb⟩; rw [decide_eq_true HM.out]; obtain ⟨_, _, k2, _, _⟩ := cells5 ((hb.block w.heap.size (by simp)).trans (heap_alloc_new w _)); have HB := Lib.hid (hb0.trans (hb.mono (by simp))); clear hb)
        all_goals
          go_ret
          exact ⟨ret_int (by refine Eq.trans ?_ E.out.symm; first | rfl | omega), HB.out⟩
    · have E := Lib.hid (show floorP B P S D U bad = 0 by unfold floorP; rw [if_neg (fun h => h2 h.2)])
      go_enter Try.func17, Try.ntmps17
      go_wp2_with (go_at_call 9; refine (mayr_any _ _ _ _ _ _).mono ?_; rintro e w1 ⟨rfl, hb⟩; rw [decide_eq_true HM.out]; obtain ⟨_, _, k2, _, _⟩ := cells5 ((hb.block w.heap.size (by simp)).trans (heap_alloc_new w _)); have HB := Lib.hid (hb0.trans (hb.mono (by simp))); clear hb)
      go_ret
      exact ⟨ret_int (by rw [E.out]), HB.out⟩
  · have HM := Lib.hid hM
    have E := Lib.hid (show floorP B P S D U bad = 0 by unfold floorP; rw [if_neg (fun h => hM h.1)])
    clear hM
    go_enter Try.func17, Try.ntmps17
    go_wp2_with (go_at_call 9; refine (mayr_any _ _ _ _ _ _).mono ?_; rintro e w1 ⟨rfl, hb⟩; rw [decide_eq_false HM.out]; obtain ⟨_, _, _, _, _⟩ := cells5 ((hb.block w.heap.size (by simp)).trans (heap_alloc_new w _)); have HB := Lib.hid (hb0.trans (hb.mono (by simp))); clear hb)
    go_ret
    exact ⟨ret_int (by rw [E.out]), HB.out⟩
end Go.Proofs.Ytfnhmnfhkhjojaa
