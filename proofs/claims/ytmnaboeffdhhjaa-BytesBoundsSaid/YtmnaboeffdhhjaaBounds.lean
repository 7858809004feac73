/- BytesBounds: a number above its bound, a text longer than its, are none, and nothing is read. -/
import Derived.Test.YtmnaboeffdhhjaaAwake
import Derived.Test.YtmnaboeffdhhjaaLaws
namespace Go.Proofs.Ytmnaboeffdhhjaa
open Go.RowKit

set_option maxRecDepth 100000 in
set_option maxHeartbeats 4000000 in
theorem bounds_any (n0 m0 : Int) (A : Option Addr) (c : Nat) (s : List UInt8) (w : World) (h : RB w w.heap.size A s) (hl : s.length ≤ maxLen) :
    Calls Try.prog 8 #[.int .i64 n0, .int .i64 m0, .slice A s.length c] w (Holds w) := by
  unfold maxLen at hl
  by_cases hlong : 300 < s.length
  · go_enter Try.func8, Try.ntmps8
    go_wp2_with (go_at_call 9; refine (awake_any _).mono ?_; rintro e w1 ⟨rfl, hb⟩)
    go_ret
    exact ⟨rfl, hb⟩
  · obtain ⟨N, hN, hN1⟩ := u64_tmod n0 100000 (by decide) (by decide)
    obtain ⟨M, hM, hM1⟩ := u64_tmod m0 100000 (by decide) (by decide)
    have hN' : (IntKind.u64.wrap n0).tmod 100000 = (N : Int) := hN
    have hM' : (IntKind.u64.wrap m0).tmod 100000 = (M : Int) := hM
    clear hN hM
    obtain ⟨Q, hQ⟩ : ∃ Q : Nat, (M : Int) % 400 = (Q : Int) := ⟨M % 400, by omega⟩
    go_enter Try.func8, Try.ntmps8
    go_wp2_with fail
    refine (number_made 0 none 0 [] N _ .nil (Nat.zero_le _) (by simp)).mono ?_
    rintro e w1 ⟨A1, c1, L1, rfl, hL1, hc1, hr1, _, hb1⟩
    have hs1 := hb1.size
    have hL1' : Hid (L1 = numL N) := by show L1 = numL N; rw [hL1.out, heldW_nat N (by omega)]; rfl
    have hl1 : L1.length ≤ 6 := by rw [hL1'.out]; exact (numL_len N (by omega)).2
    clear hL1 hN' hM'
    go_wp2_with fail
    refine (new_any w1.heap.size A1 c1 L1 _ hr1 (Nat.le_refl _) (by omega)).mono ?_
    rintro e w2 ⟨p, B, rfl, hp, hrd, hB, hb2⟩
    have hb3 := hb1.trans (hb2.mono hs1)
    clear hb1 hb2
    go_wp2_with fail
    refine (number_any p B L1 0 M _ hrd).mono ?_
    rintro e w3 ⟨rfl, hrd3, ht3⟩
    have hb4 := hb3.trans (ht3.below (by omega) hb3.size)
    have hs4 := hb4.size
    have H4 := h.below hb4 (Nat.le_refl _)
    clear hb3 ht3 hrd
    by_cases hNM : N ≤ M
    · have e3 : numStep (L1, 0) M = ((N : Int), ([], 0)) := by rw [hL1'.out]; have := numStep_num N [] M (by omega) (by omega); rwa [List.append_nil] at this
      rw [e3] at hrd3 ⊢
      clear e3 hL1'
      go_wp2_with (first | (go_at_call 20; refine (err_any p B _ _ _ hrd3).mono ?_; rintro e w' ⟨rfl, rfl⟩) | (go_at_call 19; refine (left_any p B _ _ _ hrd3).mono ?_; rintro e w' ⟨rfl, rfl⟩) | fail)
      refine (text_made w.heap.size none A 0 c [] s _ .nil H4 (by omega) (by simp) (by omega)).mono ?_
      rintro e w5 ⟨A5, c5, L5, rfl, hL5, hc5, hr5, _, hb5⟩
      have hL5' : Hid (L5 = numL s.length ++ s ++ []) := by show L5 = _; rw [hL5.out, heldW_nat s.length (by omega)]; simp
      have hl5 : L5.length ≤ 306 := by rw [hL5'.out]; have := (numL_len s.length (by omega)).2; simp; omega
      have hb6 := hb4.trans (hb5.mono hs4)
      have hs6 := hb6.size
      have hs5 := hb5.size
      clear hL5 hb4 hrd3 hb5
      go_wp2_with fail
      refine (new_any w5.heap.size A5 c5 L5 _ hr5 (Nat.le_refl _) (by omega)).mono ?_
      rintro e w7 ⟨q, B7, rfl, hq, hrd7, hB7, hb7⟩
      have hb8 := hb6.trans (hb7.mono hs6)
      clear hb6 hb7
      go_wp2_with fail
      refine (text_any q B7 L5 0 Q _ hrd7).mono ?_
      rintro e w8 ⟨A8, c8, L8, rfl, hL8, hr8, hrd8, ht8⟩
      have hb9 := hb8.trans (ht8.below (by omega) hb8.size)
      have H9 := h.below hb9 (Nat.le_refl _)
      clear hb8 ht8 hrd7 H4
      by_cases hsQ : s.length ≤ Q
      · have e8 : textStep (L5, 0) Q = (s, ([], 0)) := by rw [hL5'.out]; exact textStep_text s [] Q (by omega) (by omega)
        rw [e8] at hrd8 hL8
        have hL8' := Lib.hid hL8.out
        clear e8 hL8 hL5'
        have ks1 := run_str hr8 c8
        have ks2 := run_str H9 c
        rw [hL8'.out] at ks1 ⊢
        go_wp2_with (first | (go_at_call 20; refine (err_any q B7 _ _ _ hrd8).mono ?_; rintro e w' ⟨rfl, rfl⟩) | (go_at_call 19; refine (left_any q B7 _ _ _ hrd8).mono ?_; rintro e w' ⟨rfl, rfl⟩) | (go_at_call 9; refine (awake_any _).mono ?_; rintro e w10 ⟨rfl, hb10⟩))
        go_ret
        exact ⟨rfl, hb9.trans (hb10.mono hb9.size)⟩
      · have e8 : textStep (L5, 0) Q = ([], (L5, 5)) := by rw [hL5'.out]; exact textStep_above s [] Q (by omega) (by omega)
        rw [e8] at hrd8 hL8
        have hL8' := Lib.hid hL8.out
        clear e8 hL8 hL5'
        rw [hL8'.out]
        go_wp2_with (first | (go_at_call 20; refine (err_any q B7 _ _ _ hrd8).mono ?_; rintro e w' ⟨rfl, rfl⟩) | (go_at_call 19; refine (left_any q B7 _ _ _ hrd8).mono ?_; rintro e w' ⟨rfl, rfl⟩) | (go_at_call 9; refine (awake_any _).mono ?_; rintro e w10 ⟨rfl, hb10⟩))
        go_ret
        exact ⟨rfl, hb9.trans (hb10.mono hb9.size)⟩
    · have e3 : numStep (L1, 0) M = (0, (L1, 5)) := by rw [hL1'.out]; have := numStep_above N [] M (by omega) (by omega); rwa [List.append_nil] at this
      rw [e3] at hrd3 ⊢
      clear e3 hL1'
      go_wp2_with (first | (go_at_call 20; refine (err_any p B _ _ _ hrd3).mono ?_; rintro e w' ⟨rfl, rfl⟩) | (go_at_call 19; refine (left_any p B _ _ _ hrd3).mono ?_; rintro e w' ⟨rfl, rfl⟩) | fail)
      refine (text_made w.heap.size none A 0 c [] s _ .nil H4 (by omega) (by simp) (by omega)).mono ?_
      rintro e w5 ⟨A5, c5, L5, rfl, hL5, hc5, hr5, _, hb5⟩
      have hL5' : Hid (L5 = numL s.length ++ s ++ []) := by show L5 = _; rw [hL5.out, heldW_nat s.length (by omega)]; simp
      have hl5 : L5.length ≤ 306 := by rw [hL5'.out]; have := (numL_len s.length (by omega)).2; simp; omega
      have hb6 := hb4.trans (hb5.mono hs4)
      have hs6 := hb6.size
      have hs5 := hb5.size
      clear hL5 hb4 hrd3 hb5
      go_wp2_with fail
      refine (new_any w5.heap.size A5 c5 L5 _ hr5 (Nat.le_refl _) (by omega)).mono ?_
      rintro e w7 ⟨q, B7, rfl, hq, hrd7, hB7, hb7⟩
      have hb8 := hb6.trans (hb7.mono hs6)
      clear hb6 hb7
      go_wp2_with fail
      refine (text_any q B7 L5 0 Q _ hrd7).mono ?_
      rintro e w8 ⟨A8, c8, L8, rfl, hL8, hr8, hrd8, ht8⟩
      have hb9 := hb8.trans (ht8.below (by omega) hb8.size)
      have H9 := h.below hb9 (Nat.le_refl _)
      clear hb8 ht8 hrd7 H4
      by_cases hsQ : s.length ≤ Q
      · have e8 : textStep (L5, 0) Q = (s, ([], 0)) := by rw [hL5'.out]; exact textStep_text s [] Q (by omega) (by omega)
        rw [e8] at hrd8 hL8
        have hL8' := Lib.hid hL8.out
        clear e8 hL8 hL5'
        have ks1 := run_str hr8 c8
        have ks2 := run_str H9 c
        rw [hL8'.out] at ks1 ⊢
        go_wp2_with (first | (go_at_call 20; refine (err_any q B7 _ _ _ hrd8).mono ?_; rintro e w' ⟨rfl, rfl⟩) | (go_at_call 19; refine (left_any q B7 _ _ _ hrd8).mono ?_; rintro e w' ⟨rfl, rfl⟩) | (go_at_call 9; refine (awake_any _).mono ?_; rintro e w10 ⟨rfl, hb10⟩))
        go_ret
        exact ⟨rfl, hb9.trans (hb10.mono hb9.size)⟩
      · have e8 : textStep (L5, 0) Q = ([], (L5, 5)) := by rw [hL5'.out]; exact textStep_above s [] Q (by omega) (by omega)
        rw [e8] at hrd8 hL8
        have hL8' := Lib.hid hL8.out
        clear e8 hL8 hL5'
        rw [hL8'.out]
        go_wp2_with (first | (go_at_call 20; refine (err_any q B7 _ _ _ hrd8).mono ?_; rintro e w' ⟨rfl, rfl⟩) | (go_at_call 19; refine (left_any q B7 _ _ _ hrd8).mono ?_; rintro e w' ⟨rfl, rfl⟩) | (go_at_call 9; refine (awake_any _).mono ?_; rintro e w10 ⟨rfl, hb10⟩))
        go_ret
        exact ⟨rfl, hb9.trans (hb10.mono hb9.size)⟩
end Go.Proofs.Ytmnaboeffdhhjaa
