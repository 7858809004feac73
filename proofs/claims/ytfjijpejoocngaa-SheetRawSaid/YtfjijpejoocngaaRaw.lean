/- SheetRaw: of any bytes: none, or a sheet whose bytes are just these: the law's walk. -/
import Derived.Test.YtfjijpejoocngaaRefSheet
namespace Go.Proofs.Ytfjijpejoocngaa
open Go.RowKit

set_option maxRecDepth 100000 in
set_option maxHeartbeats 2000000 in
theorem raw_any (A : Option Addr) (c : Nat) (l : List UInt8) (w : World) (hr : RB w w.heap.size A l) :
    Calls Try.prog 7 #[.slice A l.length c] w (Holds w) := by
  by_cases hlong : 3000 < l.length
  · go_enter Try.func7, Try.ntmps7
    go_wp2_with (go_at_call 10; refine (awake_any _).mono ?_; rintro e w1 ⟨rfl, hb⟩)
    go_ret
    exact ⟨rfl, hb⟩
  have HR := Lib.hid hr
  clear hr
  go_enter Try.func7, Try.ntmps7
  go_wp2_with fail
  refine (parse_sheet w.heap.size A c l w HR.out (Nat.le_refl _) (by omega)).mono ?_
  rintro e w1 ⟨hb1, ⟨p, s, A1, c1, d, hl, hM, hr1, rfl⟩ | ⟨hn, rfl⟩⟩
  · have hs1 := hb1.size
    have HB1 := Lib.hid (hb1.alloc hs1 (.cells #[.int .i64 p, .int .i64 s, .slice A1 d.length c1] 24))
    have R1 := Lib.hid (hr1.alloc (Nat.le_refl _) (.cells #[.int .i64 p, .int .i64 s, .slice A1 d.length c1] 24))
    have C1 := Lib.hid (heap_alloc_new w1 (.cells #[.int .i64 p, .int .i64 s, .slice A1 d.length c1] 24))
    have HRa := Lib.hid ((HR.out.below hb1 (Nat.le_refl _)).alloc hs1 (.cells #[.int .i64 p, .int .i64 s, .slice A1 d.length c1] 24))
    have hll : l.length ≤ 2000 := by have := hM.out.2.2.2; rw [← hl.out] at this; exact this
    clear hb1 hr1
    go_wp2_with fail
    refine (bytes_any w1.heap.size p s A1 c1 d _ R1.out (by simp)).mono ?_
    rintro e w2 ⟨A2, c2, L2, er, rfl, hL2, her, hc2, hr2, _, hb2⟩
    rw [if_pos hM.out] at her
    subst her
    have HL2 := Lib.hid (hL2.out.trans ((if_pos hM.out).trans hl.out.symm))
    have hs2 := hb2.size
    have HB2 := Lib.hid (HB1.out.trans (hb2.mono (by simp; omega)))
    have R2 := Lib.hid (R1.out.below hb2 (by simp))
    have HRb := Lib.hid (HRa.out.below hb2 (by simp; omega))
    obtain ⟨k0, k1, k2⟩ := cells3 ((hb2.block w1.heap.size (by simp)).trans C1.out)
    have R2x := Lib.hid hr2
    clear hL2 hr2 hb2
    go_wp2_with fail
    refine (may_any w1.heap.size p s A1 c1 d _ R2.out (by simp at hs2; omega)).mono ?_
    rintro e w3 ⟨rfl, hb3⟩
    rw [decide_eq_true hM.out]
    have HB3 := Lib.hid (HB2.out.trans (hb3.mono HB2.out.size))
    have ks1 := run_str (R2x.out.below hb3 (Nat.le_refl _)) c2
    have ks2 := run_str (HRb.out.below hb3 HB2.out.size) c
    rw [show strOf L2 = strOf l from congrArg strOf HL2.out] at ks1
    clear hb3 k0 k1 k2
    go_wp2_with (first | (go_at_call 10; refine (awake_any _).mono ?_; rintro e w4 ⟨rfl, hb4⟩))
    go_ret
    exact ⟨rfl, HB3.out.trans (hb4.mono HB3.out.size)⟩
  · have hs1 := hb1.size
    have HB1 := Lib.hid (hb1.alloc hs1 (.cells #[.int .i64 0, .int .i64 0, .slice none 0 0] 24))
    clear hb1
    go_wp2_with fail
    refine (same_any 0 0 0 0 0 0 none none 0 0 [] [] _ .nil (Nat.zero_le _) .nil (Nat.zero_le _)).mono ?_
    rintro e w2 ⟨rfl, hb2⟩
    rw [decide_eq_true (by simp)]
    have HB2 := Lib.hid (HB1.out.trans (hb2.mono HB1.out.size))
    clear hb2
    go_wp2_with (first | (go_at_call 10; refine (awake_any _).mono ?_; rintro e w4 ⟨rfl, hb4⟩))
    go_ret
    exact ⟨rfl, HB2.out.trans (hb4.mono HB2.out.size)⟩
end Go.Proofs.Ytfjijpejoocngaa
