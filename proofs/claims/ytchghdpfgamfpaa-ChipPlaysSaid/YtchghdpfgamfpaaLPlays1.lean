/- ChipPlays: blocks or pages that may not be; too many blocks named as bad: the walks. -/
import Derived.Test.YtchghdpfgamfpaaLHeavy
import Derived.Test.YtchghdpfgamfpaaBoth
namespace Go.Proofs.Ytchghdpfgamfpaa
open Go.RowKit

set_option maxRecDepth 100000 in
set_option maxHeartbeats 4000000 in
theorem plays_long (bs ps : Int) (A : Option Addr) (c0 k : Nat) (A' : Option Addr) (m cap : Nat) (D : Nat → Dos) (w : World) (hn : m ≤ maxLen) (h : ∀ i, i < m → DosAt w A' i (D i)) (hbl : 100 < k) (_hk : k ≤ maxLen) :
    Calls Try.prog 3 #[.int .i64 bs, .int .i64 ps, .slice A k c0, .slice A' m cap] w (Holds w) := by
  have HH := Lib.hid (heavy_dos A' m cap D w hn h)
  have hbl' : (100 : Int) < (k : Int) := by omega
  unfold maxLen at hn _hk
  clear h
  go_enter Try.func3, Try.ntmps3
  go_wp2_with fail
  refine HH.out.mono ?_
  rintro e w1 ⟨hv, rfl, hhv, hb1⟩
  clear hhv
  by_cases hz : 0 < hv
  all_goals
    go_wp2_with (go_at_call 11; (with_reducible refine (awake_any _).mono ?_); rintro e w9 ⟨rfl, hb9⟩)
    go_ret
    exact ⟨rfl, hb1.trans (hb9.mono hb1.size)⟩
set_option maxRecDepth 100000 in
set_option maxHeartbeats 4000000 in
theorem plays_out (bs ps : Int) (A : Option Addr) (c0 k : Nat) (A' : Option Addr) (m cap : Nat) (D : Nat → Dos) (w : World) (hn : m ≤ maxLen) (h : ∀ i, i < m → DosAt w A' i (D i)) (hbl : k ≤ 100) (hr : ¬ (1 ≤ bs ∧ bs ≤ 64 ∧ 1 ≤ ps ∧ ps ≤ 32)) :
    Calls Try.prog 3 #[.int .i64 bs, .int .i64 ps, .slice A k c0, .slice A' m cap] w (Holds w) := by
  have HH := Lib.hid (heavy_dos A' m cap D w hn h)
  have hbl' : ¬ (100 : Int) < (k : Int) := by omega
  have HR := Lib.hid hr
  unfold maxLen at hn
  clear h hr
  go_enter Try.func3, Try.ntmps3
  go_wp2_with fail
  refine HH.out.mono ?_
  rintro e w1 ⟨hv, rfl, hhv, hb1⟩
  clear hhv
  by_cases hz : 0 < hv
  · go_wp2_with (go_at_call 11; (with_reducible refine (awake_any _).mono ?_); rintro e w9 ⟨rfl, hb9⟩)
    go_ret
    exact ⟨rfl, hb1.trans (hb9.mono hb1.size)⟩
  have hz' : hv ≤ 0 := by omega
  clear hz
  have HB1 := Lib.hid hb1
  clear hb1
  go_wp2_with (first
    | (go_at_call 12; (with_reducible refine (new_no bs ps A k c0 HR.out).mono ?_); rintro e w2 ⟨rfl, hb2⟩; have HB2 := Lib.hid (HB1.out.trans (hb2.mono HB1.out.size)); clear hb2)
    | (go_at_call 13; (with_reducible refine (newref_no bs ps A k c0 _ HR.out).mono ?_); rintro e w3 ⟨rfl, hb3⟩; have HB3 := Lib.hid (HB2.out.trans (hb3.mono HB2.out.size)); clear hb3)
    | (go_at_call 11; (with_reducible refine (awake_any _).mono ?_); rintro e w9 ⟨rfl, hb9⟩))
  go_ret
  exact ⟨rfl, HB3.out.trans (hb9.mono HB3.out.size)⟩
end Go.Proofs.Ytchghdpfgamfpaa
