/- awake of potsherdlaw3: the bytes that every program must know: true, and nothing that was there has turned. -/
import Derived.Test.YtmnaboeffdhhjaaStep
import Derived.Deep.RegionHeld3
import Derived.Lib.SlBytesConst
namespace Go.Proofs.Ytmnaboeffdhhjaa
open Go.RowKit

/-- A law's end: true; nothing that was there when it began has turned. -/
def Holds (w : World) (e : Ending) (w' : World) : Prop := e = .returned (.bool true) ∧ Below w.heap.size w w'
theorem numL_300 : numL (heldW 300) = [130, 44] := by
  have e : heldW 300 = 300 := by decide
  rw [e]; unfold numL
  rw [show 300 / 128 = 2 from rfl, hiL_pos 2 (by decide), show 2 / 128 = 0 from rfl, hiL_zero]; rfl
theorem numL_one : numL (heldW ((1 : Nat) : Int)) = [1] := by
  have e : heldW ((1 : Nat) : Int) = 1 := by decide
  rw [e]; unfold numL
  rw [show 1 / 128 = 0 from rfl, hiL_zero]; rfl
theorem rb_new1 (w : World) (c : UInt8) (t : TypeId) (fr : Nat × Nat) : RB (w.alloc (.cells #[.int .u8 c.toNat] t fr)) (w.heap.size + 1) (some ⟨w.heap.size, 0, none⟩) [c] := fun _ => ⟨_, rfl, by simp, fun j hj => by
  obtain rfl : j = 0 := by simpa using hj
  have := World.cell?_alloc_mark w #[.int .u8 c.toNat] t fr 0
  simpa [Addr.add, ub] using this⟩

set_option maxRecDepth 100000 in
set_option maxHeartbeats 1000000 in
theorem awake_any (w : World) : Calls Try.prog 9 #[] w (Holds w) := by
  go_enter Try.func9, Try.ntmps9
  go_wp2_with fail
  refine (number_made 0 none 0 [] 300 _ .nil (Nat.zero_le _) (by simp)).mono ?_
  rintro e w1 ⟨A1, c1, L1, rfl, hL1, hc1, hr1, _, hb1⟩
  obtain rfl : L1 = [130, 44] := by rw [hL1.out, numL_300]; rfl
  clear hL1
  have hs1 := hb1.size
  have kc := fun (w : World) (C : Array Value) (n c : Nat) => Lib.run_convert_bytes_const (P := Try.prog) w 22 5 C n c Try.underlying22 Try.underlying5
  go_wp2_with fail
  refine (text_made (w1.heap.size + 1) A1 (some ⟨w1.heap.size, 0, none⟩) c1 1 [130, 44] [120] _ ((hr1.alloc (Nat.le_refl _) _).mono (by omega)) (rb_new1 w1 120 5 (1, 2)) (by simp) (by simp) (by simp)).mono ?_
  rintro e w2 ⟨A2, c2, L2, rfl, hL2, hc2, hr2, _, hb2⟩
  obtain rfl : L2 = [130, 44, 1, 120] := by rw [hL2.out]; show [130, 44] ++ numL (heldW ((1 : Nat) : Int)) ++ [120] = _; rw [numL_one]; rfl
  have hb3 := (hb1.alloc hs1 (.cells #[.int .u8 120] 5 (1, 2))).trans (hb2.mono (by simp; omega))
  have hs3 := hb3.size
  clear hL2 hr1 hb1 hb2 hc1 kc
  go_wp2_with fail
  refine (new_any w2.heap.size A2 c2 [130, 44, 1, 120] _ hr2 (Nat.le_refl _) (by simp)).mono ?_
  rintro e w3 ⟨p, B, rfl, hp, hrd, hB, hb4⟩
  have hb5 := hb3.trans (hb4.mono hs3)
  have hr3 := hr2.below hb4 (Nat.le_refl _)
  have hs4 := hb4.size
  clear hb3 hb4 hr2
  go_wp2_with fail
  refine (number_any p B _ 0 1000 _ hrd).mono ?_
  rintro e w4 ⟨rfl, hrd4, ht4⟩
  have e4 : numStep ([130, 44, 1, 120], 0) 1000 = (300, ([1, 120], 0)) := by decide
  rw [e4] at hrd4 ⊢
  have hb6 := hb5.trans (ht4.below (by omega) hb5.size)
  have hr4 := hr3.below (ht4.below hp hs4) (Nat.le_refl _)
  have hs5 := ht4.size
  clear e4 hb5 ht4 hrd hr3
  go_wp2_with fail
  refine (text_any p B _ 0 5 _ hrd4).mono ?_
  rintro e w5 ⟨A5, c5, L5, rfl, hL5, hr5, _, hrd5, ht5⟩
  have e5 : textStep ([1, 120], 0) 5 = ([120], ([], 0)) := by decide
  rw [e5] at hrd5 hL5
  obtain rfl : L5 = [120] := hL5
  have hb7 := hb6.trans (ht5.below (by omega) hb6.size)
  have hr6 := hr4.below (ht5.below hp (by omega)) (Nat.le_refl _)
  clear e5 hb6 ht5 hrd4 hr4
  have ks1 : (convert 22 9 (.slice A2 4 c2)).run Try.prog w5 = .ok (.string ⟨#[130, 44, 1, 120]⟩) w5 := run_str hr6 c2
  have ks2 : (convert 22 9 (.slice A5 1 c5)).run Try.prog w5 = .ok (.string ⟨#[120]⟩) w5 := run_str hr5 c5
  go_wp2_with (first | (go_at_call 19; refine (left_any p B _ _ _ hrd5).mono ?_; rintro e w' ⟨rfl, rfl⟩) | (go_at_call 20; refine (err_any p B _ _ _ hrd5).mono ?_; rintro e w' ⟨rfl, rfl⟩))
  go_ret
  exact ⟨rfl, hb7⟩
end Go.Proofs.Ytmnaboeffdhhjaa
