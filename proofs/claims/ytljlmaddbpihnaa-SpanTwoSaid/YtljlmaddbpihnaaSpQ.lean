/- The landed Fits, Pages, Cut. -/
import Derived.Test.YtljlmaddbpihnaaSpF
namespace Go.Proofs.Ytljlmaddbpihnaa
open Go.RowKit

set_option maxRecDepth 100000 in
theorem fitsl_any (a n : Int) (w : World) (HWA : Wf6 a) : Calls Try.prog 12 #[.int .i64 a, .int .i64 n] w fun e w' => e = .returned (.bool (fitsF a n)) ∧ Below w.heap.size w w' := by
  by_cases h0 : 0 ≤ a
  rotate_left
  · have d0 : decide (0 ≤ a) = false := decide_eq_false h0
    have HV : Hid (fitsF a n = false) := Lib.hid (by unfold fitsF; rw [d0]; rfl)
    clear h0
    go_enter Try.func12, Try.ntmps12
    go_wp2_with fail
    go_ret
    exact ⟨by rw [HV.out]; rfl, Below.refl _ _⟩
  have d0 : decide (0 ≤ a) = true := decide_eq_true h0
  by_cases h1 : 0 ≤ n
  rotate_left
  · have d1 : decide (0 ≤ n) = false := decide_eq_false h1
    have HV : Hid (fitsF a n = false) := Lib.hid (by unfold fitsF; rw [d1]; simp)
    clear h0 h1
    go_enter Try.func12, Try.ntmps12
    go_wp2_with fail
    go_ret
    exact ⟨by rw [HV.out]; rfl, Below.refl _ _⟩
  have d1 : decide (0 ≤ n) = true := decide_eq_true h1
  by_cases hb : a ≤ 9223372036854775807
  rotate_left
  · exfalso; exact hb HWA.2
  have hw : IntKind.i64.wrap (80 - a) = 80 - a := i64w_idS _ (by omega)
  have HV : Hid (fitsF a n = decide (n ≤ 80 - a)) := Lib.hid (by
    unfold fitsF; rw [d0, d1]
    by_cases h2 : a ≤ 80
    · rw [decide_eq_true h2]; rfl
    · rw [decide_eq_false h2, decide_eq_false (by omega)]; rfl)
  clear h0 h1 hb HWA
  go_enter Try.func12, Try.ntmps12
  go_wp2_with fail
  go_ret
  exact ⟨by rw [HV.out]; rfl, Below.refl _ _⟩
set_option maxRecDepth 100000 in
theorem pagesl_any (z : Int) (w : World) : Calls Try.prog 10 #[.int .i64 z] w fun e w' => e = .returned (.int .i64 (pagesF z)) ∧ Below w.heap.size w w' := by
  by_cases h0 : z < 0
  · have HV : Hid (pagesF z = 0) := Lib.hid (if_pos (by omega))
    go_enter Try.func10, Try.ntmps10
    go_wp2_with fail
    go_ret
    exact ⟨by rw [HV.out]; rfl, Below.refl _ _⟩
  by_cases h1 : 80 < z
  · have HV : Hid (pagesF z = 5) := Lib.hid (by unfold pagesF; rw [if_neg (by omega), if_pos (by omega)])
    go_enter Try.func10, Try.ntmps10
    go_wp2_with fail
    go_ret
    exact ⟨by rw [HV.out]; rfl, Below.refl _ _⟩
  have hw1 : IntKind.i64.wrap (z + 16) = z + 16 := i64w_idS _ (by omega)
  have hw2 : IntKind.i64.wrap (z + 16 - 1) = z + 15 := by rw [show z + 16 - 1 = z + 15 by omega]; exact i64w_idS _ (by omega)
  have hq : (z + 15).tdiv 16 = (z + 15) / 16 := Int.tdiv_eq_ediv_of_nonneg (by omega)
  have hw3 : IntKind.i64.wrap ((z + 15) / 16) = (z + 15) / 16 := i64w_idS _ (by omega)
  have HV : Hid (pagesF z = (z + 15) / 16) := Lib.hid (by
    unfold pagesF
    split
    · omega
    · split
      · omega
      · rfl)
  go_enter Try.func10, Try.ntmps10
  go_wp2_with fail
  go_ret
  exact ⟨by rw [HV.out]; first | rfl | simp, Below.refl _ _⟩
set_option maxRecDepth 100000 in
theorem cutl_any (z a n : Int) (w : World) (hz : Wf6 z) : Calls Try.prog 14 #[.int .i64 z, .int .i64 a, .int .i64 n] w fun e w' => e = .returned (.int .i64 (cutF z a n)) ∧ Below w.heap.size w w' := by
  by_cases h0 : a < 0
  · have d0 : decide (a < 0) = true := decide_eq_true h0
    have HV : Hid (cutF z a n = 0) := Lib.hid (if_pos (.inl h0))
    clear h0
    go_enter Try.func14, Try.ntmps14
    go_wp2_with fail
    go_ret
    exact ⟨by rw [HV.out]; rfl, Below.refl _ _⟩
  have d0 : decide (a < 0) = false := decide_eq_false h0
  by_cases h1 : n < 0
  · have d1 : decide (n < 0) = true := decide_eq_true h1
    have HV : Hid (cutF z a n = 0) := Lib.hid (if_pos (.inr (.inl h1)))
    clear h0 h1
    go_enter Try.func14, Try.ntmps14
    go_wp2_with fail
    go_ret
    exact ⟨by rw [HV.out]; rfl, Below.refl _ _⟩
  have d1 : decide (n < 0) = false := decide_eq_false h1
  by_cases h2 : z ≤ a
  · have d2 : decide (z ≤ a) = true := decide_eq_true h2
    have HV : Hid (cutF z a n = 0) := Lib.hid (if_pos (.inr (.inr h2)))
    clear h0 h1 h2
    go_enter Try.func14, Try.ntmps14
    go_wp2_with fail
    go_ret
    exact ⟨by rw [HV.out]; rfl, Below.refl _ _⟩
  have d2 : decide (z ≤ a) = false := decide_eq_false h2
  have hw : IntKind.i64.wrap (z - a) = z - a := i64w_idS _ (by omega)
  have hC : cutF z a n = min n (z - a) := if_neg (by omega)
  clear h0 h1 h2
  by_cases hm : z - a < n
  · have HV : Hid (cutF z a n = z - a) := Lib.hid (by rw [hC]; omega)
    clear hC
    go_enter Try.func14, Try.ntmps14
    go_wp2_with fail
    go_ret
    exact ⟨by rw [HV.out]; rfl, Below.refl _ _⟩
  · have HV : Hid (cutF z a n = n) := Lib.hid (by rw [hC]; omega)
    clear hC
    go_enter Try.func14, Try.ntmps14
    go_wp2_with fail
    go_ret
    exact ⟨by rw [HV.out]; rfl, Below.refl _ _⟩
end Go.Proofs.Ytljlmaddbpihnaa
