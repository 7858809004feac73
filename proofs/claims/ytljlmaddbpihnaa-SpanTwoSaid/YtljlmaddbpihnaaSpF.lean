/- The reference's FitsFile, FilePages, CutSize. -/
import Derived.Test.YtljlmaddbpihnaaSpR
import Derived.Test.YtljlmaddbpihnaaReg
namespace Go.Proofs.Ytljlmaddbpihnaa
open Go.RowKit

/-- Within what an int holds. -/
abbrev Wf6 (x : Int) : Prop := -9223372036854775808 ≤ x ∧ x ≤ 9223372036854775807
set_option maxRecDepth 100000 in
theorem fitsr_any (a n : Int) (w : World) : Calls Try.prog 13 #[.int .i64 a, .int .i64 n] w fun e w' => e = .returned (.bool (fitsF a n)) ∧ Below w.heap.size w w' := by
  by_cases h0 : 0 ≤ a
  rotate_left
  · have d0 : decide (0 ≤ a) = false := decide_eq_false h0
    have HV : Hid (fitsF a n = false) := Lib.hid (by unfold fitsF; rw [d0]; rfl)
    clear h0
    go_enter Try.func13, Try.ntmps13
    go_wp2_with fail
    go_ret
    exact ⟨by rw [HV.out]; rfl, Below.refl _ _⟩
  have d0 : decide (0 ≤ a) = true := decide_eq_true h0
  by_cases h1 : 0 ≤ n
  rotate_left
  · have d1 : decide (0 ≤ n) = false := decide_eq_false h1
    have HV : Hid (fitsF a n = false) := Lib.hid (by unfold fitsF; rw [d1]; simp)
    clear h0 h1
    go_enter Try.func13, Try.ntmps13
    go_wp2_with fail
    go_ret
    exact ⟨by rw [HV.out]; rfl, Below.refl _ _⟩
  have d1 : decide (0 ≤ n) = true := decide_eq_true h1
  by_cases h2 : a ≤ 80
  rotate_left
  · have d2 : decide (a ≤ 80) = false := decide_eq_false h2
    have HV : Hid (fitsF a n = false) := Lib.hid (by unfold fitsF; rw [d2]; simp)
    clear h0 h1 h2
    go_enter Try.func13, Try.ntmps13
    go_wp2_with fail
    go_ret
    exact ⟨by rw [HV.out]; rfl, Below.refl _ _⟩
  have d2 : decide (a ≤ 80) = true := decide_eq_true h2
  have hw : IntKind.i64.wrap (80 - a) = 80 - a := i64w_idS _ (by omega)
  have HV : Hid (fitsF a n = decide (n ≤ 80 - a)) := Lib.hid (by unfold fitsF; rw [d0, d1, d2]; rfl)
  clear h0 h1 h2
  go_enter Try.func13, Try.ntmps13
  go_wp2_with fail
  go_ret
  exact ⟨by rw [HV.out]; rfl, Below.refl _ _⟩
set_option maxRecDepth 100000 in
theorem pagesr_any (z : Int) (w : World) : Calls Try.prog 11 #[.int .i64 z] w fun e w' => e = .returned (.int .i64 (pagesF z)) ∧ Below w.heap.size w w' := by
  by_cases h0 : z ≤ 0
  · have d0 : decide (z ≤ 0) = true := decide_eq_true h0
    have HV : Hid (pagesF z = 0) := Lib.hid (if_pos h0)
    clear h0
    go_enter Try.func11, Try.ntmps11
    go_wp2_with fail
    go_ret
    exact ⟨by rw [HV.out]; rfl, Below.refl _ _⟩
  have d0 : decide (z ≤ 0) = false := decide_eq_false h0
  by_cases h1 : 80 ≤ z
  · have d1 : decide (80 ≤ z) = true := decide_eq_true h1
    have HV : Hid (pagesF z = 5) := Lib.hid (by unfold pagesF; rw [if_neg h0, if_pos h1])
    clear h0 h1
    go_enter Try.func11, Try.ntmps11
    go_wp2_with fail
    go_ret
    exact ⟨by rw [HV.out]; rfl, Below.refl _ _⟩
  have d1 : decide (80 ≤ z) = false := decide_eq_false h1
  have hw1 : IntKind.i64.wrap (z + 16) = z + 16 := i64w_idS _ (by omega)
  have hw2 : IntKind.i64.wrap (z + 16 - 1) = z + 15 := by rw [show z + 16 - 1 = z + 15 by omega]; exact i64w_idS _ (by omega)
  have hq : (z + 15).tdiv 16 = (z + 15) / 16 := Int.tdiv_eq_ediv_of_nonneg (by omega)
  have hw3 : IntKind.i64.wrap ((z + 15) / 16) = (z + 15) / 16 := i64w_idS _ (by omega)
  have HV : Hid (pagesF z = (z + 15) / 16) := Lib.hid (by unfold pagesF; rw [if_neg h0, if_neg h1])
  clear h0 h1
  go_enter Try.func11, Try.ntmps11
  go_wp2_with fail
  go_ret
  exact ⟨by rw [HV.out]; first | rfl | simp, Below.refl _ _⟩
set_option maxRecDepth 100000 in
theorem cutr_any (z a n : Int) (w : World) (hz : Wf6 z) : Calls Try.prog 15 #[.int .i64 z, .int .i64 a, .int .i64 n] w fun e w' => e = .returned (.int .i64 (cutF z a n)) ∧ Below w.heap.size w w' := by
  by_cases h0 : a < 0
  · have d0 : decide (a < 0) = true := decide_eq_true h0
    have HV : Hid (cutF z a n = 0) := Lib.hid (if_pos (.inl h0))
    clear h0
    go_enter Try.func15, Try.ntmps15
    go_wp2_with fail
    go_ret
    exact ⟨by rw [HV.out]; rfl, Below.refl _ _⟩
  have d0 : decide (a < 0) = false := decide_eq_false h0
  by_cases h1 : n < 0
  · have d1 : decide (n < 0) = true := decide_eq_true h1
    have HV : Hid (cutF z a n = 0) := Lib.hid (if_pos (.inr (.inl h1)))
    clear h0 h1
    go_enter Try.func15, Try.ntmps15
    go_wp2_with fail
    go_ret
    exact ⟨by rw [HV.out]; rfl, Below.refl _ _⟩
  have d1 : decide (n < 0) = false := decide_eq_false h1
  by_cases h2 : z ≤ a
  · have d2 : decide (z ≤ a) = true := decide_eq_true h2
    have HV : Hid (cutF z a n = 0) := Lib.hid (if_pos (.inr (.inr h2)))
    clear h0 h1 h2
    go_enter Try.func15, Try.ntmps15
    go_wp2_with fail
    go_ret
    exact ⟨by rw [HV.out]; rfl, Below.refl _ _⟩
  have d2 : decide (z ≤ a) = false := decide_eq_false h2
  have hw : IntKind.i64.wrap (z - a) = z - a := i64w_idS _ (by omega)
  have hC : cutF z a n = min n (z - a) := if_neg (by omega)
  clear h0 h1 h2
  by_cases hm : z - a < n
  · have HV : Hid (cutF z a n = z - a) := Lib.hid (by rw [hC]; omega)
    clear hC
    go_enter Try.func15, Try.ntmps15
    go_wp2_with fail
    go_ret
    exact ⟨by rw [HV.out]; rfl, Below.refl _ _⟩
  · have HV : Hid (cutF z a n = n) := Lib.hid (by rw [hC]; omega)
    clear hC
    go_enter Try.func15, Try.ntmps15
    go_wp2_with fail
    go_ret
    exact ⟨by rw [HV.out]; rfl, Below.refl _ _⟩
end Go.Proofs.Ytljlmaddbpihnaa
