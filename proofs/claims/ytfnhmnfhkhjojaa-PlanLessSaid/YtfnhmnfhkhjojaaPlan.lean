/- Package plan, and the reference's: within, May, Need, Room, Fits, Floor. -/
import Derived.WalkKit
import Derived.WalkSpells
import Derived.WalkLawsBesides
import Derived.IntWalk
import Derived.Lib.Hide
import Derived.Outline
import Derived.Deep.QuietTactic
import Derived.BigQuiet
import Derived.Below
import Derived.Deep.RegionWith
import Derived.Test.YtfnhmnfhkhjojaaProg
namespace Go.Proofs.Ytfnhmnfhkhjojaa
open Go.RowKit

theorem ret_int {k : IntKind} {a b : Int} (h : a = b) : Ending.returned (.int k a) = .returned (.int k b) := by rw [h]
theorem ret_bool {a b : Bool} (h : a = b) : Ending.returned (.bool a) = .returned (.bool b) := by rw [h]
theorem lt_size {w : World} {p : Nat} {o : Obj} (h : w.heap[p]? = some o) : p < w.heap.size := (Array.getElem?_eq_some_iff.1 h).1
/-- A config that may be. -/
def MayP (B P S D U : Int) : Prop := (3 ≤ B ∧ B ≤ 64) ∧ (2 ≤ P ∧ P ≤ 32) ∧ (0 ≤ S ∧ S ≤ 6) ∧ (1 ≤ D ∧ D ≤ 60) ∧ 2 ≤ U ∧ U ≤ 50
instance (B P S D U : Int) : Decidable (MayP B P S D U) := by unfold MayP; infer_instance
def needP (B P S D U : Int) : Int := if MayP B P S D U then D + 8 else 0
def roomP (B P S D U bad : Int) : Int := if MayP B P S D U ∧ 0 ≤ bad ∧ bad ≤ B then (if 0 < B - bad - S - 1 then (B - bad - S - 1) * P else 0) else 0
def FitsP (B P S D U bad : Int) : Prop := MayP B P S D U ∧ (0 ≤ bad ∧ bad ≤ B) ∧ needP B P S D U ≤ roomP B P S D U bad
instance (B P S D U bad : Int) : Decidable (FitsP B P S D U bad) := by unfold FitsP; infer_instance
def floorP (B P S D U b : Int) : Int := if MayP B P S D U ∧ 0 ≤ b then (if b ≤ S then S - b + 1 else 0) else 0
theorem cells5 {w : World} {q : Nat} {a b c d e : Value} {t : TypeId} (h : w.heap[q]? = some (.cells #[a, b, c, d, e] t (0, 0))) : w.cell? ⟨q, 0, none⟩ = some a ∧ w.cell? ⟨q, 1, none⟩ = some b ∧ w.cell? ⟨q, 2, none⟩ = some c ∧ w.cell? ⟨q, 3, none⟩ = some d ∧ w.cell? ⟨q, 4, none⟩ = some e := by
  simp [World.cell?, h]

theorem withinp_any (a b c : Int) (w : World) :
    Calls Try.prog 19 #[.int .i64 a, .int .i64 b, .int .i64 c] w fun e w' => e = .returned (.bool (decide (b ≤ a ∧ a ≤ c))) ∧ w = w' := by
  go_enter Try.func19, Try.ntmps19
  go_wp2
  · have h : b ≤ a := by assumption
    go_ret
    exact ⟨ret_bool (by simp [h]), rfl⟩
  · have h : a < b := by assumption
    go_ret
    exact ⟨ret_bool (by simp; omega), rfl⟩
set_option maxRecDepth 100000 in
set_option maxHeartbeats 1000000 in
theorem mayp_any (B P S D U : Int) (w : World) :
    Calls Try.prog 8 #[.agg #[.int .i64 B, .int .i64 P, .int .i64 S, .int .i64 D, .int .i64 U]] w fun e w' => e = .returned (.bool (decide (MayP B P S D U))) ∧ Below w.heap.size w w' := by
  have hb0 := (Below.refl w.heap.size w).alloc (Nat.le_refl _) (.cells #[.int .i64 B, .int .i64 P, .int .i64 S, .int .i64 D, .int .i64 U] 23)
  by_cases h1 : 3 ≤ B ∧ B ≤ 64
  case neg =>
    have H1 := Lib.hid h1
    clear h1
    go_enter Try.func8, Try.ntmps8
    go_wp2_with (go_at_call 19; refine (withinp_any _ _ _ _).mono ?_; rintro e w' ⟨rfl, rfl⟩; rw [decide_eq_false H1.out])
    go_ret
    exact ⟨ret_bool (decide_eq_false fun h => H1.out h.1).symm, hb0⟩
  by_cases h2 : 2 ≤ P ∧ P ≤ 32
  case neg =>
    have H1 := Lib.hid h1
    have H2 := Lib.hid h2
    clear h1 h2
    go_enter Try.func8, Try.ntmps8
    go_wp2_with (go_at_call 19; refine (withinp_any _ _ _ _).mono ?_; rintro e w' ⟨rfl, rfl⟩; first | rw [decide_eq_true H1.out] | rw [decide_eq_false H2.out])
    go_ret
    exact ⟨ret_bool (decide_eq_false fun h => H2.out h.2.1).symm, hb0⟩
  by_cases h3 : 0 ≤ S ∧ S ≤ 6
  case neg =>
    have H1 := Lib.hid h1
    have H2 := Lib.hid h2
    have H3 := Lib.hid h3
    clear h1 h2 h3
    go_enter Try.func8, Try.ntmps8
    go_wp2_with (go_at_call 19; refine (withinp_any _ _ _ _).mono ?_; rintro e w' ⟨rfl, rfl⟩; first | rw [decide_eq_true H1.out] | rw [decide_eq_true H2.out] | rw [decide_eq_false H3.out])
    go_ret
    exact ⟨ret_bool (decide_eq_false fun h => H3.out h.2.2.1).symm, hb0⟩
  by_cases h4 : 1 ≤ D ∧ D ≤ 60
  case neg =>
    have H1 := Lib.hid h1
    have H2 := Lib.hid h2
    have H3 := Lib.hid h3
    have H4 := Lib.hid h4
    clear h1 h2 h3 h4
    go_enter Try.func8, Try.ntmps8
    go_wp2_with (go_at_call 19; refine (withinp_any _ _ _ _).mono ?_; rintro e w' ⟨rfl, rfl⟩; first | rw [decide_eq_true H1.out] | rw [decide_eq_true H2.out] | rw [decide_eq_true H3.out] | rw [decide_eq_false H4.out])
    go_ret
    exact ⟨ret_bool (decide_eq_false fun h => H4.out h.2.2.2.1).symm, hb0⟩
  by_cases h5 : 2 ≤ U ∧ U ≤ 50
  all_goals
    have H1 := Lib.hid h1
    have H2 := Lib.hid h2
    have H3 := Lib.hid h3
    have H4 := Lib.hid h4
    have H5 := Lib.hid h5
    clear h1 h2 h3 h4 h5
    go_enter Try.func8, Try.ntmps8
    go_wp2_with (go_at_call 19; refine (withinp_any _ _ _ _).mono ?_; rintro e w' ⟨rfl, rfl⟩; first | rw [decide_eq_true H1.out] | rw [decide_eq_true H2.out] | rw [decide_eq_true H3.out] | rw [decide_eq_true H4.out] | rw [decide_eq_true H5.out] | rw [decide_eq_false H5.out])
    go_ret
    refine ⟨ret_bool ?_, hb0⟩
    symm
    simp [MayP, H1.out, H2.out, H3.out, H4.out, H5.out]
set_option maxRecDepth 100000 in
set_option maxHeartbeats 1000000 in
theorem mayr_any (B P S D U : Int) (w : World) :
    Calls Try.prog 9 #[.agg #[.int .i64 B, .int .i64 P, .int .i64 S, .int .i64 D, .int .i64 U]] w fun e w' => e = .returned (.bool (decide (MayP B P S D U))) ∧ Below w.heap.size w w' := by
  have hb0 := (Below.refl w.heap.size w).alloc (Nat.le_refl _) (.cells #[.int .i64 B, .int .i64 P, .int .i64 S, .int .i64 D, .int .i64 U] 23)
  go_enter Try.func9, Try.ntmps9
  go_wp2
  all_goals go_ret
  all_goals
    refine ⟨ret_bool ?_, hb0⟩
    by_cases hM : MayP B P S D U
    · rw [decide_eq_true hM]; obtain ⟨⟨_, _⟩, ⟨_, _⟩, ⟨_, _⟩, ⟨_, _⟩, _, _⟩ := hM; first | rfl | (exfalso; omega) | (rw [decide_eq_true]; assumption)
    · first | (rw [decide_eq_false hM]; done) | (rw [decide_eq_false hM]; rw [decide_eq_false]; exact fun h => hM ⟨⟨by assumption, by assumption⟩, ⟨by assumption, by assumption⟩, ⟨by assumption, by assumption⟩, ⟨by assumption, by assumption⟩, by assumption, h⟩)
theorem wf_le {x : Int} (h : (Lit.int .i64 x).wf = true) : -9223372036854775808 ≤ x ∧ x ≤ 9223372036854775807 := by
  have h0 : IntKind.min .i64 = -9223372036854775808 := by decide
  have h1 : IntKind.max .i64 = 9223372036854775807 := by decide
  simpa [Lit.wf, h0, h1] using h
end Go.Proofs.Ytfnhmnfhkhjojaa
