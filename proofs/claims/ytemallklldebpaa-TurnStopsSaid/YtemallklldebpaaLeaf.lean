/- The leaves of package turn: modulo, within, Turn, Spots; no conditions but the ranges of int. -/
import Derived.RangeFuncNested
import Derived.RangeFuncBound
import Derived.RangeFuncCalls
import Derived.RangeFuncLeaves
import Derived.Shelf.Abstract
import Derived.Shelf.RegionOpen
import Derived.WalkKit
import Derived.OwnWalkIn
import Derived.TacticsInMore
import Derived.LoopNIn
import Derived.LoopIn
import Derived.IntWalk
import Derived.Lib.Hide
import Derived.Outline
import Derived.Test.YtemallklldebpaaProg
namespace Go.Proofs.Ytemallklldebpaa
open Go.RowKit Go.Shelf

theorem tmod_bounds (x n : Int) (h1 : 1 ≤ n) : -n < x.tmod n ∧ x.tmod n < n := by
  have := Int.tmod_lt_of_pos x (show 0 < n by omega)
  have := Int.lt_tmod_of_pos x (show 0 < n by omega)
  omega
theorem emod_tmod_neg (x n : Int) (h1 : 1 ≤ n) (h : x.tmod n < 0) : x % n = x.tmod n + n := by
  have hb := tmod_bounds x n h1
  have e1 : x = n * (x.tdiv n) + x.tmod n := by have := Int.mul_tdiv_add_tmod x n; omega
  have e2 : x = (x.tmod n + n) + n * (x.tdiv n - 1) := by rw [Int.mul_sub]; omega
  rw [e2, Int.add_mul_emod_self_left]
  rw [← e2]
  exact Int.emod_eq_of_lt (by omega) (by omega)
theorem emod_tmod_pos (x n : Int) (h1 : 1 ≤ n) (h : 0 ≤ x.tmod n) : x % n = x.tmod n := by
  have hb := tmod_bounds x n h1
  have e2 : x = x.tmod n + n * (x.tdiv n) := by have := Int.mul_tdiv_add_tmod x n; omega
  rw [e2, Int.add_mul_emod_self_left]
  rw [← e2]
  exact Int.emod_eq_of_lt (by omega) (by omega)

theorem ret_int {k : IntKind} {a b : Int} (h : a = b) : Ending.returned (.int k a) = .returned (.int k b) := by rw [h]
theorem ret_bool {a b : Bool} (h : a = b) : Ending.returned (.bool a) = .returned (.bool b) := by rw [h]

theorem modulo_any (x n : Int) (w : World) (h1 : 1 ≤ n) (h2 : n ≤ 9223372036854775807) :
    Calls Try.prog 17 #[.int .i64 x, .int .i64 n] w fun e w' => e = .returned (.int .i64 (x % n)) ∧ w = w' := by
  have hb := tmod_bounds x n h1
  obtain ⟨hb1, hb2⟩ := hb
  go_enter Try.func17, Try.ntmps17
  go_wp2
  · have hlt : x.tmod n < 0 := by assumption
    go_ret
    exact ⟨ret_int (by rw [emod_tmod_neg x n h1 hlt]), rfl⟩
  · have hlt : 0 ≤ x.tmod n := by assumption
    go_ret
    exact ⟨ret_int (by rw [emod_tmod_pos x n h1 hlt]), rfl⟩

theorem within_any (x n : Int) (w : World) :
    Calls Try.prog 22 #[.int .i64 x, .int .i64 n] w fun e w' => e = .returned (.bool (decide (1 ≤ x ∧ x ≤ n))) ∧ w = w' := by
  go_enter Try.func22, Try.ntmps22
  go_wp2
  · have h : 1 ≤ x := by assumption
    go_ret
    exact ⟨ret_bool (by simp [h]), rfl⟩
  · have h : x < 1 := by assumption
    go_ret
    exact ⟨ret_bool (by simp; omega), rfl⟩

theorem turn_any (n from_ : Int) (w : World) :
    Calls Try.prog 12 #[.int .i64 n, .int .i64 from_] w fun e w' => e = .returned (.func (.func 16) #[] #[.pointer (some ⟨w.heap.size, 0, none⟩), .pointer (some ⟨w.heap.size + 1, 0, none⟩)]) ∧ w' = (w.alloc (.cells #[.int .i64 n] 3)).alloc (.cells #[.int .i64 from_] 3) := by
  go_enter Try.func12, Try.ntmps12
  go_wp2
  go_ret
  exact ⟨rfl, rfl⟩

theorem spots_any (n from_ : Int) (w : World) :
    Calls Try.prog 14 #[.int .i64 n, .int .i64 from_] w fun e w' => e = .returned (.func (.func 21) #[] #[.pointer (some ⟨w.heap.size, 0, none⟩), .pointer (some ⟨w.heap.size + 1, 0, none⟩)]) ∧ w' = (w.alloc (.cells #[.int .i64 n] 3)).alloc (.cells #[.int .i64 from_] 3) := by
  go_enter Try.func14, Try.ntmps14
  go_wp2
  go_ret
  exact ⟨rfl, rfl⟩
end Go.Proofs.Ytemallklldebpaa
