/- Numbers of pages: sheet's Number, the reference's PageOf, SplitPage; ints brought within bounds. -/
import Derived.Test.YtohiabkjbieflaaNdR
namespace Go.Proofs.Ytohiabkjbieflaa
open Go.RowKit

theorem u64_nat (x : Int) (m : Nat) (hm : 0 < m) (h : m ≤ 9223372036854775807) : ∃ N : Nat, IntKind.u64.wrap x % (m : Int) = (N : Int) ∧ N < m := by
  have e : IntKind.u64.wrap x = x % 18446744073709551616 := by unfold IntKind.wrap; rfl
  have h0 : 0 ≤ IntKind.u64.wrap x := by rw [e]; omega
  have h1 := Int.emod_nonneg (IntKind.u64.wrap x) (show (m : Int) ≠ 0 by omega)
  have h2 := Int.emod_lt_of_pos (IntKind.u64.wrap x) (show (0 : Int) < m by omega)
  exact ⟨(IntKind.u64.wrap x % (m : Int)).toNat, by omega, by omega⟩
theorem u64_tmod (x : Int) (m : Nat) (hm : 0 < m) (h : m ≤ 9223372036854775807) : ∃ N : Nat, (IntKind.u64.wrap x).tmod (m : Int) = (N : Int) ∧ N < m := by
  obtain ⟨N, h1, h2⟩ := u64_nat x m hm h
  have e : IntKind.u64.wrap x = x % 18446744073709551616 := by unfold IntKind.wrap; rfl
  exact ⟨N, by rw [Int.tmod_eq_emod_of_nonneg (by rw [e]; omega)]; exact h1, h2⟩
theorem u64_rng (x : Int) : 0 ≤ IntKind.u64.wrap x ∧ IntKind.u64.wrap x ≤ 18446744073709551615 := by
  have e : IntKind.u64.wrap x = x % 18446744073709551616 := by unfold IntKind.wrap; rfl
  rw [e]; omega
theorem small12 (x : Int) : ∃ N : Nat, (IntKind.u64.wrap x).tmod 12 = (N : Int) ∧ N < 12 := by
  have := u64_tmod x 12 (by decide) (by decide); simpa using this
theorem small5 (x : Int) : ∃ N : Nat, (IntKind.u64.wrap x).tmod 5 = (N : Int) ∧ N < 5 := by
  have := u64_tmod x 5 (by decide) (by decide); simpa using this
def numS (a b : Int) : Int := if (0 ≤ a ∧ a ≤ 11) ∧ 0 ≤ b ∧ b ≤ 4 then 1 + a * 5 + b else 0
def splitS (n : Int) : Int × Int := if 1 ≤ n ∧ n ≤ 60 then ((n - 1) / 5, (n - 1) % 5) else (-1, -1)
theorem numS_in {a : Int} {q : Nat} (h0 : 0 ≤ a) (h1 : a < 12) (hq : q < 5) : numS a (q : Int) = 1 + a * 5 + q := by
  unfold numS
  rw [if_pos (by omega)]
theorem splitS_in {a : Int} {q : Nat} (h0 : 0 ≤ a) (h1 : a < 12) (hq : q < 5) : splitS (1 + a * 5 + (q : Int)) = (a, (q : Int)) := by
  unfold splitS
  rw [if_pos (by omega), (split_num hq).1, (split_num hq).2]
theorem pageof_any (a b : Int) (w : World) : Calls Try.prog 25 #[.int .i64 a, .int .i64 b] w fun e w' => e = .returned (.int .i64 (numS a b)) ∧ w = w' := by
  go_enter Try.func25, Try.ntmps25
  go_wp2
  all_goals
    go_ret
    exact ⟨ret_int (by unfold numS; first | rw [if_neg (by omega)] | rw [if_pos (by omega)]), rfl⟩
theorem splitpage_any (n : Int) (w : World) : Calls Try.prog 22 #[.int .i64 n] w fun e w' => e = .returned (.tuple #[.int .i64 (splitS n).1, .int .i64 (splitS n).2]) ∧ w = w' := by
  by_cases h1 : 1 ≤ n ∧ n ≤ 60
  all_goals
    have H1 := Lib.hid h1
    have e1 : splitS n = if 1 ≤ n ∧ n ≤ 60 then ((n - 1) / 5, (n - 1) % 5) else (-1, -1) := rfl
    simp only [h1] at e1
    have E1 := Lib.hid e1
    clear e1
    go_enter Try.func22, Try.ntmps22
    go_wp2
  · go_ret2
    rw [E1.out]
    exact ⟨by simp, rfl⟩
  · go_ret2
    rw [E1.out]
    exact ⟨by simp, rfl⟩
  · go_ret2
    rw [E1.out]
    exact ⟨by simp, rfl⟩
end Go.Proofs.Ytohiabkjbieflaa
