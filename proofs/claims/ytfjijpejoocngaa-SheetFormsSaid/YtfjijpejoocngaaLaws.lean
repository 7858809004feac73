/- What a step of a reader is over bytes that were written; plain mathematics. -/
import Derived.Test.YtfjijpejoocngaaStep
namespace Go.Proofs.Ytfjijpejoocngaa
open Go.RowKit

theorem heldW_nat (n : Nat) (h : n ≤ 1099511627776) : heldW (n : Int) = n := by have := heldW_in (n : Int) (by omega) (by omega); omega
theorem numStep_num (n : Nat) (t : List UInt8) (most : Int) (h : n < 4398046511104) (hm : (n : Int) ≤ most) : numStep (numL n ++ t, 0) most = ((n : Int), (t, 0)) := by
  unfold numStep
  simp [read_num n t most h hm]
theorem numStep_above (n : Nat) (t : List UInt8) (most : Int) (h : n < 4398046511104) (hm : most < (n : Int)) : numStep (numL n ++ t, 0) most = (0, (numL n ++ t, 5)) := by
  unfold numStep
  simp [read_above n t most h hm]
theorem textStep_text (s t : List UInt8) (most : Int) (h : s.length < 4398046511104) (hm : (s.length : Int) ≤ most) : textStep (numL s.length ++ s ++ t, 0) most = (s, (t, 0)) := by
  unfold textStep
  rw [List.append_assoc]
  have e : (numL s.length ++ (s ++ t)).drop ((numL s.length).length + s.length) = t := by rw [← List.append_assoc]; exact List.drop_left' (by simp)
  simp [read_num s.length (s ++ t) most h hm, e]
theorem textStep_above (s t : List UInt8) (most : Int) (h : s.length < 4398046511104) (hm : most < (s.length : Int)) : textStep (numL s.length ++ s ++ t, 0) most = ([], (numL s.length ++ s ++ t, 5)) := by
  unfold textStep
  rw [List.append_assoc]
  simp [read_above s.length (s ++ t) most h hm]
theorem numStep_err (s : RS) (most : Int) (h : s.2 ≠ 0) : numStep s most = (0, s) := by unfold numStep; rw [if_pos h]
theorem textStep_err (s : RS) (most : Int) (h : s.2 ≠ 0) : textStep s most = ([], s) := by unfold textStep; rw [if_pos h]
/-- A number that is cut short is none. -/
theorem numStep_short (n c : Nat) (most : Int) (h : c < (numL n).length) : numStep ((numL n).take c, 0) most = (0, ((numL n).take c, 5)) := by
  unfold numStep
  simp [read_short n c most h]
theorem u64_nat (x : Int) (m : Nat) (hm : 0 < m) (h : m ≤ 9223372036854775807) : ∃ N : Nat, IntKind.u64.wrap x % (m : Int) = (N : Int) ∧ N < m := by
  have e : IntKind.u64.wrap x = x % 18446744073709551616 := by unfold IntKind.wrap; rfl
  have h0 : 0 ≤ IntKind.u64.wrap x := by rw [e]; omega
  have h1 := Int.emod_nonneg (IntKind.u64.wrap x) (show (m : Int) ≠ 0 by omega)
  have h2 := Int.emod_lt_of_pos (IntKind.u64.wrap x) (show (0 : Int) < m by omega)
  exact ⟨(IntKind.u64.wrap x % (m : Int)).toNat, by omega, by omega⟩
theorem u64_tmod (x : Int) (m : Nat) (hm : 0 < m) (h : m ≤ 9223372036854775807) : ∃ N : Nat, (IntKind.u64.wrap x).tmod (m : Int) = (N : Int) ∧ N < m := by
  obtain ⟨N, h1, h2⟩ := u64_nat x m hm h
  have e : IntKind.u64.wrap x = x % 18446744073709551616 := by unfold IntKind.wrap; rfl
  exact ⟨N, by rw [Int.tmod_eq_emod_of_nonneg (by rw [e]; omega)]; exact h1, h2⟩
theorem u64_rng (x : Int) : 0 ≤ IntKind.u64.wrap x ∧ IntKind.u64.wrap x ≤ 18446744073709551615 := by
  have e : IntKind.u64.wrap x = x % 18446744073709551616 := by unfold IntKind.wrap; rfl
  rw [e]; omega
/-- A number that is written behind nothing. -/
theorem number_fresh (n : Nat) (w : World) (h : n ≤ 1099511627776) : Calls Try.prog 23 #[.slice none 0 0, .int .i64 n] w (Fresh w (numL n)) := by
  have := number_made 0 none 0 [] n w .nil (Nat.zero_le _) (by simp)
  rwa [heldW_nat n h] at this
end Go.Proofs.Ytfjijpejoocngaa
