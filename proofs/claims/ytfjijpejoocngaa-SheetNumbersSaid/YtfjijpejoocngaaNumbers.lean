/- SheetNumbers: pages of files and numbers undo one another; each has its own: the law's walk. -/
import Derived.Test.YtfjijpejoocngaaAwake
namespace Go.Proofs.Ytfjijpejoocngaa
open Go.RowKit

theorem numS_in (A B : Nat) (hA : A < 12) (hB : B < 5) : numS (A : Int) (B : Int) = ((1 + A * 5 + B : Nat) : Int) := by
  unfold numS
  rw [if_pos (by omega)]; omega
theorem splitS_in (A B : Nat) (hA : A < 12) (hB : B < 5) : splitS ((1 + A * 5 + B : Nat) : Int) = ((A : Int), (B : Int)) := by
  unfold splitS
  rw [if_pos (by omega)]
  simp only [Prod.mk.injEq]; omega
theorem decide_beq_int (n m : Nat) : ((n : Int) == (m : Int)) = decide (n = m) := by
  by_cases h : n = m
  · subst h; simp
  · rw [decide_eq_false h]; simp; omega
theorem small12 (x : Int) : ∃ N : Nat, (IntKind.u64.wrap x).tmod 12 = (N : Int) ∧ N < 12 := by
  have := u64_tmod x 12 (by decide) (by decide); simpa using this
theorem small5 (x : Int) : ∃ N : Nat, (IntKind.u64.wrap x).tmod 5 = (N : Int) ∧ N < 5 := by
  have := u64_tmod x 5 (by decide) (by decide); simpa using this
set_option maxRecDepth 100000 in
set_option maxHeartbeats 1000000 in
theorem numbers_any (a b c d : Int) (w : World) : Calls Try.prog 5 #[.int .i64 a, .int .i64 b, .int .i64 c, .int .i64 d] w (Holds w) := by
  obtain ⟨A, hA, hA1⟩ := small12 a
  obtain ⟨B, hB, hB1⟩ := small5 b
  obtain ⟨C, hC, hC1⟩ := small12 c
  obtain ⟨D, hD, hD1⟩ := small5 d
  obtain ⟨n, hn⟩ : ∃ n : Nat, n = 1 + A * 5 + B := ⟨_, rfl⟩
  obtain ⟨m, hm⟩ : ∃ m : Nat, m = 1 + C * 5 + D := ⟨_, rfl⟩
  have N1 := Lib.hid ((numS_in A B hA1 hB1).trans (by rw [← hn]))
  have N2 := Lib.hid ((numS_in C D hC1 hD1).trans (by rw [← hm]))
  have SP := Lib.hid (splitS_in A B hA1 hB1)
  rw [← hn] at SP
  have hn1 : 1 ≤ n := by omega
  have hn2 : n ≤ 60 := by omega
  have ra := u64_rng a
  have rb := u64_rng b
  have rc := u64_rng c
  have rd := u64_rng d
  have hmn := Lib.hid (show n = m ↔ A = C ∧ B = D by omega)
  clear hn hm
  go_enter Try.func5, Try.ntmps5
  go_wp2_with (first
    | (go_at_call 20; refine (numof_any _ _ _).mono ?_; rintro e w' ⟨rfl, rfl⟩; first | rw [N1.out] | rw [N2.out])
    | (go_at_call 15; refine (split_any _ _).mono ?_; rintro e w' ⟨rfl, rfl⟩; rw [SP.out])
    | (go_at_call 10; refine (awake_any _).mono ?_; rintro e w' ⟨rfl, hb⟩))
  · go_ret
    exact ⟨rfl, by assumption⟩
  · exfalso
    rename_i h1 h2
    apply h2
    have hAC : A = C := by omega
    have := hmn.out
    by_cases hBD : B = D
    · rw [decide_beq_int n m, decide_beq_int B D, decide_eq_true hBD, decide_eq_true (this.2 ⟨hAC, hBD⟩)]
    · rw [decide_beq_int n m, decide_beq_int B D, decide_eq_false hBD, decide_eq_false (fun h => hBD (this.1 h).2)]
  · exfalso
    rename_i h1 h2
    exact h1 (by have := (hmn.out.1 (by omega)).1; omega)
  · rename_i h1
    have e : (!((n : Int) == (m : Int))) = true := by
      rw [decide_beq_int, decide_eq_false (fun h => h1 (by rw [h]))]; rfl
    go_ret
    exact ⟨ret_bool e, by assumption⟩
end Go.Proofs.Ytfjijpejoocngaa
