/- SpanCuts, over the landed contracts. -/
import Derived.Test.YtljlmaddbpihnaaSpF
import Derived.Deep.Cut
namespace Go.Proofs.Ytljlmaddbpihnaa
open Go.RowKit

theorem small100 (x : Int) : ∃ N : Nat, (IntKind.u64.wrap x).tmod 100 = (N : Int) ∧ N < 100 := by
  have := u64_tmod x 100 (by decide) (by decide); simpa using this
theorem cut_facts {Z A N : Nat} : ∃ K : Nat, cutF (Z : Int) (A : Int) (N : Int) = (K : Int) ∧ K ≤ N ∧ (0 < K → A + K ≤ Z) ∧ (K < N → ¬ A + K < Z) := by
  unfold cutF
  by_cases h : (Z : Int) ≤ (A : Int)
  · exact ⟨0, by rw [if_pos (.inr (.inr h))]; rfl, Nat.zero_le _, fun h => by omega, fun _ => by omega⟩
  · rw [if_neg (by omega)]
    exact ⟨min N (Z - A), by omega, by omega, fun _ => by omega, fun _ => by omega⟩
theorem pages_facts {Z : Nat} : ∃ p : Nat, pagesF (Z : Int) = (p : Int) ∧ p ≤ 5 ∧ (Z = 0 → p = 0) ∧ (0 < Z → 1 ≤ p) ∧ (64 < Z → p = 5) ∧ (Z ≤ 64 → p ≤ 4 ∧ p * 16 < Z + 16 ∧ Z ≤ p * 16) := by
  unfold pagesF
  by_cases h : (Z : Int) ≤ 0
  · exact ⟨0, by rw [if_pos h]; rfl, by omega, fun _ => rfl, fun _ => by omega, fun _ => by omega, fun _ => by omega⟩
  · rw [if_neg h]
    by_cases h1 : (80 : Int) ≤ (Z : Int)
    · exact ⟨5, by rw [if_pos h1]; rfl, by omega, fun _ => by omega, fun _ => by omega, fun _ => rfl, fun _ => by omega⟩
    · rw [if_neg h1]
      exact ⟨(Z + 15) / 16, by omega, by omega, fun _ => by omega, fun _ => by omega, fun _ => by omega, fun _ => by omega⟩
set_option maxHeartbeats 4000000 in
set_option maxRecDepth 100000 in
theorem cuts_law
    (lcut : ∀ (z a n : Int) (w : World), Wf6 z → Wf6 a → Wf6 n → Calls Try.prog 14 #[.int .i64 z, .int .i64 a, .int .i64 n] w fun e w' => e = .returned (.int .i64 (cutF z a n)) ∧ Below w.heap.size w w')
    (lpg : ∀ (z : Int) (w : World), Wf6 z → Calls Try.prog 10 #[.int .i64 z] w fun e w' => e = .returned (.int .i64 (pagesF z)) ∧ Below w.heap.size w w')
    (awk : ∀ w : World, Calls Try.prog 16 #[] w fun x w' => x = .returned (.bool true) ∧ Below w.heap.size w w')
    (z0 a0 n0 : Int) (w : World) : Calls Try.prog 5 #[.int .i64 z0, .int .i64 a0, .int .i64 n0] w fun e w' => e = .returned (.bool true) ∧ Below w.heap.size w w' := by
  obtain ⟨Z, hZ, hZ2⟩ := small100 z0
  obtain ⟨A, hA, hA2⟩ := small100 a0
  obtain ⟨N, hN, hN2⟩ := small100 n0
  have hZw : IntKind.i64.wrap (Z : Int) = (Z : Int) := i64w_idS _ (by omega)
  have hAw : IntKind.i64.wrap (A : Int) = (A : Int) := i64w_idS _ (by omega)
  have hNw : IntKind.i64.wrap (N : Int) = (N : Int) := i64w_idS _ (by omega)
  obtain ⟨K, hK, k1, k2, k3⟩ := cut_facts (Z := Z) (A := A) (N := N)
  obtain ⟨p, hp, p1, p2, p3, p4, p5⟩ := pages_facts (Z := Z)
  have HCU := Lib.hid (fun w1 => lcut (Z : Int) (A : Int) (N : Int) w1 (by omega) (by omega) (by omega))
  have HPG := Lib.hid (fun w1 => lpg (Z : Int) w1 (by omega))
  rw [hK] at HCU
  rw [hp] at HPG
  have HAW := Lib.hid awk
  clear hK hp lcut lpg awk
  have hw1 : IntKind.i64.wrap ((A : Int) + (K : Int)) = ((A + K : Nat) : Int) := by rw [i64w_idS _ (by omega)]; omega
  have hw2 : IntKind.i64.wrap ((p : Int) - 1) = (p : Int) - 1 := i64w_idS _ (by omega)
  have hw3 : IntKind.i64.wrap (((p : Int) - 1) * 16) = ((p : Int) - 1) * 16 := i64w_idS _ (by omega)
  have hw4 : IntKind.i64.wrap ((p : Int) * 16) = (p : Int) * 16 := i64w_idS _ (by omega)
  have HFA := Lib.hid (show K ≤ N ∧ (0 < K → A + K ≤ Z) ∧ (K < N → ¬ A + K < Z) ∧ p ≤ 5 ∧ (Z = 0 → p = 0) ∧ (0 < Z → 1 ≤ p) ∧ (64 < Z → p = 5) ∧ (Z ≤ 64 → p ≤ 4 ∧ p * 16 < Z + 16 ∧ Z ≤ p * 16) from ⟨k1, k2, k3, p1, p2, p3, p4, p5⟩)
  clear p1 p2 p3 p4 p5 hZ2 hA2 hN2
  have D2 : (0 < K ∧ (A : Int) + (K : Int) ≤ (Z : Int)) ∨ ¬ 0 < K := by
    by_cases h : 0 < K
    · have := k2 h; exact .inl ⟨h, by omega⟩
    · exact .inr h
  have D3 : (K < N ∧ ¬ ((A : Int) + (K : Int) < (Z : Int))) ∨ ¬ K < N := by
    by_cases h : K < N
    · have := k3 h; exact .inl ⟨h, by omega⟩
    · exact .inr h
  clear k2 k3
  rcases D2 with ⟨x1, x2⟩ | x1 <;> rcases D3 with ⟨y1, y2⟩ | y1
  all_goals
    go_enter Try.func5, Try.ntmps5
    go_upto_region 6 with (first
      | (go_at_call 14; (with_reducible refine (HCU.out _).mono ?_); rintro e w1 ⟨rfl, hb1⟩; have HB1 := Lib.hid hb1; clear hb1)
      | (go_at_call 10; (with_reducible refine (HPG.out _).mono ?_); rintro e w2 ⟨rfl, hb2⟩; have HB2 := Lib.hid (HB1.out.trans (hb2.mono HB1.out.size)); clear hb2)
      | fail)
    obtain ⟨-, -, -, -, f5, f6, f7, f8⟩ := HFA.out
    clear x1 y1 k1
    by_cases hz : Z = 0
    · have hp0 := f5 hz
      subst hz
      subst hp0
      clear f5 f6 f7 f8 hw1 hw2 hw3 hw4
      go_wp2_with (first
        | (go_at_call 16; (with_reducible refine (HAW.out _).mono ?_); rintro e w3 ⟨rfl, hb3⟩; have HB3 := Lib.hid (HB2.out.trans (hb3.mono HB2.out.size)); clear hb3)
        | fail)
      go_ret
      exact ⟨rfl, HB3.out⟩
    · have f6' := f6 (by omega)
      by_cases h64 : 64 < Z
      · have hp5 := f7 h64
        subst hp5
        clear f5 f6 f7 f8 hw2 hw3 hw4 f6'
        go_wp2_with (first
          | (go_at_call 16; (with_reducible refine (HAW.out _).mono ?_); rintro e w3 ⟨rfl, hb3⟩; have HB3 := Lib.hid (HB2.out.trans (hb3.mono HB2.out.size)); clear hb3)
          | fail)
        go_ret
        exact ⟨rfl, HB3.out⟩
      · obtain ⟨g1, g2, g3⟩ := f8 (by omega)
        have g4 : ¬ p = 5 := by omega
        have g5 : ((p : Int) - 1) * 16 < (Z : Int) := by omega
        have g6 : (Z : Int) ≤ (p : Int) * 16 := by omega
        have g7 : ((p : Int) == 5) = false := by simp; omega
        clear f5 f6 f7 f8 g1 g2 g3
        go_wp2_with (first
          | (go_at_call 16; (with_reducible refine (HAW.out _).mono ?_); rintro e w3 ⟨rfl, hb3⟩; have HB3 := Lib.hid (HB2.out.trans (hb3.mono HB2.out.size)); clear hb3)
          | fail)
        go_ret
        exact ⟨rfl, HB3.out⟩
end Go.Proofs.Ytljlmaddbpihnaa
