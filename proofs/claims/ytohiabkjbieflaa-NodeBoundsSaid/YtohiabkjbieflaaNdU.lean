/- The landed mayFile (written by mknu.py). -/
import Derived.Test.YtohiabkjbieflaaNdG
namespace Go.Proofs.Ytohiabkjbieflaa
open Go.RowKit Go.Lib

theorem nwithin_any (a b c : Int) (w : World) : Calls Try.prog 24 #[.int .i64 a, .int .i64 b, .int .i64 c] w fun e w' => e = .returned (.bool (decide (b ≤ a ∧ a ≤ c))) ∧ w = w' := by
  go_enter Try.func24, Try.ntmps24
  go_wp2
  · have h : b ≤ a := by assumption
    go_ret
    exact ⟨ret_bool (by simp [h]), rfl⟩
  · have h : a < b := by assumption
    go_ret
    exact ⟨ret_bool (by simp; omega), rfl⟩
set_option maxRecDepth 100000 in
set_option maxHeartbeats 4000000 in
theorem mayfl_any (n : Nd) (A B : Option Addr) (c d : Nat) (w : World) (h : NLies w n A B c d) : Calls Try.prog 26 #[ndV n A B c d] w fun x w' => x = .returned (.bool (mayFl n)) ∧ Below w.heap.size w w' := by
  have hmx : maxLen = 9223372036854775807 := rfl
  obtain ⟨k, l, z, sq, en⟩ := n
  have hsm : sq.length ≤ maxLen := h.sm
  have hem : en.length ≤ maxLen := h.em
  have HH := Lib.hid h
  have HBA := Lib.hid ((Below.refl w.heap.size w).alloc (Nat.le_refl _) (.cells #[.int .i64 k, .int .i64 l, .int .i64 z, .slice A sq.length c, .slice B en.length d] 25))
  clear h
  obtain ⟨R, hR⟩ : ∃ R, mayFl ⟨k, l, z, sq, en⟩ = R := ⟨_, rfl⟩
  rw [hR]
  have hR2 : (decide (0 ≤ l) && (decide (l ≤ 120) && (decide (0 ≤ z) && (decide (z ≤ 80) && (decide (sq.length = 5) && (decide (en.length = 0) && maySqs z 0 sq)))))) = R := hR
  clear hR
  have hw1 := fun w1 : World => nwithin_any l 0 120 w1
  have hw2 := fun w1 : World => nwithin_any z 0 80 w1
  have a3 : ((sq.length : Int) != 5) = !decide (sq.length = 5) := by rw [Bool.eq_iff_iff]; simp; omega
  have a4 : decide ((0 : Int) < (en.length : Int)) = !decide (en.length = 0) := by
    cases h : decide (en.length = 0) with
    | true => have := of_decide_eq_true h; exact decide_eq_false (by omega)
    | false => have := of_decide_eq_false h; exact decide_eq_true (by omega)
  have a5 : decide (0 < en.length) = !decide (en.length = 0) := by
    cases h : decide (en.length = 0) with
    | true => have := of_decide_eq_true h; exact decide_eq_false (by omega)
    | false => have := of_decide_eq_false h; exact decide_eq_true (by omega)
  by_cases hf : (0 ≤ l ∧ l ≤ 120) ∧ (0 ≤ z ∧ z ≤ 80) ∧ sq.length = 5 ∧ en.length = 0
  case neg =>
    have HR : Hid (R = false) := Lib.hid (by
      rw [← hR2]
      cases e : (decide (0 ≤ l) && (decide (l ≤ 120) && (decide (0 ≤ z) && (decide (z ≤ 80) && (decide (sq.length = 5) && (decide (en.length = 0) && maySqs z 0 sq)))))) with
      | false => rfl
      | true =>
        simp only [Bool.and_eq_true, decide_eq_true_eq] at e
        exact absurd ⟨⟨e.1, e.2.1⟩, ⟨e.2.2.1, e.2.2.2.1⟩, e.2.2.2.2.1, e.2.2.2.2.2.1⟩ hf)
    clear hR2
    have HF : Hid (¬ (decide (0 ≤ l ∧ l ≤ 120) = true ∧ decide (0 ≤ z ∧ z ≤ 80) = true ∧ decide (sq.length = 5) = true ∧ decide (en.length = 0) = true)) := Lib.hid (by simpa only [decide_eq_true_eq] using hf)
    clear hf
    generalize decide (0 ≤ l ∧ l ≤ 120) = x1 at hw1 HF
    generalize decide (0 ≤ z ∧ z ≤ 80) = x2 at hw2 HF
    generalize decide (sq.length = 5) = x3 at a3 HF
    generalize decide (en.length = 0) = x4 at a4 a5 HF
    have HW1 := Lib.hid hw1
    have HW2 := Lib.hid hw2
    clear hw1 hw2
    cases x1 with
    | false =>
      go_enter Try.func26, Try.ntmps26
      go_wp2_with (first
        | (go_at_call 24; (with_reducible refine (HW1.out _).mono ?_); rintro e w1 ⟨rfl, rfl⟩)
        | (go_at_call 24; (with_reducible refine (HW2.out _).mono ?_); rintro e w1 ⟨rfl, rfl⟩)
        | fail)
      go_ret
      exact ⟨by rw [HR.out]; rfl, HBA.out⟩
    | true =>
    cases x2 with
    | false =>
      go_enter Try.func26, Try.ntmps26
      go_wp2_with (first
        | (go_at_call 24; (with_reducible refine (HW1.out _).mono ?_); rintro e w1 ⟨rfl, rfl⟩)
        | (go_at_call 24; (with_reducible refine (HW2.out _).mono ?_); rintro e w1 ⟨rfl, rfl⟩)
        | fail)
      go_ret
      exact ⟨by rw [HR.out]; rfl, HBA.out⟩
    | true =>
    cases x3 with
    | false =>
      go_enter Try.func26, Try.ntmps26
      go_wp2_with (first
        | (go_at_call 24; (with_reducible refine (HW1.out _).mono ?_); rintro e w1 ⟨rfl, rfl⟩)
        | (go_at_call 24; (with_reducible refine (HW2.out _).mono ?_); rintro e w1 ⟨rfl, rfl⟩)
        | fail)
      go_ret
      exact ⟨by rw [HR.out]; rfl, HBA.out⟩
    | true =>
    cases x4 with
    | true => exact absurd ⟨rfl, rfl, rfl, rfl⟩ HF.out
    | false =>
      go_enter Try.func26, Try.ntmps26
      go_wp2_with (first
        | (go_at_call 24; (with_reducible refine (HW1.out _).mono ?_); rintro e w1 ⟨rfl, rfl⟩)
        | (go_at_call 24; (with_reducible refine (HW2.out _).mono ?_); rintro e w1 ⟨rfl, rfl⟩)
        | fail)
      go_ret
      exact ⟨by rw [HR.out]; rfl, HBA.out⟩
  obtain ⟨f1, f2, f3, f4⟩ := hf
  have HR : Hid (maySqs z 0 sq = R) := Lib.hid (by
    rw [decide_eq_true f1.1, decide_eq_true f1.2, decide_eq_true f2.1, decide_eq_true f2.2, decide_eq_true f3, decide_eq_true f4] at hR2
    simpa using hR2)
  rw [decide_eq_true f3] at a3
  rw [decide_eq_true f4] at a4 a5
  rw [decide_eq_true f1] at hw1
  rw [decide_eq_true f2] at hw2
  have HW1 := Lib.hid hw1
  have HW2 := Lib.hid hw2
  have F5 := Lib.hid f3
  clear hR2 f1 f2 f3 f4 hw1 hw2
  have HX := Lib.hid (box_node w (.int .i64 k) (.int .i64 l) (.int .i64 z) (.slice A sq.length c) (.slice B en.length d) 25)
  go_enter Try.func26, Try.ntmps26
  go_wp2_with (first
    | (go_at_call 24; (with_reducible refine (HW1.out _).mono ?_); rintro e w1 ⟨rfl, rfl⟩)
    | (go_at_call 24; (with_reducible refine (HW2.out _).mono ?_); rintro e w1 ⟨rfl, rfl⟩)
    | fail)
  generalize w.alloc _ = W at HX HBA ⊢
  have hz : W.cell? ⟨w.heap.size, 2, none⟩ = some (.int .i64 z) := by have := HX.out; simp [World.cell?, this]
  clear HW1 HW2
  go_loopw [3, 4, 30] (fun _ _ v30 wr => ∃ jx : Nat, jx ≤ sq.length ∧ v30 = .int .i64 jx ∧ Hid (∀ i (h : i < sq.length), i < jx → maySq z i sq[i] = true) ∧ wr = W) (fun _ _ v30 _ => sq.length - (RowKit.intOf v30).toNat)
  case atStart => exact ⟨0, Nat.zero_le _, rfl, Lib.hid fun i _ h => absurd h (Nat.not_lt_zero i), rfl⟩
  case round =>
    obtain ⟨jx, hj, rfl, HI, rfl⟩ := hrel
    by_cases hj1 : jx < sq.length
    · obtain ⟨B1, o, rfl, hBs, hc⟩ := (HH.out.below HBA.out).sq (show 0 < sq.length by omega)
      have d2 : decide ((jx : Int) < (sq.length : Int)) = true := decide_eq_true (by omega)
      have k0 := hc jx hj1
      dsimp only at k0
      obtain ⟨s, hs⟩ : ∃ s, sq[jx] = s := ⟨_, rfl⟩
      rw [hs] at k0
      have HS := Lib.hid hs
      clear hc hs
      have hj5 : jx < 5 := by have := F5.out; omega
      have hw3 := fun w1 : World => nwithin_any s 0 1099511627776 w1
      by_cases g1 : 0 ≤ s ∧ s ≤ 1099511627776
      case neg =>
        have HF : Hid (R = false) := Lib.hid (by rw [← HR.out]; exact maySqs_one hj1 (by rw [HS.out]; cases e : maySq z jx s with | false => rfl | true => exact absurd ⟨(maySq_at e).1, (maySq_at e).2.1⟩ g1))
        rw [decide_eq_false g1] at hw3
        have HW3 := Lib.hid hw3
        clear g1 hw3
        go_wp2_with (first
          | (go_at_call 24; (with_reducible refine (HW3.out _).mono ?_); rintro e w1 ⟨rfl, rfl⟩)
          | fail)
        go_ret
        exact ⟨by rw [HF.out]; rfl, HBA.out⟩
      rw [decide_eq_true g1] at hw3
      have HW3 := Lib.hid hw3
      have hw : IntKind.i64.wrap ((jx : Int) * 16) = (jx : Int) * 16 := i64w_idE _ (by omega)
      by_cases g3 : s = 0
      · subst g3
        clear g1 hw3
        go_wp2_with (first
          | (go_at_call 24; (with_reducible refine (HW3.out _).mono ?_); rintro e w1 ⟨rfl, rfl⟩)
          | fail)
        go_roundw
        case rel =>
          refine ⟨jx + 1, by omega, by go_num, Lib.hid fun i h hi => ?_, by trivial⟩
          by_cases e : i = jx
          · subst e; rw [HS.out]; exact maySq_mk (by omega) (by omega) (fun e => absurd rfl e)
          · exact HI.out i h (by omega)
        case measure => simp [RowKit.intOf]; omega
      · have b3 : (s != 0) = true := by simpa using g3
        by_cases g4 : (jx : Int) * 16 < z
        · have b4 : decide (z ≤ (jx : Int) * 16) = false := decide_eq_false (by omega)
          have G := Lib.hid (And.intro g1 g4)
          clear g1 g3 g4 hw3
          go_wp2_with (first
            | (go_at_call 24; (with_reducible refine (HW3.out _).mono ?_); rintro e w1 ⟨rfl, rfl⟩)
            | fail)
          go_roundw
          case rel =>
            refine ⟨jx + 1, by omega, by go_num, Lib.hid fun i h hi => ?_, by trivial⟩
            by_cases e : i = jx
            · subst e; rw [HS.out]; have g := G.out; exact maySq_mk g.1.1 g.1.2 (fun _ => g.2)
            · exact HI.out i h (by omega)
          case measure => simp [RowKit.intOf]; omega
        · have b4 : decide (z ≤ (jx : Int) * 16) = true := decide_eq_true (by omega)
          have HF : Hid (R = false) := Lib.hid (by rw [← HR.out]; exact maySqs_one hj1 (by rw [HS.out]; cases e : maySq z jx s with | false => rfl | true => exact absurd ((maySq_at e).2.2 g3) (by omega)))
          clear g1 g3 g4 hw3
          go_wp2_with (first
            | (go_at_call 24; (with_reducible refine (HW3.out _).mono ?_); rintro e w1 ⟨rfl, rfl⟩)
            | fail)
          go_ret
          exact ⟨by rw [HF.out]; rfl, HBA.out⟩
    · have d2 : decide ((jx : Int) < (sq.length : Int)) = false := decide_eq_false (by omega)
      have HF : Hid (R = true) := Lib.hid (by rw [← HR.out]; exact maySqs_all fun i h => HI.out i h (by omega))
      go_wp2_with fail
      go_ret
      exact ⟨by rw [HF.out]; rfl, HBA.out⟩
end Go.Proofs.Ytohiabkjbieflaa
