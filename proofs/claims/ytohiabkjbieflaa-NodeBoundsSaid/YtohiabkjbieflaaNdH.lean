/- The reference's MayNode. -/
import Derived.Test.YtohiabkjbieflaaNdG
namespace Go.Proofs.Ytohiabkjbieflaa
open Go.RowKit Go.Lib

set_option maxRecDepth 100000 in
set_option maxHeartbeats 4000000 in
theorem maynr_any (n : Nd) (A B : Option Addr) (c d : Nat) (w : World) (h : NLies w n A B c d) : Calls Try.prog 13 #[ndV n A B c d] w fun x w' => x = .returned (.bool (mayNd n)) ∧ Below w.heap.size w w' := by
  have hmx : maxLen = 9223372036854775807 := rfl
  obtain ⟨k, l, z, sq, en⟩ := n
  have hsm : sq.length ≤ maxLen := h.sm
  have hem : en.length ≤ maxLen := h.em
  have HH := Lib.hid h
  have HBA := Lib.hid ((Below.refl w.heap.size w).alloc (Nat.le_refl _) (.cells #[.int .i64 k, .int .i64 l, .int .i64 z, .slice A sq.length c, .slice B en.length d] 25))
  clear h
  by_cases h0 : k = 0
  · subst h0
    have a1 : (l == 0) = decide (l = 0) := rfl
    have a2 : (z == 0) = decide (z = 0) := rfl
    have a3 : ((sq.length : Int) == 0) = decide (sq.length = 0) := by rw [Bool.eq_iff_iff]; simp
    have a4 : ((en.length : Int) == 0) = decide (en.length = 0) := by rw [Bool.eq_iff_iff]; simp
    obtain ⟨R, hR⟩ : ∃ R, mayNd ⟨0, l, z, sq, en⟩ = R := ⟨_, rfl⟩
    rw [hR]
    have hR2 : (decide (l = 0) && (decide (z = 0) && (decide (sq.length = 0) && decide (en.length = 0)))) = R := hR
    clear hR
    generalize decide (l = 0) = x1 at a1 hR2
    generalize decide (z = 0) = x2 at a2 hR2
    generalize decide (sq.length = 0) = x3 at a3 hR2
    generalize decide (en.length = 0) = x4 at a4 hR2
    subst hR2
    cases x1 <;> cases x2 <;> cases x3 <;> cases x4
    all_goals
      go_enter Try.func13, Try.ntmps13
      go_wp2_with fail
      go_ret
      exact ⟨rfl, HBA.out⟩
  by_cases h2 : k = 2
  · subst h2
    have a1 : (l == 1) = decide (l = 1) := rfl
    have a2 : (z == 0) = decide (z = 0) := rfl
    have a3 : ((sq.length : Int) == 0) = decide (sq.length = 0) := by rw [Bool.eq_iff_iff]; simp
    obtain ⟨R, hR⟩ : ∃ R, mayNd ⟨2, l, z, sq, en⟩ = R := ⟨_, rfl⟩
    rw [hR]
    have hR2 : (decide (l = 1) && (decide (z = 0) && (decide (sq.length = 0) && mayEs en))) = R := hR
    clear hR
    obtain ⟨x4, hx4⟩ : ∃ x, mayEs en = x := ⟨_, rfl⟩
    rw [hx4] at hR2
    have HC := Lib.hid (fun w1 (hw : ELies w1 B en) => (mayr_any B d en w1 hw))
    rw [hx4] at HC
    clear hx4
    generalize decide (l = 1) = x1 at a1 hR2
    generalize decide (z = 0) = x2 at a2 hR2
    generalize decide (sq.length = 0) = x3 at a3 hR2
    subst hR2
    cases x1 <;> cases x2 <;> cases x3
    all_goals
      go_enter Try.func13, Try.ntmps13
      go_wp2_with (go_at_call 28; refine (HC.out _ (HH.out.below HBA.out).en).mono ?_; rintro e w' ⟨rfl, hb⟩)
      go_ret
      first
        | exact ⟨rfl, HBA.out⟩
        | exact ⟨by simp, HBA.out.trans (hb.mono HBA.out.size)⟩
  have e0 : (k == 0) = false := by simpa using h0
  have e2 : (k == 2) = false := by simpa using h2
  by_cases h1 : k = 1
  case neg =>
    have e1 : (k == 1) = false := by simpa using h1
    have HM : Hid (mayNd ⟨k, l, z, sq, en⟩ = false) := Lib.hid (by unfold mayNd; rw [if_neg h0, if_neg h2, if_neg h1])
    clear h0 h2 h1
    go_enter Try.func13, Try.ntmps13
    go_wp2_with fail
    go_ret
    exact ⟨by rw [HM.out]; rfl, HBA.out⟩
  subst h1
  clear e0 e2 h0 h2
  obtain ⟨R, hR⟩ : ∃ R, mayNd ⟨1, l, z, sq, en⟩ = R := ⟨_, rfl⟩
  rw [hR]
  have hR2 : (decide (0 ≤ l) && (decide (l ≤ 120) && (decide (0 ≤ z) && (decide (z ≤ 80) && (decide (sq.length = 5) && (decide (en.length = 0) && maySqs z 0 sq)))))) = R := hR
  clear hR
  by_cases hf : 0 ≤ l ∧ l ≤ 120 ∧ 0 ≤ z ∧ z ≤ 80 ∧ sq.length = 5 ∧ en.length = 0
  case neg =>
    have HR : Hid (R = false) := Lib.hid (by
      rw [← hR2]
      cases e : (decide (0 ≤ l) && (decide (l ≤ 120) && (decide (0 ≤ z) && (decide (z ≤ 80) && (decide (sq.length = 5) && (decide (en.length = 0) && maySqs z 0 sq)))))) with
      | false => rfl
      | true =>
        simp only [Bool.and_eq_true, decide_eq_true_eq] at e
        exact absurd ⟨e.1, e.2.1, e.2.2.1, e.2.2.2.1, e.2.2.2.2.1, e.2.2.2.2.2.1⟩ hf)
    clear hR2
    have a1 : decide (l < 0) = !decide (0 ≤ l) := by rw [Bool.eq_iff_iff]; simp
    have a2 : decide (120 < l) = !decide (l ≤ 120) := by rw [Bool.eq_iff_iff]; simp
    have a3 : decide (z < 0) = !decide (0 ≤ z) := by rw [Bool.eq_iff_iff]; simp
    have a4 : decide (80 < z) = !decide (z ≤ 80) := by rw [Bool.eq_iff_iff]; simp
    have a5 : ((sq.length : Int) != 5) = !decide (sq.length = 5) := by rw [Bool.eq_iff_iff]; simp; omega
    have a6 : ((en.length : Int) != 0) = !decide (en.length = 0) := by rw [Bool.eq_iff_iff]; simp
    by_cases x1 : 0 ≤ l
    · rw [decide_eq_true x1] at a1
      by_cases x2 : l ≤ 120
      · rw [decide_eq_true x2] at a2
        by_cases x3 : 0 ≤ z
        · rw [decide_eq_true x3] at a3
          by_cases x4 : z ≤ 80
          · rw [decide_eq_true x4] at a4
            by_cases x5 : sq.length = 5
            · rw [decide_eq_true x5] at a5
              rw [decide_eq_false (fun x6 => hf ⟨x1, x2, x3, x4, x5, x6⟩)] at a6
              clear hf x1 x2 x3 x4 x5
              go_enter Try.func13, Try.ntmps13
              go_wp2_with fail
              go_ret
              exact ⟨by rw [HR.out]; rfl, HBA.out⟩
            · rw [decide_eq_false x5] at a5
              clear hf x1 x2 x3 x4 x5
              go_enter Try.func13, Try.ntmps13
              go_wp2_with fail
              go_ret
              exact ⟨by rw [HR.out]; rfl, HBA.out⟩
          · rw [decide_eq_false x4] at a4
            clear hf x1 x2 x3 x4
            go_enter Try.func13, Try.ntmps13
            go_wp2_with fail
            go_ret
            exact ⟨by rw [HR.out]; rfl, HBA.out⟩
        · rw [decide_eq_false x3] at a3
          clear hf x1 x2 x3
          go_enter Try.func13, Try.ntmps13
          go_wp2_with fail
          go_ret
          exact ⟨by rw [HR.out]; rfl, HBA.out⟩
      · rw [decide_eq_false x2] at a2
        clear hf x1 x2
        go_enter Try.func13, Try.ntmps13
        go_wp2_with fail
        go_ret
        exact ⟨by rw [HR.out]; rfl, HBA.out⟩
    · rw [decide_eq_false x1] at a1
      clear hf x1
      go_enter Try.func13, Try.ntmps13
      go_wp2_with fail
      go_ret
      exact ⟨by rw [HR.out]; rfl, HBA.out⟩
  obtain ⟨f1, f2, f3, f4, f5, f6⟩ := hf
  have HR : Hid (maySqs z 0 sq = R) := Lib.hid (by
    rw [decide_eq_true f1, decide_eq_true f2, decide_eq_true f3, decide_eq_true f4, decide_eq_true f5, decide_eq_true f6] at hR2
    simpa using hR2)
  have a1 : decide (l < 0) = false := decide_eq_false (by omega)
  have a2 : decide (120 < l) = false := decide_eq_false (by omega)
  have a3 : decide (z < 0) = false := decide_eq_false (by omega)
  have a4 : decide (80 < z) = false := decide_eq_false (by omega)
  have a5 : ((sq.length : Int) != 5) = false := by rw [f5]; rfl
  have a6 : ((en.length : Int) != 0) = false := by rw [f6]; rfl
  have F5 := Lib.hid f5
  clear hR2 f1 f2 f5 f6
  have HX := Lib.hid (box_node w (.int .i64 1) (.int .i64 l) (.int .i64 z) (.slice A sq.length c) (.slice B en.length d) 25)
  go_enter Try.func13, Try.ntmps13
  go_wp2_with fail
  generalize w.alloc _ = W at HX HBA ⊢
  have hz : W.cell? ⟨w.heap.size, 2, none⟩ = some (.int .i64 z) := by have := HX.out; simp [World.cell?, this]
  go_loopw [3, 4, 85] (fun _ _ v85 wr => ∃ jx : Nat, jx ≤ sq.length ∧ v85 = .int .i64 jx ∧ Hid (∀ i (h : i < sq.length), i < jx → maySq z i sq[i] = true) ∧ wr = W) (fun _ _ v85 _ => sq.length - (RowKit.intOf v85).toNat)
  case atStart => exact ⟨0, Nat.zero_le _, rfl, Lib.hid fun i _ h => absurd h (Nat.not_lt_zero i), rfl⟩
  case round =>
    obtain ⟨jx, hj, rfl, HI, rfl⟩ := hrel
    by_cases hj1 : jx < sq.length
    · obtain ⟨B1, o, rfl, hBs, hc⟩ := (HH.out.below HBA.out).sq (show 0 < sq.length by omega)
      have d2 : decide ((jx : Int) < (sq.length : Int)) = true := decide_eq_true (by omega)
      have k0 := hc jx hj1
      dsimp only at k0
      obtain ⟨s, hs⟩ : ∃ s, sq[jx] = s := ⟨_, rfl⟩
      rw [hs] at k0
      have HS := Lib.hid hs
      clear hc hs
      have hj5 : jx < 5 := by have := F5.out; omega
      by_cases g1 : s < 0
      · have b1 : decide (s < 0) = true := decide_eq_true g1
        have HF : Hid (R = false) := Lib.hid (by rw [← HR.out]; exact maySqs_one hj1 (by rw [HS.out]; cases e : maySq z jx s with | false => rfl | true => exact absurd (maySq_at e).1 (by omega)))
        clear g1
        go_wp2_with fail
        go_ret
        exact ⟨by rw [HF.out]; rfl, HBA.out⟩
      · have b1 : decide (s < 0) = false := decide_eq_false g1
        by_cases g2 : 1099511627776 < s
        · have b2 : decide (1099511627776 < s) = true := decide_eq_true g2
          have HF : Hid (R = false) := Lib.hid (by rw [← HR.out]; exact maySqs_one hj1 (by rw [HS.out]; cases e : maySq z jx s with | false => rfl | true => exact absurd (maySq_at e).2.1 (by omega)))
          clear g1 g2
          go_wp2_with fail
          go_ret
          exact ⟨by rw [HF.out]; rfl, HBA.out⟩
        · have b2 : decide (1099511627776 < s) = false := decide_eq_false g2
          have hw : IntKind.i64.wrap ((jx : Int) * 16) = (jx : Int) * 16 := i64w_idE _ (by omega)
          by_cases g3 : s = 0
          · subst g3
            clear b1 b2 g1 g2
            go_wp2_with fail
            go_roundw
            case rel =>
              refine ⟨jx + 1, by omega, by go_num, Lib.hid fun i h hi => ?_, by trivial⟩
              by_cases e : i = jx
              · subst e; rw [HS.out]; exact maySq_mk (by omega) (by omega) (fun e => absurd rfl e)
              · exact HI.out i h (by omega)
            case measure => simp [RowKit.intOf]; omega
          · have b3 : (s != 0) = true := by simpa using g3
            by_cases g4 : (jx : Int) * 16 < z
            · have b4 : decide (z ≤ (jx : Int) * 16) = false := decide_eq_false (by omega)
              have G := Lib.hid (And.intro g1 (And.intro g2 g4))
              clear g1 g2 g3 g4
              go_wp2_with fail
              go_roundw
              case rel =>
                refine ⟨jx + 1, by omega, by go_num, Lib.hid fun i h hi => ?_, by trivial⟩
                by_cases e : i = jx
                · subst e; rw [HS.out]; have g := G.out; exact maySq_mk (by omega) (by omega) (fun _ => g.2.2)
                · exact HI.out i h (by omega)
              case measure => simp [RowKit.intOf]; omega
            · have b4 : decide (z ≤ (jx : Int) * 16) = true := decide_eq_true (by omega)
              have HF : Hid (R = false) := Lib.hid (by rw [← HR.out]; exact maySqs_one hj1 (by rw [HS.out]; cases e : maySq z jx s with | false => rfl | true => exact absurd ((maySq_at e).2.2 g3) (by omega)))
              clear g1 g2 g3 g4
              go_wp2_with fail
              go_ret
              exact ⟨by rw [HF.out]; rfl, HBA.out⟩
    · have d2 : decide ((jx : Int) < (sq.length : Int)) = false := decide_eq_false (by omega)
      have HF : Hid (R = true) := Lib.hid (by rw [← HR.out]; exact maySqs_all fun i h => HI.out i h (by omega))
      go_wp2_with fail
      go_ret
      exact ⟨by rw [HF.out]; rfl, HBA.out⟩
end Go.Proofs.Ytohiabkjbieflaa
