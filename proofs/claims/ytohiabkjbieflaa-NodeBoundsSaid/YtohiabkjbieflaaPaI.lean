/- The reference's Name: just the names that may be. -/
import Derived.Test.YtohiabkjbieflaaPaB
import Derived.Deep.CutRange
import Derived.Deep.CutBlock
namespace Go.Proofs.Ytohiabkjbieflaa
open Go.RowKit Go.Lib

theorem letB_test (x : Nat) (b : UInt8) (hb : b.toNat = x) : ((decide ((x : Int) < 97) || decide ((122 : Int) < x)) && (decide ((x : Int) < 48) || decide ((57 : Int) < x)) && !((x : Int) == 46) && !((x : Int) == 95) && !((x : Int) == 45)) = !letB b := by
  unfold letB
  rw [hb, Bool.eq_iff_iff]
  simp
  omega

set_option maxRecDepth 100000 in
theorem name_any (s : ByteArray) (w : World) : Calls Try.prog 36 #[.string s] w fun e w' => e = .returned (.bool (mayL s.data.toList)) ∧ w' = w := by
  by_cases h1 : (s.size : Int) < 1
  · rw [mayL_short h1]
    have d1 : decide ((s.size : Int) < 1) = true := decide_eq_true h1
    go_enter Try.func36, Try.ntmps36
    go_wp2_with fail
    go_ret
    exact ⟨rfl, rfl⟩
  have d1 : decide ((s.size : Int) < 1) = false := decide_eq_false h1
  by_cases h2 : (8 : Int) < s.size
  · rw [mayL_long h2]
    have d2 : decide ((8 : Int) < s.size) = true := decide_eq_true h2
    go_enter Try.func36, Try.ntmps36
    go_wp2_with fail
    go_ret
    exact ⟨rfl, rfl⟩
  have d2 : decide ((8 : Int) < s.size) = false := decide_eq_false h2
  by_cases h3 : s.data.toList = [46]
  · have e : mayL s.data.toList = false := by rw [h3]; rfl
    rw [e]
    have d3 : (s.toList == [46]) = true := by rw [dot_eq]; exact decide_eq_true h3
    clear h3 e
    go_enter Try.func36, Try.ntmps36
    go_wp2_with fail
    go_ret
    exact ⟨rfl, rfl⟩
  have d3 : (s.toList == [46]) = false := by rw [dot_eq]; exact decide_eq_false h3
  by_cases h4 : s.data.toList = [46, 46]
  · have e : mayL s.data.toList = false := by rw [h4]; rfl
    rw [e]
    have d4 : (s.toList == [46, 46]) = true := by rw [dot_eq]; exact decide_eq_true h4
    clear h3 h4 e
    go_enter Try.func36, Try.ntmps36
    go_wp2_with fail
    go_ret
    exact ⟨rfl, rfl⟩
  have d4 : (s.toList == [46, 46]) = false := by rw [dot_eq]; exact decide_eq_false h4
  rw [mayL_all h1 h2 h3 h4]
  have hs8 : s.size ≤ 8 := by omega
  obtain ⟨R, hR⟩ : ∃ R, s.data.toList.all letB = R := ⟨_, rfl⟩
  rw [hR]
  replace hR := Lib.hid hR
  clear h3 h4
  go_enter Try.func36, Try.ntmps36
  go_wp2_with fail
  go_loopw [3, 4, 23] (fun _ _ v23 wx => ∃ k : Nat, v23 = .int .i64 k ∧ k ≤ s.size ∧ wx = w ∧ Hid (∀ i (hi : i < s.size), i < k → letB (s[i]'hi) = true)) (fun _ _ v23 _ => s.size - (RowKit.intOf v23).toNat)
  case atStart => exact ⟨0, rfl, Nat.zero_le _, rfl, Lib.hid fun i _ h => absurd h (Nat.not_lt_zero i)⟩
  case round =>
    obtain ⟨k, rfl, hk, rfl, HL⟩ := hrel
    by_cases hkl : k < s.size
    · have d5 : decide ((k : Int) < (s.size : Int)) = true := decide_eq_true (by omega)
      have hix : ∀ w : World, (Instr.index 9 (.string s) (.int .i64 (k : Nat))).run Try.prog w = .ok (.int .u8 (s[k]'hkl).toNat) w := fun w => by
        rw [run_index_string w 9 s .i64 (k : Nat) Try.underlying9, dif_pos ⟨by omega, by omega⟩]
        rfl
      have hlt := (s[k]'hkl).toNat_lt
      obtain ⟨x, hx⟩ : ∃ x, (s[k]'hkl).toNat = x := ⟨_, rfl⟩
      have ht := letB_test x _ hx
      rw [hx] at hix hlt
      clear hx
      obtain ⟨B, hB⟩ : ∃ B, letB (s[k]'hkl) = B := ⟨_, rfl⟩
      rw [hB] at ht
      replace hB := Lib.hid hB
      go_upto_region 7 with fail
      go_cut [54] from 29 to 53 (fun v54 wx => v54 = .bool (!B) ∧ wx = wr)
      case first => as_aux_lemma =>
        have hcs : x < 45 ∨ x = 45 ∨ x = 46 ∨ x = 47 ∨ (48 ≤ x ∧ x ≤ 57) ∨ (58 ≤ x ∧ x ≤ 94) ∨ x = 95 ∨ x = 96 ∨ (97 ≤ x ∧ x ≤ 122) ∨ 123 ≤ x := by omega
        rcases hcs with h | h | h | h | h | h | h | h | h | h
        all_goals
          (first | have b1 : decide ((x : Int) < 97) = true := decide_eq_true (by omega) | have b1 : decide ((x : Int) < 97) = false := decide_eq_false (by omega))
          (first | have b2 : decide ((122 : Int) < (x : Int)) = true := decide_eq_true (by omega) | have b2 : decide ((122 : Int) < (x : Int)) = false := decide_eq_false (by omega))
          (first | have b3 : decide ((x : Int) < 48) = true := decide_eq_true (by omega) | have b3 : decide ((x : Int) < 48) = false := decide_eq_false (by omega))
          (first | have b4 : decide ((57 : Int) < (x : Int)) = true := decide_eq_true (by omega) | have b4 : decide ((57 : Int) < (x : Int)) = false := decide_eq_false (by omega))
          (first | have b5 : ((x : Int) == 46) = true := by rw [beq_iff_eq]; omega | have b5 : ((x : Int) == 46) = false := by rw [beq_eq_false_iff_ne]; omega)
          (first | have n5 : ((x : Int) != 46) = false := by rw [bne, b5]; rfl | have n5 : ((x : Int) != 46) = true := by rw [bne, b5]; rfl)
          (first | have b6 : ((x : Int) == 95) = true := by rw [beq_iff_eq]; omega | have b6 : ((x : Int) == 95) = false := by rw [beq_eq_false_iff_ne]; omega)
          (first | have n6 : ((x : Int) != 95) = false := by rw [bne, b6]; rfl | have n6 : ((x : Int) != 95) = true := by rw [bne, b6]; rfl)
          (first | have b7 : ((x : Int) == 45) = true := by rw [beq_iff_eq]; omega | have b7 : ((x : Int) == 45) = false := by rw [beq_eq_false_iff_ne]; omega)
          (first | have n7 : ((x : Int) != 45) = false := by rw [bne, b7]; rfl | have n7 : ((x : Int) != 45) = true := by rw [bne, b7]; rfl)
          have ht2 := ht
          rw [b1, b2, b3, b4, b5, b6, b7] at ht2
          replace ht2 := Lib.hid ht2
          clear h ht hlt
          go_wp2_with fail
          go_meet
          case rel => exact ⟨by rw [← ht2.out]; rfl, rfl⟩
      case rest =>
        obtain ⟨rfl, rfl⟩ := hcut
        clear ht
        cases B with
        | true =>
          go_wp2_with fail
          go_roundw
          case rel =>
            refine ⟨k + 1, rfl, by omega, by first | rfl | trivial, Lib.hid fun i hi hlt => ?_⟩
            by_cases e : i = k
            · subst e; exact hB.out
            · exact HL.out i hi (by omega)
          case measure =>
            simp [RowKit.intOf]
            omega
        | false =>
          have hF : R = false := by rw [← hR.out]; exact all_until hkl hB.out
          subst hF
          go_wp2_with fail
          go_ret
          exact ⟨rfl, rfl⟩
    · have d5 : decide ((k : Int) < (s.size : Int)) = false := decide_eq_false (by omega)
      have hT : R = true := by rw [← hR.out]; exact all_done fun i hi => HL.out i hi (by omega)
      subst hT
      go_wp2_with fail
      go_ret
      exact ⟨rfl, rfl⟩
end Go.Proofs.Ytohiabkjbieflaa
