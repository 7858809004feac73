/- PathBounds: names and paths at their bounds may be, beyond them they may not. -/
import Derived.Test.YtinkkmlbhkfmnaaDoorPaF
import Derived.Laws.BytesArg
import Derived.Deep.CutRange
import Derived.Great.BuildSlice
import Derived.Deep.CutBlock
namespace Go.Proofs.YtinkkmlbhkfmnaaDoor
open Go.RowKit Go.Lib

def aRep (k : Nat) : ByteArray := ⟨(List.replicate k 97).toArray⟩
def pRow : Nat → List UInt8
  | 0 => []
  | k + 1 => pRow k ++ [47, 97, 98, 99, 100, 101, 102, 103]
def pRep (k : Nat) : ByteArray := ⟨(pRow k).toArray⟩
theorem aRep_succ (k : Nat) : aRep k ++ ⟨#[97]⟩ = aRep (k + 1) := byte_ext (by rw [app_data]; simp [aRep, List.replicate_succ'])
theorem pRep_succ (k : Nat) : pRep k ++ ⟨#[47, 97, 98, 99, 100, 101, 102, 103]⟩ = pRep (k + 1) := byte_ext (by rw [app_data]; simp [pRep, pRow])
theorem aRep_size (k : Nat) : (aRep k).size = k := by simp [aRep, ByteArray.size]
theorem pRow_len : ∀ k, (pRow k).length = 8 * k
  | 0 => rfl
  | k + 1 => by rw [pRow, List.length_append, pRow_len k]; simp; omega
theorem pRep_size (k : Nat) : (pRep k).size = 8 * k := by
  rw [Lib.size_eq]
  simp [pRep, pRow_len]
theorem a_may : ∀ m : Fin 12, mayL (aRep m.val).data.toList = decide (1 ≤ m.val ∧ m.val ≤ 8) := by decide
theorem p_split : ∀ m : Fin 12, (splitL (pRep m.val).data.toList).isSome = decide (1 ≤ m.val ∧ m.val ≤ 7) := by decide
theorem x_may (c : UInt8) : mayL [120, c] = letB c := by
  unfold mayL
  rw [decide_eq_true ⟨by simp, by simp, by simp, by simp⟩]
  simp [List.all_cons, show letB 120 = true from by decide]
theorem xs_may (c : Int) (h0 : 0 ≤ c) (h1 : c ≤ 255) : mayL ((⟨#[120]⟩ : ByteArray) ++ strOfNums [c]).data.toList = letrI c := by
  rw [app_data, strOfNums_data]
  show mayL [120, UInt8.ofNat c.toNat] = _
  rw [x_may, ← let_of]
  congr 1
  simp
  omega

theorem split_p (m : Nat) (hm : m < 12) (w : World) : Calls Tryd.prog 7 #[.string (pRep m)] w fun e w' => ∃ (A : Option Addr) (n : Nat), e = .returned (.tuple #[.slice A n n, .int .i64 (if 1 ≤ m ∧ m ≤ 7 then 0 else 7)]) ∧ Below w.heap.size w w' := by
  have hp := p_split ⟨m, hm⟩
  refine (split_two _ w).mono ?_
  rintro e w' ⟨A, L, r, rfl, hb, _, _, ⟨rfl, _, _, h⟩ | ⟨rfl, h⟩⟩
  · rw [h] at hp
    have : ¬ (1 ≤ m ∧ m ≤ 7) := by simpa using hp.symm
    rw [if_neg this]
    exact ⟨_, _, rfl, hb⟩
  · rw [h] at hp
    have : 1 ≤ m ∧ m ≤ 7 := by simpa using hp.symm
    rw [if_pos this]
    exact ⟨_, _, rfl, hb⟩

set_option maxRecDepth 100000 in
theorem bounds_law (n c : Int) (h0 : 0 ≤ c) (h1 : c ≤ 255) (w : World) : Calls Tryd.prog 4 #[.int .i64 n, .int .u8 c] w fun e w' => e = .returned (.bool true) ∧ Below w.heap.size w w' := by
  obtain ⟨m, hm, hmn⟩ : ∃ m : Nat, m < 12 ∧ wrap64 ((IntKind.u64.wrap n).tmod 12) = m := by
    have hu : 0 ≤ IntKind.u64.wrap n := by
      have e : IntKind.u64.wrap n = n % 18446744073709551616 := by unfold IntKind.wrap; rfl
      omega
    have a1 := Int.tmod_nonneg (12 : Int) hu
    have a2 := Int.tmod_lt_of_pos (IntKind.u64.wrap n) (show (0 : Int) < 12 by decide)
    refine ⟨((IntKind.u64.wrap n).tmod 12).toNat, by omega, ?_⟩
    unfold wrap64
    omega
  go_enter Tryd.func4, Tryd.ntmps4
  go_upto_region 2 with fail
  rw [hmn]
  clear hmn
  go_wp2_with fail
  go_loopw [5, 15] (fun v5 v15 wx => ∃ k : Nat, v15 = .int .i64 k ∧ v5 = .string (aRep k) ∧ k ≤ m ∧ wx = w) (fun _ v15 _ => m - (RowKit.intOf v15).toNat)
  case atStart => exact ⟨0, rfl, rfl, Nat.zero_le _, rfl⟩
  case round =>
    obtain ⟨k, rfl, rfl, hk, rfl⟩ := hrel
    by_cases hkl : k < m
    · have d5 : decide ((k : Int) < (m : Int)) = true := decide_eq_true (by omega)
      have hs := aRep_size k
      go_wp2_with fail
      go_roundw
      case rel => exact ⟨k + 1, rfl, by rw [aRep_succ], by omega, by first | rfl | trivial⟩
      case measure =>
        simp [RowKit.intOf]
        omega
    · have d5 : decide ((k : Int) < (m : Int)) = false := decide_eq_false (by omega)
      have hkm : k = m := by omega
      subst hkm
      clear hkl hk
      go_upto_region 7 with fail
      go_cut [6] from 20 to 45 (fun v6 wx => v6 = .bool (letrI c) ∧ wx = wr)
      case first => as_aux_lemma =>
        have e5 : (decide (97 ≤ c) && decide (c ≤ 122) || decide (48 ≤ c) && decide (c ≤ 57) || c == 46 || c == 95 || c == 45) = letrI c := by
          unfold letrI
          rw [Bool.eq_iff_iff]
          simp
          omega
        by_cases a1 : 97 ≤ c <;> by_cases a2 : c ≤ 122 <;> by_cases a3 : 48 ≤ c <;> by_cases a4 : c ≤ 57 <;> first | (exfalso; omega) | skip
        all_goals
          (first | have b1 : decide (97 ≤ c) = true := decide_eq_true a1 | have b1 : decide (97 ≤ c) = false := decide_eq_false a1)
          (first | have b2 : decide (c ≤ 122) = true := decide_eq_true a2 | have b2 : decide (c ≤ 122) = false := decide_eq_false a2)
          (first | have b3 : decide (48 ≤ c) = true := decide_eq_true a3 | have b3 : decide (48 ≤ c) = false := decide_eq_false a3)
          (first | have b4 : decide (c ≤ 57) = true := decide_eq_true a4 | have b4 : decide (c ≤ 57) = false := decide_eq_false a4)
          rw [b1, b2, b3, b4] at e5
          by_cases a5 : c = 46 <;> by_cases a6 : c = 95 <;> first | (exfalso; omega) | skip
        all_goals
          replace e5 := Lib.hid e5
          (first | have b5 : (c == 46) = true := by simp [a5] | have b5 : (c == 46) = false := by simp [a5])
          (first | have b6 : (c == 95) = true := by simp [a6] | have b6 : (c == 95) = false := by simp [a6])
          clear a1 a2 a3 a4 a5 a6
          go_wp2_with fail
          go_meet
          case rel =>
            refine ⟨?_, rfl⟩
            rw [← e5.out, b5, b6]
            rfl
      case rest =>
        obtain ⟨rfl, rfl⟩ := hcut
        go_wp2_with fail
        clear d5
        go_loopw [7, 47] (fun v7 v47 wx => ∃ j : Nat, v47 = .int .i64 j ∧ v7 = .string (pRep j) ∧ j ≤ k ∧ wx = wc) (fun _ v47 _ => k - (RowKit.intOf v47).toNat)
        case atStart => exact ⟨0, rfl, rfl, Nat.zero_le _, rfl⟩
        case round =>
          obtain ⟨j, rfl, rfl, hj, rfl⟩ := hrel
          by_cases hjl : j < k
          · have d5 : decide ((j : Int) < (k : Int)) = true := decide_eq_true (by omega)
            have hs := pRep_size j
            go_wp2_with fail
            go_roundw
            case rel => exact ⟨j + 1, rfl, by rw [pRep_succ], by omega, by first | rfl | trivial⟩
            case measure =>
              simp [RowKit.intOf]
              omega
          · have d5 : decide ((j : Int) < (k : Int)) = false := decide_eq_false (by omega)
            have hjk : j = k := by omega
            subst hjk
            clear hjl hj
            have hsp := split_p j hm
            have hmy := a_may ⟨j, hm⟩
            have hps := pRep_size j
            have hxm := xs_may c h0 h1
            have hN : ∃ r : Int, (if 1 ≤ j ∧ j ≤ 7 then (0 : Int) else 7) = r ∧ (r == 0) = decide (1 ≤ j ∧ j ≤ 7) := ⟨_, rfl, by split <;> simp [*]⟩
            obtain ⟨r, hr, hr0⟩ := hN
            rw [hr] at hsp
            simp only at hmy
            go_upto_region 14 with (first
              | (go_at_call 7; (with_reducible refine (hsp _).mono ?_); rintro e w1 ⟨A, nn, rfl, hb1⟩; replace hb1 := Lib.hid hb1)
              | fail)
            have hm2 : ∀ w, Calls Tryd.prog 8 #[.string ((⟨#[120]⟩ : ByteArray) ++ strOfNums [c])] w fun e w' => e = .returned (.bool (letrI c)) ∧ Below w.heap.size w w' := fun w => by
              have h := may_any ((⟨#[120]⟩ : ByteArray) ++ strOfNums [c]) w
              rw [hxm] at h
              exact h
            have hm3 : ∀ w, Calls Tryd.prog 8 #[.string ⟨#[46]⟩] w fun e w' => e = .returned (.bool false) ∧ Below w.heap.size w w' := fun w => may_any ⟨#[46]⟩ w
            have hm4 : ∀ w, Calls Tryd.prog 8 #[.string ⟨#[46, 46, 46]⟩] w fun e w' => e = .returned (.bool true) ∧ Below w.heap.size w w' := fun w => by
              have h := may_any ⟨#[46, 46, 46]⟩ w
              rw [show mayL (⟨#[46, 46, 46]⟩ : ByteArray).data.toList = true by decide] at h
              exact h
            have hcv : ∀ V : World, (convert 30 9 (.slice (some ⟨V.heap.size, 0, none⟩) 1 1)).run Tryd.prog (V.alloc (.cells #[.int .u8 c] 5)) = .ok (.string (strOfNums [c])) (V.alloc (.cells #[.int .u8 c] 5)) := fun V =>
              run_convert_bytes_arg (V.alloc (.cells #[.int .u8 c] 5)) 30 5 Tryd.underlying30 Tryd.underlying5 V.heap.size 0 1 1 [c] rfl (fun i hi => by
                have e : i = 0 := by omega
                subst e
                simp) 9 Tryd.underlying9
            have hz : (strOfNums [c]).size = 1 := strOfNums_size [c]
            have hc : j = 0 ∨ (1 ≤ j ∧ j ≤ 7) ∨ j = 8 ∨ 9 ≤ j := by omega
            rcases hc with hc | hc | hc | hc
            · have hm1 : ∀ w, Calls Tryd.prog 8 #[.string (aRep j)] w fun e w' => e = .returned (.bool false) ∧ Below w.heap.size w w' := fun w => by
                have h := may_any (aRep j) w
                rw [hmy, decide_eq_false (by omega)] at h
                exact h
              have d1 : decide ((1 : Int) ≤ (j : Int)) = false := decide_eq_false (by omega)
              have d2 : decide ((j : Int) ≤ 8) = true := decide_eq_true (by omega)
              have d3 : decide (((pRep j).size : Int) ≤ 60) = true := decide_eq_true (by omega)
              have hr7 : r = 7 := by rw [← hr]; exact if_neg (by omega)
              subst hr7
              clear hr hr0 hmy hps hxm hsp hc
              go_wp2_with (first
                | (go_at_call 8; (with_reducible refine (hm1 _).mono ?_); rintro e w2 ⟨rfl, hb2⟩; replace hb2 := Lib.hid hb2)
                | (go_at_call 8; (with_reducible refine (hm2 _).mono ?_); rintro e w3 ⟨rfl, hb3⟩; replace hb3 := Lib.hid hb3)
                | (go_at_call 8; (with_reducible refine (hm3 _).mono ?_); rintro e w4 ⟨rfl, hb4⟩; replace hb4 := Lib.hid hb4)
                | (go_at_call 8; (with_reducible refine (hm4 _).mono ?_); rintro e w5 ⟨rfl, hb5⟩; replace hb5 := Lib.hid hb5)
                | (go_at_call 6; (with_reducible refine (awake_any _).mono ?_); rintro e w6 ⟨rfl, hb6⟩; replace hb6 := Lib.hid hb6)
                | fail)
              go_ret
              have s1 := hb1.out.trans (hb2.out.mono hb1.out.size)
              have s2 : Below wr.heap.size wr (w2.alloc (.cells #[.int .u8 c] 5)) := s1.alloc s1.size _
              have s3 := s2.trans (hb3.out.mono s2.size)
              have s4 := s3.trans (hb4.out.mono s3.size)
              have s5 := s4.trans (hb5.out.mono s4.size)
              exact ⟨rfl, s5.trans (hb6.out.mono s5.size)⟩
            · have hm1 : ∀ w, Calls Tryd.prog 8 #[.string (aRep j)] w fun e w' => e = .returned (.bool true) ∧ Below w.heap.size w w' := fun w => by
                have h := may_any (aRep j) w
                rw [hmy, decide_eq_true (by omega)] at h
                exact h
              have d1 : decide ((1 : Int) ≤ (j : Int)) = true := decide_eq_true (by omega)
              have d2 : decide ((j : Int) ≤ 8) = true := decide_eq_true (by omega)
              have d3 : decide (((pRep j).size : Int) ≤ 60) = true := decide_eq_true (by omega)
              have hr7 : r = 0 := by rw [← hr]; exact if_pos (by omega)
              subst hr7
              clear hr hr0 hmy hps hxm hsp hc
              go_wp2_with (first
                | (go_at_call 8; (with_reducible refine (hm1 _).mono ?_); rintro e w2 ⟨rfl, hb2⟩; replace hb2 := Lib.hid hb2)
                | (go_at_call 8; (with_reducible refine (hm2 _).mono ?_); rintro e w3 ⟨rfl, hb3⟩; replace hb3 := Lib.hid hb3)
                | (go_at_call 8; (with_reducible refine (hm3 _).mono ?_); rintro e w4 ⟨rfl, hb4⟩; replace hb4 := Lib.hid hb4)
                | (go_at_call 8; (with_reducible refine (hm4 _).mono ?_); rintro e w5 ⟨rfl, hb5⟩; replace hb5 := Lib.hid hb5)
                | (go_at_call 6; (with_reducible refine (awake_any _).mono ?_); rintro e w6 ⟨rfl, hb6⟩; replace hb6 := Lib.hid hb6)
                | fail)
              go_ret
              have s1 := hb1.out.trans (hb2.out.mono hb1.out.size)
              have s2 : Below wr.heap.size wr (w2.alloc (.cells #[.int .u8 c] 5)) := s1.alloc s1.size _
              have s3 := s2.trans (hb3.out.mono s2.size)
              have s4 := s3.trans (hb4.out.mono s3.size)
              have s5 := s4.trans (hb5.out.mono s4.size)
              exact ⟨rfl, s5.trans (hb6.out.mono s5.size)⟩
            · have hm1 : ∀ w, Calls Tryd.prog 8 #[.string (aRep j)] w fun e w' => e = .returned (.bool true) ∧ Below w.heap.size w w' := fun w => by
                have h := may_any (aRep j) w
                rw [hmy, decide_eq_true (by omega)] at h
                exact h
              have d1 : decide ((1 : Int) ≤ (j : Int)) = true := decide_eq_true (by omega)
              have d2 : decide ((j : Int) ≤ 8) = true := decide_eq_true (by omega)
              have d3 : decide (((pRep j).size : Int) ≤ 60) = false := decide_eq_false (by omega)
              have hr7 : r = 7 := by rw [← hr]; exact if_neg (by omega)
              subst hr7
              clear hr hr0 hmy hps hxm hsp hc
              go_wp2_with (first
                | (go_at_call 8; (with_reducible refine (hm1 _).mono ?_); rintro e w2 ⟨rfl, hb2⟩; replace hb2 := Lib.hid hb2)
                | (go_at_call 8; (with_reducible refine (hm2 _).mono ?_); rintro e w3 ⟨rfl, hb3⟩; replace hb3 := Lib.hid hb3)
                | (go_at_call 8; (with_reducible refine (hm3 _).mono ?_); rintro e w4 ⟨rfl, hb4⟩; replace hb4 := Lib.hid hb4)
                | (go_at_call 8; (with_reducible refine (hm4 _).mono ?_); rintro e w5 ⟨rfl, hb5⟩; replace hb5 := Lib.hid hb5)
                | (go_at_call 6; (with_reducible refine (awake_any _).mono ?_); rintro e w6 ⟨rfl, hb6⟩; replace hb6 := Lib.hid hb6)
                | fail)
              go_ret
              have s1 := hb1.out.trans (hb2.out.mono hb1.out.size)
              have s2 : Below wr.heap.size wr (w2.alloc (.cells #[.int .u8 c] 5)) := s1.alloc s1.size _
              have s3 := s2.trans (hb3.out.mono s2.size)
              have s4 := s3.trans (hb4.out.mono s3.size)
              have s5 := s4.trans (hb5.out.mono s4.size)
              exact ⟨rfl, s5.trans (hb6.out.mono s5.size)⟩
            · have hm1 : ∀ w, Calls Tryd.prog 8 #[.string (aRep j)] w fun e w' => e = .returned (.bool false) ∧ Below w.heap.size w w' := fun w => by
                have h := may_any (aRep j) w
                rw [hmy, decide_eq_false (by omega)] at h
                exact h
              have d1 : decide ((1 : Int) ≤ (j : Int)) = true := decide_eq_true (by omega)
              have d2 : decide ((j : Int) ≤ 8) = false := decide_eq_false (by omega)
              have d3 : decide (((pRep j).size : Int) ≤ 60) = false := decide_eq_false (by omega)
              have hr7 : r = 7 := by rw [← hr]; exact if_neg (by omega)
              subst hr7
              clear hr hr0 hmy hps hxm hsp hc
              go_wp2_with (first
                | (go_at_call 8; (with_reducible refine (hm1 _).mono ?_); rintro e w2 ⟨rfl, hb2⟩; replace hb2 := Lib.hid hb2)
                | (go_at_call 8; (with_reducible refine (hm2 _).mono ?_); rintro e w3 ⟨rfl, hb3⟩; replace hb3 := Lib.hid hb3)
                | (go_at_call 8; (with_reducible refine (hm3 _).mono ?_); rintro e w4 ⟨rfl, hb4⟩; replace hb4 := Lib.hid hb4)
                | (go_at_call 8; (with_reducible refine (hm4 _).mono ?_); rintro e w5 ⟨rfl, hb5⟩; replace hb5 := Lib.hid hb5)
                | (go_at_call 6; (with_reducible refine (awake_any _).mono ?_); rintro e w6 ⟨rfl, hb6⟩; replace hb6 := Lib.hid hb6)
                | fail)
              go_ret
              have s1 := hb1.out.trans (hb2.out.mono hb1.out.size)
              have s2 : Below wr.heap.size wr (w2.alloc (.cells #[.int .u8 c] 5)) := s1.alloc s1.size _
              have s3 := s2.trans (hb3.out.mono s2.size)
              have s4 := s3.trans (hb4.out.mono s3.size)
              have s5 := s4.trans (hb5.out.mono s4.size)
              exact ⟨rfl, s5.trans (hb6.out.mono s5.size)⟩
end Go.Proofs.YtinkkmlbhkfmnaaDoor
