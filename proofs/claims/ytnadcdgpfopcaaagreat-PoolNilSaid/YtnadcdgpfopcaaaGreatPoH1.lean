/- plan.Fits of the landed package and of the reference (written by pofits.py). -/
import Derived.Test.YtnadcdgpfopcaaaGreatPoG6
namespace Go.Proofs.YtnadcdgpfopcaaaGreat
open Go.RowKit

theorem needP_yes {B P S D U : Int} (h : MayP B P S D U) : needP B P S D U = D + 8 := if_pos h
theorem roomP_out {B P S D U bad : Int} (h : ¬ (0 ≤ bad ∧ bad ≤ B)) : roomP B P S D U bad = 0 := if_neg fun h' => h h'.2
theorem fits_dec {B P S D U : Int} (bad : Int) (h : MayP B P S D U) : decide (needP B P S D U ≤ roomP B P S D U bad) = decide (FitsP B P S D U bad) := by
  refine decide_eq_decide.2 ⟨fun h1 => ⟨h, ?_, h1⟩, fun h1 => h1.2.2⟩
  rcases Decidable.em (0 ≤ bad ∧ bad ≤ B) with h2 | h2
  · exact h2
  · rw [roomP_out h2, needP_yes h] at h1
    have := h.2.2.2.1
    omega
set_option maxRecDepth 100000 in
set_option maxHeartbeats 2000000 in
theorem fitsp_any (B P S D U bad : Int) (w : World) (hbd : (Lit.int .i64 bad).wf = true) :
    Calls Tryz.prog 100 #[.agg #[.int .i64 B, .int .i64 P, .int .i64 S, .int .i64 D, .int .i64 U], .int .i64 bad] w fun e w' => e = .returned (.bool (decide (FitsP B P S D U bad))) ∧ Below w.heap.size w w' := by
  obtain ⟨W, hW⟩ : ∃ W, w.alloc (.cells #[.int .i64 B, .int .i64 P, .int .i64 S, .int .i64 D, .int .i64 U] 23) = W := ⟨_, rfl⟩
  have HB0 : Hid (Below w.heap.size w W) := Lib.hid (by rw [← hW]; exact (Below.refl _ _).alloc (Nat.le_refl _) _)
  have BX0 : Hid (W.heap[w.heap.size]? = some (.cells #[.int .i64 B, .int .i64 P, .int .i64 S, .int .i64 D, .int .i64 U] 23 (0, 0))) := Lib.hid (by rw [← hW]; exact heap_alloc_new _ _)
  have HLT := Lib.hid (lt_size BX0.out)
  have HBD := Lib.hid hbd
  clear hbd
  by_cases hM : MayP B P S D U
  · have HM := Lib.hid hM
    have HF := Lib.hid (fits_dec bad hM)
    clear hM
    go_enter Tryz.func100, Tryz.ntmps100
    go_upto_region 1 with fail
    clear hW
    refine region_st (fun j v w' => match j with | 0 => v = .agg #[.int .i64 B, .int .i64 P, .int .i64 S, .int .i64 D, .int .i64 U] | 1 => v = .bool true | 2 => v = .bool true | 3 => v = .agg #[.int .i64 B, .int .i64 P, .int .i64 S, .int .i64 D, .int .i64 U] | 4 => v = .int .i64 bad | 5 => v = .int .i64 (roomP B P S D U bad) | 6 => v = .agg #[.int .i64 B, .int .i64 P, .int .i64 S, .int .i64 D, .int .i64 U] | 7 => v = .int .i64 (needP B P S D U) | 8 => v = .bool (decide (needP B P S D U ≤ roomP B P S D U bad)) | 9 => v = .bool (decide (needP B P S D U ≤ roomP B P S D U bad)) | 10 => v = .bool (decide (needP B P S D U ≤ roomP B P S D U bad)) | _ => True) (fun _ w' => Below W.heap.size W w') (fun w1 w2 => Below w1.heap.size w1 w2) (by kernel_rfl) (by kernel_rfl) (by kernel_rfl) ?hR ?hG ?hops ?hend
    case hR =>
      intro j v w1 w2 hv hb
      match j, hv with
      | 0, hv => exact hv
      | 1, hv => exact hv
      | 2, hv => exact hv
      | 3, hv => exact hv
      | 4, hv => exact hv
      | 5, hv => exact hv
      | 6, hv => exact hv
      | 7, hv => exact hv
      | 8, hv => exact hv
      | 9, hv => exact hv
      | 10, hv => exact hv
      | _ + 11, _ => exact trivial
    case hG => exact (Below.refl _ _).drew
    case hops =>
      refine OpsOkS.cons ?o0 (OpsOkS.cons ?o1 (OpsOkS.cons ?o2 (OpsOkS.cons ?o3 (OpsOkS.cons ?o4 (OpsOkS.cons ?o5 (OpsOkS.cons ?o6 (OpsOkS.cons ?o7 (OpsOkS.cons ?o8 (OpsOkS.cons ?o9 (OpsOkS.cons ?o10 OpsOkS.nil))))))))))
      case o0 =>
        intro a w1 Kx hG need old hsz fresh hKx
        have e0 : a.tmps[2]?.getD undef = .pointer (some ⟨w.heap.size, 0, none⟩) := by rw [← Array.getD_eq_getD_getElem?]; exact old 2 (by kernel_rfl)
        obtain ⟨k1, k2, k3, k4, k5⟩ := cells5 ((hG.block w.heap.size HLT.out).trans BX0.out)
        refine op_value (v := .agg #[.int .i64 B, .int .i64 P, .int .i64 S, .int .i64 D, .int .i64 U]) (wanted_none rfl) ?_ (hKx _ w1 rfl hG (Below.refl _ _))
        simp [execOp, go_sem, e0, k1, k2, k3, k4, k5]
      case o1 =>
        intro a w1 Kx hG need old hsz fresh hKx
        have e0 : a.tmps[5]?.getD undef = .agg #[.int .i64 B, .int .i64 P, .int .i64 S, .int .i64 D, .int .i64 U] := by rw [← Array.getD_eq_getD_getElem?]; exact (need 0 (by kernel_rfl) (by kernel_rfl))
        refine op_call (wanted_none rfl) (f := 109) (args := #[.agg #[.int .i64 B, .int .i64 P, .int .i64 S, .int .i64 D, .int .i64 U]]) ?run ((mayp_any B P S D U w1).mono ?post)
        case run => simp [go_sem, e0]
        case post =>
          rintro e w2 ⟨rfl, hb2⟩
          rw [decide_eq_true HM.out]
          exact ⟨_, rfl, hKx _ w2 rfl (hG.trans (hb2.mono hG.size)) hb2⟩
      case o2 =>
        intro a w1 Kx hG need old hsz fresh hKx
        have e0 : a.tmps[6]?.getD undef = .bool true := by rw [← Array.getD_eq_getD_getElem?]; exact (need 1 (by kernel_rfl) (by kernel_rfl))
        refine op_value (v := .bool true) (wanted_none rfl) ?_ (hKx _ w1 rfl hG (Below.refl _ _))
        simp [execOp, go_sem, e0]
      case o3 =>
        intro a w1 Kx hG need old hsz fresh hKx
        have e0 : a.tmps[2]?.getD undef = .pointer (some ⟨w.heap.size, 0, none⟩) := by rw [← Array.getD_eq_getD_getElem?]; exact old 2 (by kernel_rfl)
        obtain ⟨k1, k2, k3, k4, k5⟩ := cells5 ((hG.block w.heap.size HLT.out).trans BX0.out)
        refine op_value (v := .agg #[.int .i64 B, .int .i64 P, .int .i64 S, .int .i64 D, .int .i64 U]) (wanted_of (j := 2) rfl (need 2 (by kernel_rfl) (by kernel_rfl))) ?_ (hKx _ w1 rfl hG (Below.refl _ _))
        simp [execOp, go_sem, e0, k1, k2, k3, k4, k5]
      case o4 =>
        intro a w1 Kx hG need old hsz fresh hKx
        have e0 : a.tmps[1]?.getD undef = .int .i64 bad := by rw [← Array.getD_eq_getD_getElem?]; exact old 1 (by kernel_rfl)
        refine op_value (v := .int .i64 bad) (wanted_of (j := 2) rfl (need 2 (by kernel_rfl) (by kernel_rfl))) ?_ (hKx _ w1 rfl hG (Below.refl _ _))
        simp [execOp, go_sem, e0]
      case o5 =>
        intro a w1 Kx hG need old hsz fresh hKx
        have e0 : a.tmps[8]?.getD undef = .agg #[.int .i64 B, .int .i64 P, .int .i64 S, .int .i64 D, .int .i64 U] := by rw [← Array.getD_eq_getD_getElem?]; exact (need 3 (by kernel_rfl) (by kernel_rfl))
        have e1 : a.tmps[9]?.getD undef = .int .i64 bad := by rw [← Array.getD_eq_getD_getElem?]; exact (need 4 (by kernel_rfl) (by kernel_rfl))
        refine op_call (wanted_of (j := 2) rfl (need 2 (by kernel_rfl) (by kernel_rfl))) (f := 123) (args := #[.agg #[.int .i64 B, .int .i64 P, .int .i64 S, .int .i64 D, .int .i64 U], .int .i64 bad]) ?run ((roomp_any B P S D U bad w1 HBD.out).mono ?post)
        case run => simp [go_sem, e0, e1]
        case post =>
          rintro e w2 ⟨rfl, hb2⟩
          exact ⟨_, rfl, hKx _ w2 rfl (hG.trans (hb2.mono hG.size)) hb2⟩
      case o6 =>
        intro a w1 Kx hG need old hsz fresh hKx
        have e0 : a.tmps[2]?.getD undef = .pointer (some ⟨w.heap.size, 0, none⟩) := by rw [← Array.getD_eq_getD_getElem?]; exact old 2 (by kernel_rfl)
        obtain ⟨k1, k2, k3, k4, k5⟩ := cells5 ((hG.block w.heap.size HLT.out).trans BX0.out)
        refine op_value (v := .agg #[.int .i64 B, .int .i64 P, .int .i64 S, .int .i64 D, .int .i64 U]) (wanted_of (j := 2) rfl (need 2 (by kernel_rfl) (by kernel_rfl))) ?_ (hKx _ w1 rfl hG (Below.refl _ _))
        simp [execOp, go_sem, e0, k1, k2, k3, k4, k5]
      case o7 =>
        intro a w1 Kx hG need old hsz fresh hKx
        have e0 : a.tmps[11]?.getD undef = .agg #[.int .i64 B, .int .i64 P, .int .i64 S, .int .i64 D, .int .i64 U] := by rw [← Array.getD_eq_getD_getElem?]; exact (need 6 (by kernel_rfl) (by kernel_rfl))
        refine op_call (wanted_of (j := 2) rfl (need 2 (by kernel_rfl) (by kernel_rfl))) (f := 124) (args := #[.agg #[.int .i64 B, .int .i64 P, .int .i64 S, .int .i64 D, .int .i64 U]]) ?run ((needp_any B P S D U w1).mono ?post)
        case run => simp [go_sem, e0]
        case post =>
          rintro e w2 ⟨rfl, hb2⟩
          exact ⟨_, rfl, hKx _ w2 rfl (hG.trans (hb2.mono hG.size)) hb2⟩
      case o8 =>
        intro a w1 Kx hG need old hsz fresh hKx
        have e0 : a.tmps[10]?.getD undef = .int .i64 (roomP B P S D U bad) := by rw [← Array.getD_eq_getD_getElem?]; exact (need 5 (by kernel_rfl) (by kernel_rfl))
        have e1 : a.tmps[12]?.getD undef = .int .i64 (needP B P S D U) := by rw [← Array.getD_eq_getD_getElem?]; exact (need 7 (by kernel_rfl) (by kernel_rfl))
        refine op_value (v := .bool (decide (needP B P S D U ≤ roomP B P S D U bad))) (wanted_of (j := 2) rfl (need 2 (by kernel_rfl) (by kernel_rfl))) ?_ (hKx _ w1 rfl hG (Below.refl _ _))
        simp [execOp, go_sem, e0, e1]
      case o9 =>
        intro a w1 Kx hG need old hsz fresh hKx
        have e0 : a.tmps[7]?.getD undef = .bool true := by rw [← Array.getD_eq_getD_getElem?]; exact (need 2 (by kernel_rfl) (by kernel_rfl))
        have e1 : a.tmps[13]?.getD undef = .bool (decide (needP B P S D U ≤ roomP B P S D U bad)) := by rw [← Array.getD_eq_getD_getElem?]; exact (need 8 (by kernel_rfl) (by kernel_rfl))
        refine op_value (v := .bool (decide (needP B P S D U ≤ roomP B P S D U bad))) (wanted_none rfl) ?_ (hKx _ w1 rfl hG (Below.refl _ _))
        simp [execOp, go_sem, asBool, e0, e1]
      case o10 =>
        intro a w1 Kx hG need old hsz fresh hKx
        have e0 : a.tmps[14]?.getD undef = .bool (decide (needP B P S D U ≤ roomP B P S D U bad)) := by rw [← Array.getD_eq_getD_getElem?]; exact (need 9 (by kernel_rfl) (by kernel_rfl))
        refine op_value (v := .bool (decide (needP B P S D U ≤ roomP B P S D U bad))) (wanted_none rfl) ?_ (hKx _ w1 rfl hG (Below.refl _ _))
        simp [execOp, go_sem, e0]
    case hend =>
      intro a w6 hG hde hsz hφ hold
      obtain rfl := act_puts [(5, .agg #[.int .i64 B, .int .i64 P, .int .i64 S, .int .i64 D, .int .i64 U]), (6, .bool true), (7, .bool true), (8, .agg #[.int .i64 B, .int .i64 P, .int .i64 S, .int .i64 D, .int .i64 U]), (9, .int .i64 bad), (10, .int .i64 (roomP B P S D U bad)), (11, .agg #[.int .i64 B, .int .i64 P, .int .i64 S, .int .i64 D, .int .i64 U]), (12, .int .i64 (needP B P S D U)), (13, .bool (decide (needP B P S D U ≤ roomP B P S D U bad))), (14, .bool (decide (needP B P S D U ≤ roomP B P S D U bad))), (4, .bool (decide (needP B P S D U ≤ roomP B P S D U bad)))] [5, 6, 7, 8, 9, 10, 11, 12, 13, 14, 4] rfl (by kernel_rfl) (by kernel_rfl) hde hsz (List.forall_mem_cons.2 ⟨(show a.tmps.getD 5 undef = .agg #[.int .i64 B, .int .i64 P, .int .i64 S, .int .i64 D, .int .i64 U] from (hφ 0 (by kernel_rfl))), (List.forall_mem_cons.2 ⟨(show a.tmps.getD 6 undef = .bool true from (hφ 1 (by kernel_rfl))), (List.forall_mem_cons.2 ⟨(show a.tmps.getD 7 undef = .bool true from (hφ 2 (by kernel_rfl))), (List.forall_mem_cons.2 ⟨(show a.tmps.getD 8 undef = .agg #[.int .i64 B, .int .i64 P, .int .i64 S, .int .i64 D, .int .i64 U] from (hφ 3 (by kernel_rfl))), (List.forall_mem_cons.2 ⟨(show a.tmps.getD 9 undef = .int .i64 bad from (hφ 4 (by kernel_rfl))), (List.forall_mem_cons.2 ⟨(show a.tmps.getD 10 undef = .int .i64 (roomP B P S D U bad) from (hφ 5 (by kernel_rfl))), (List.forall_mem_cons.2 ⟨(show a.tmps.getD 11 undef = .agg #[.int .i64 B, .int .i64 P, .int .i64 S, .int .i64 D, .int .i64 U] from (hφ 6 (by kernel_rfl))), (List.forall_mem_cons.2 ⟨(show a.tmps.getD 12 undef = .int .i64 (needP B P S D U) from (hφ 7 (by kernel_rfl))), (List.forall_mem_cons.2 ⟨(show a.tmps.getD 13 undef = .bool (decide (needP B P S D U ≤ roomP B P S D U bad)) from (hφ 8 (by kernel_rfl))), (List.forall_mem_cons.2 ⟨(show a.tmps.getD 14 undef = .bool (decide (needP B P S D U ≤ roomP B P S D U bad)) from (hφ 9 (by kernel_rfl))), (List.forall_mem_cons.2 ⟨(show a.tmps.getD 4 undef = .bool (decide (needP B P S D U ≤ roomP B P S D U bad)) from (hφ 10 (by kernel_rfl))), (fun _ h => absurd h (by simp))⟩)⟩)⟩)⟩)⟩)⟩)⟩)⟩)⟩)⟩)⟩) hold
      clear hφ hold hsz hde
      simp only [putAll]
      go_frame
      go_wp2_with fail
      go_ret
      exact ⟨by rw [← HF.out]; rfl, HB0.out.trans (hG.mono HB0.out.size)⟩
  · have HM := Lib.hid hM
    have HN : Hid (decide (FitsP B P S D U bad) = false) := Lib.hid (decide_eq_false fun k => hM k.1)
    clear hM
    go_enter Tryz.func100, Tryz.ntmps100
    go_upto_region 1 with fail
    clear hW
    refine region_st (fun j v w' => match j with | 0 => v = .agg #[.int .i64 B, .int .i64 P, .int .i64 S, .int .i64 D, .int .i64 U] | 1 => v = .bool false | 2 => v = .bool false | 3 => v = undef | 4 => v = undef | 5 => v = undef | 6 => v = undef | 7 => v = undef | 8 => v = undef | 9 => v = .bool false | 10 => v = .bool false | _ => True) (fun _ w' => Below W.heap.size W w') (fun w1 w2 => Below w1.heap.size w1 w2) (by kernel_rfl) (by kernel_rfl) (by kernel_rfl) ?hR ?hG ?hops ?hend
    case hR =>
      intro j v w1 w2 hv hb
      match j, hv with
      | 0, hv => exact hv
      | 1, hv => exact hv
      | 2, hv => exact hv
      | 3, hv => exact hv
      | 4, hv => exact hv
      | 5, hv => exact hv
      | 6, hv => exact hv
      | 7, hv => exact hv
      | 8, hv => exact hv
      | 9, hv => exact hv
      | 10, hv => exact hv
      | _ + 11, _ => exact trivial
    case hG => exact (Below.refl _ _).drew
    case hops =>
      refine OpsOkS.cons ?o0 (OpsOkS.cons ?o1 (OpsOkS.cons ?o2 (OpsOkS.cons ?o3 (OpsOkS.cons ?o4 (OpsOkS.cons ?o5 (OpsOkS.cons ?o6 (OpsOkS.cons ?o7 (OpsOkS.cons ?o8 (OpsOkS.cons ?o9 (OpsOkS.cons ?o10 OpsOkS.nil))))))))))
      case o0 =>
        intro a w1 Kx hG need old hsz fresh hKx
        have e0 : a.tmps[2]?.getD undef = .pointer (some ⟨w.heap.size, 0, none⟩) := by rw [← Array.getD_eq_getD_getElem?]; exact old 2 (by kernel_rfl)
        obtain ⟨k1, k2, k3, k4, k5⟩ := cells5 ((hG.block w.heap.size HLT.out).trans BX0.out)
        refine op_value (v := .agg #[.int .i64 B, .int .i64 P, .int .i64 S, .int .i64 D, .int .i64 U]) (wanted_none rfl) ?_ (hKx _ w1 rfl hG (Below.refl _ _))
        simp [execOp, go_sem, e0, k1, k2, k3, k4, k5]
      case o1 =>
        intro a w1 Kx hG need old hsz fresh hKx
        have e0 : a.tmps[5]?.getD undef = .agg #[.int .i64 B, .int .i64 P, .int .i64 S, .int .i64 D, .int .i64 U] := by rw [← Array.getD_eq_getD_getElem?]; exact (need 0 (by kernel_rfl) (by kernel_rfl))
        refine op_call (wanted_none rfl) (f := 109) (args := #[.agg #[.int .i64 B, .int .i64 P, .int .i64 S, .int .i64 D, .int .i64 U]]) ?run ((mayp_any B P S D U w1).mono ?post)
        case run => simp [go_sem, e0]
        case post =>
          rintro e w2 ⟨rfl, hb2⟩
          rw [decide_eq_false HM.out]
          exact ⟨_, rfl, hKx _ w2 rfl (hG.trans (hb2.mono hG.size)) hb2⟩
      case o2 =>
        intro a w1 Kx hG need old hsz fresh hKx
        have e0 : a.tmps[6]?.getD undef = .bool false := by rw [← Array.getD_eq_getD_getElem?]; exact (need 1 (by kernel_rfl) (by kernel_rfl))
        refine op_value (v := .bool false) (wanted_none rfl) ?_ (hKx _ w1 rfl hG (Below.refl _ _))
        simp [execOp, go_sem, e0]
      case o3 =>
        intro a w1 Kx hG need old hsz fresh hKx
        exact skip_op (j := 2) rfl (need 2 (by kernel_rfl) (by kernel_rfl)) (by decide) (hKx undef w1 rfl hG (Below.refl _ _))
      case o4 =>
        intro a w1 Kx hG need old hsz fresh hKx
        exact skip_op (j := 2) rfl (need 2 (by kernel_rfl) (by kernel_rfl)) (by decide) (hKx undef w1 rfl hG (Below.refl _ _))
      case o5 =>
        intro a w1 Kx hG need old hsz fresh hKx
        exact skip_op (j := 2) rfl (need 2 (by kernel_rfl) (by kernel_rfl)) (by decide) (hKx undef w1 rfl hG (Below.refl _ _))
      case o6 =>
        intro a w1 Kx hG need old hsz fresh hKx
        exact skip_op (j := 2) rfl (need 2 (by kernel_rfl) (by kernel_rfl)) (by decide) (hKx undef w1 rfl hG (Below.refl _ _))
      case o7 =>
        intro a w1 Kx hG need old hsz fresh hKx
        exact skip_op (j := 2) rfl (need 2 (by kernel_rfl) (by kernel_rfl)) (by decide) (hKx undef w1 rfl hG (Below.refl _ _))
      case o8 =>
        intro a w1 Kx hG need old hsz fresh hKx
        exact skip_op (j := 2) rfl (need 2 (by kernel_rfl) (by kernel_rfl)) (by decide) (hKx undef w1 rfl hG (Below.refl _ _))
      case o9 =>
        intro a w1 Kx hG need old hsz fresh hKx
        have e0 : a.tmps[7]?.getD undef = .bool false := by rw [← Array.getD_eq_getD_getElem?]; exact (need 2 (by kernel_rfl) (by kernel_rfl))
        refine op_value (v := .bool false) (wanted_none rfl) ?_ (hKx _ w1 rfl hG (Below.refl _ _))
        simp [execOp, go_sem, asBool, e0]
      case o10 =>
        intro a w1 Kx hG need old hsz fresh hKx
        have e0 : a.tmps[14]?.getD undef = .bool false := by rw [← Array.getD_eq_getD_getElem?]; exact (need 9 (by kernel_rfl) (by kernel_rfl))
        refine op_value (v := .bool false) (wanted_none rfl) ?_ (hKx _ w1 rfl hG (Below.refl _ _))
        simp [execOp, go_sem, e0]
    case hend =>
      intro a w6 hG hde hsz hφ hold
      obtain rfl := act_puts [(5, .agg #[.int .i64 B, .int .i64 P, .int .i64 S, .int .i64 D, .int .i64 U]), (6, .bool false), (7, .bool false), (8, undef), (9, undef), (10, undef), (11, undef), (12, undef), (13, undef), (14, .bool false), (4, .bool false)] [5, 6, 7, 8, 9, 10, 11, 12, 13, 14, 4] rfl (by kernel_rfl) (by kernel_rfl) hde hsz (List.forall_mem_cons.2 ⟨(show a.tmps.getD 5 undef = .agg #[.int .i64 B, .int .i64 P, .int .i64 S, .int .i64 D, .int .i64 U] from (hφ 0 (by kernel_rfl))), (List.forall_mem_cons.2 ⟨(show a.tmps.getD 6 undef = .bool false from (hφ 1 (by kernel_rfl))), (List.forall_mem_cons.2 ⟨(show a.tmps.getD 7 undef = .bool false from (hφ 2 (by kernel_rfl))), (List.forall_mem_cons.2 ⟨(show a.tmps.getD 8 undef = undef from (hφ 3 (by kernel_rfl))), (List.forall_mem_cons.2 ⟨(show a.tmps.getD 9 undef = undef from (hφ 4 (by kernel_rfl))), (List.forall_mem_cons.2 ⟨(show a.tmps.getD 10 undef = undef from (hφ 5 (by kernel_rfl))), (List.forall_mem_cons.2 ⟨(show a.tmps.getD 11 undef = undef from (hφ 6 (by kernel_rfl))), (List.forall_mem_cons.2 ⟨(show a.tmps.getD 12 undef = undef from (hφ 7 (by kernel_rfl))), (List.forall_mem_cons.2 ⟨(show a.tmps.getD 13 undef = undef from (hφ 8 (by kernel_rfl))), (List.forall_mem_cons.2 ⟨(show a.tmps.getD 14 undef = .bool false from (hφ 9 (by kernel_rfl))), (List.forall_mem_cons.2 ⟨(show a.tmps.getD 4 undef = .bool false from (hφ 10 (by kernel_rfl))), (fun _ h => absurd h (by simp))⟩)⟩)⟩)⟩)⟩)⟩)⟩)⟩)⟩)⟩)⟩) hold
      clear hφ hold hsz hde
      simp only [putAll]
      go_frame
      go_wp2_with fail
      go_ret
      exact ⟨by rw [HN.out]; rfl, HB0.out.trans (hG.mono HB0.out.size)⟩
set_option maxRecDepth 100000 in
set_option maxHeartbeats 2000000 in
theorem fitsr_any (B P S D U bad : Int) (w : World) (hbd : (Lit.int .i64 bad).wf = true) :
    Calls Tryz.prog 39 #[.agg #[.int .i64 B, .int .i64 P, .int .i64 S, .int .i64 D, .int .i64 U], .int .i64 bad] w fun e w' => e = .returned (.bool (decide (FitsP B P S D U bad))) ∧ Below w.heap.size w w' := by
  obtain ⟨W, hW⟩ : ∃ W, w.alloc (.cells #[.int .i64 B, .int .i64 P, .int .i64 S, .int .i64 D, .int .i64 U] 23) = W := ⟨_, rfl⟩
  have HB0 : Hid (Below w.heap.size w W) := Lib.hid (by rw [← hW]; exact (Below.refl _ _).alloc (Nat.le_refl _) _)
  have BX0 : Hid (W.heap[w.heap.size]? = some (.cells #[.int .i64 B, .int .i64 P, .int .i64 S, .int .i64 D, .int .i64 U] 23 (0, 0))) := Lib.hid (by rw [← hW]; exact heap_alloc_new _ _)
  have HLT := Lib.hid (lt_size BX0.out)
  have HBD := Lib.hid hbd
  clear hbd
  by_cases hM : MayP B P S D U
  · have HM := Lib.hid hM
    have HF := Lib.hid (fits_dec bad hM)
    by_cases h0 : 0 ≤ bad
    case neg =>
      have HN : Hid (decide (FitsP B P S D U bad) = false) := Lib.hid (decide_eq_false fun k => h0 k.2.1.1)
      have h0' : bad < 0 := by omega
      clear hM h0
      go_enter Tryz.func39, Tryz.ntmps39
      go_upto_region 1 with fail
      clear hW
      refine region_st (fun j v w' => match j with | 0 => v = .agg #[.int .i64 B, .int .i64 P, .int .i64 S, .int .i64 D, .int .i64 U] | 1 => v = .bool true | 2 => v = .bool true | 3 => v = .int .i64 bad | 4 => v = .bool false | 5 => v = .bool false | 6 => v = .bool false | 7 => v = undef | 8 => v = undef | 9 => v = undef | 10 => v = undef | 11 => v = .bool false | 12 => v = .bool false | 13 => v = undef | 14 => v = undef | 15 => v = undef | 16 => v = undef | 17 => v = undef | 18 => v = undef | 19 => v = .bool false | 20 => v = .bool false | _ => True) (fun _ w' => Below W.heap.size W w') (fun w1 w2 => Below w1.heap.size w1 w2) (by kernel_rfl) (by kernel_rfl) (by kernel_rfl) ?hR ?hG ?hops ?hend
      case hR =>
        intro j v w1 w2 hv hb
        match j, hv with
        | 0, hv => exact hv
        | 1, hv => exact hv
        | 2, hv => exact hv
        | 3, hv => exact hv
        | 4, hv => exact hv
        | 5, hv => exact hv
        | 6, hv => exact hv
        | 7, hv => exact hv
        | 8, hv => exact hv
        | 9, hv => exact hv
        | 10, hv => exact hv
        | 11, hv => exact hv
        | 12, hv => exact hv
        | 13, hv => exact hv
        | 14, hv => exact hv
        | 15, hv => exact hv
        | 16, hv => exact hv
        | 17, hv => exact hv
        | 18, hv => exact hv
        | 19, hv => exact hv
        | 20, hv => exact hv
        | _ + 21, _ => exact trivial
      case hG => exact (Below.refl _ _).drew
      case hops =>
        refine OpsOkS.cons ?o0 (OpsOkS.cons ?o1 (OpsOkS.cons ?o2 (OpsOkS.cons ?o3 (OpsOkS.cons ?o4 (OpsOkS.cons ?o5 (OpsOkS.cons ?o6 (OpsOkS.cons ?o7 (OpsOkS.cons ?o8 (OpsOkS.cons ?o9 (OpsOkS.cons ?o10 (OpsOkS.cons ?o11 (OpsOkS.cons ?o12 (OpsOkS.cons ?o13 (OpsOkS.cons ?o14 (OpsOkS.cons ?o15 (OpsOkS.cons ?o16 (OpsOkS.cons ?o17 (OpsOkS.cons ?o18 (OpsOkS.cons ?o19 (OpsOkS.cons ?o20 OpsOkS.nil))))))))))))))))))))
        case o0 =>
          intro a w1 Kx hG need old hsz fresh hKx
          have e0 : a.tmps[2]?.getD undef = .pointer (some ⟨w.heap.size, 0, none⟩) := by rw [← Array.getD_eq_getD_getElem?]; exact old 2 (by kernel_rfl)
          obtain ⟨k1, k2, k3, k4, k5⟩ := cells5 ((hG.block w.heap.size HLT.out).trans BX0.out)
          refine op_value (v := .agg #[.int .i64 B, .int .i64 P, .int .i64 S, .int .i64 D, .int .i64 U]) (wanted_none rfl) ?_ (hKx _ w1 rfl hG (Below.refl _ _))
          simp [execOp, go_sem, e0, k1, k2, k3, k4, k5]
        case o1 =>
          intro a w1 Kx hG need old hsz fresh hKx
          have e0 : a.tmps[5]?.getD undef = .agg #[.int .i64 B, .int .i64 P, .int .i64 S, .int .i64 D, .int .i64 U] := by rw [← Array.getD_eq_getD_getElem?]; exact (need 0 (by kernel_rfl) (by kernel_rfl))
          refine op_call (wanted_none rfl) (f := 38) (args := #[.agg #[.int .i64 B, .int .i64 P, .int .i64 S, .int .i64 D, .int .i64 U]]) ?run ((mayr_any B P S D U w1).mono ?post)
          case run => simp [go_sem, e0]
          case post =>
            rintro e w2 ⟨rfl, hb2⟩
            rw [decide_eq_true HM.out]
            exact ⟨_, rfl, hKx _ w2 rfl (hG.trans (hb2.mono hG.size)) hb2⟩
        case o2 =>
          intro a w1 Kx hG need old hsz fresh hKx
          have e0 : a.tmps[6]?.getD undef = .bool true := by rw [← Array.getD_eq_getD_getElem?]; exact (need 1 (by kernel_rfl) (by kernel_rfl))
          refine op_value (v := .bool true) (wanted_none rfl) ?_ (hKx _ w1 rfl hG (Below.refl _ _))
          simp [execOp, go_sem, e0]
        case o3 =>
          intro a w1 Kx hG need old hsz fresh hKx
          have e0 : a.tmps[1]?.getD undef = .int .i64 bad := by rw [← Array.getD_eq_getD_getElem?]; exact old 1 (by kernel_rfl)
          refine op_value (v := .int .i64 bad) (wanted_of (j := 2) rfl (need 2 (by kernel_rfl) (by kernel_rfl))) ?_ (hKx _ w1 rfl hG (Below.refl _ _))
          simp [execOp, go_sem, e0]
        case o4 =>
          intro a w1 Kx hG need old hsz fresh hKx
          have e0 : a.tmps[8]?.getD undef = .int .i64 bad := by rw [← Array.getD_eq_getD_getElem?]; exact (need 3 (by kernel_rfl) (by kernel_rfl))
          refine op_value (v := .bool false) (wanted_of (j := 2) rfl (need 2 (by kernel_rfl) (by kernel_rfl))) ?_ (hKx _ w1 rfl hG (Below.refl _ _))
          simp [execOp, go_sem, e0]; omega
        case o5 =>
          intro a w1 Kx hG need old hsz fresh hKx
          have e0 : a.tmps[7]?.getD undef = .bool true := by rw [← Array.getD_eq_getD_getElem?]; exact (need 2 (by kernel_rfl) (by kernel_rfl))
          have e1 : a.tmps[9]?.getD undef = .bool false := by rw [← Array.getD_eq_getD_getElem?]; exact (need 4 (by kernel_rfl) (by kernel_rfl))
          refine op_value (v := .bool false) (wanted_none rfl) ?_ (hKx _ w1 rfl hG (Below.refl _ _))
          simp [execOp, go_sem, asBool, e0, e1]
        case o6 =>
          intro a w1 Kx hG need old hsz fresh hKx
          have e0 : a.tmps[10]?.getD undef = .bool false := by rw [← Array.getD_eq_getD_getElem?]; exact (need 5 (by kernel_rfl) (by kernel_rfl))
          refine op_value (v := .bool false) (wanted_none rfl) ?_ (hKx _ w1 rfl hG (Below.refl _ _))
          simp [execOp, go_sem, e0]
        case o7 =>
          intro a w1 Kx hG need old hsz fresh hKx
          exact skip_op (j := 6) rfl (need 6 (by kernel_rfl) (by kernel_rfl)) (by decide) (hKx undef w1 rfl hG (Below.refl _ _))
        case o8 =>
          intro a w1 Kx hG need old hsz fresh hKx
          exact skip_op (j := 6) rfl (need 6 (by kernel_rfl) (by kernel_rfl)) (by decide) (hKx undef w1 rfl hG (Below.refl _ _))
        case o9 =>
          intro a w1 Kx hG need old hsz fresh hKx
          exact skip_op (j := 6) rfl (need 6 (by kernel_rfl) (by kernel_rfl)) (by decide) (hKx undef w1 rfl hG (Below.refl _ _))
        case o10 =>
          intro a w1 Kx hG need old hsz fresh hKx
          exact skip_op (j := 6) rfl (need 6 (by kernel_rfl) (by kernel_rfl)) (by decide) (hKx undef w1 rfl hG (Below.refl _ _))
        case o11 =>
          intro a w1 Kx hG need old hsz fresh hKx
          have e0 : a.tmps[11]?.getD undef = .bool false := by rw [← Array.getD_eq_getD_getElem?]; exact (need 6 (by kernel_rfl) (by kernel_rfl))
          refine op_value (v := .bool false) (wanted_none rfl) ?_ (hKx _ w1 rfl hG (Below.refl _ _))
          simp [execOp, go_sem, asBool, e0]
        case o12 =>
          intro a w1 Kx hG need old hsz fresh hKx
          have e0 : a.tmps[16]?.getD undef = .bool false := by rw [← Array.getD_eq_getD_getElem?]; exact (need 11 (by kernel_rfl) (by kernel_rfl))
          refine op_value (v := .bool false) (wanted_none rfl) ?_ (hKx _ w1 rfl hG (Below.refl _ _))
          simp [execOp, go_sem, e0]
        case o13 =>
          intro a w1 Kx hG need old hsz fresh hKx
          exact skip_op (j := 12) rfl (need 12 (by kernel_rfl) (by kernel_rfl)) (by decide) (hKx undef w1 rfl hG (Below.refl _ _))
        case o14 =>
          intro a w1 Kx hG need old hsz fresh hKx
          exact skip_op (j := 12) rfl (need 12 (by kernel_rfl) (by kernel_rfl)) (by decide) (hKx undef w1 rfl hG (Below.refl _ _))
        case o15 =>
          intro a w1 Kx hG need old hsz fresh hKx
          exact skip_op (j := 12) rfl (need 12 (by kernel_rfl) (by kernel_rfl)) (by decide) (hKx undef w1 rfl hG (Below.refl _ _))
        case o16 =>
          intro a w1 Kx hG need old hsz fresh hKx
          exact skip_op (j := 12) rfl (need 12 (by kernel_rfl) (by kernel_rfl)) (by decide) (hKx undef w1 rfl hG (Below.refl _ _))
        case o17 =>
          intro a w1 Kx hG need old hsz fresh hKx
          exact skip_op (j := 12) rfl (need 12 (by kernel_rfl) (by kernel_rfl)) (by decide) (hKx undef w1 rfl hG (Below.refl _ _))
        case o18 =>
          intro a w1 Kx hG need old hsz fresh hKx
          exact skip_op (j := 12) rfl (need 12 (by kernel_rfl) (by kernel_rfl)) (by decide) (hKx undef w1 rfl hG (Below.refl _ _))
        case o19 =>
          intro a w1 Kx hG need old hsz fresh hKx
          have e0 : a.tmps[17]?.getD undef = .bool false := by rw [← Array.getD_eq_getD_getElem?]; exact (need 12 (by kernel_rfl) (by kernel_rfl))
          refine op_value (v := .bool false) (wanted_none rfl) ?_ (hKx _ w1 rfl hG (Below.refl _ _))
          simp [execOp, go_sem, asBool, e0]
        case o20 =>
          intro a w1 Kx hG need old hsz fresh hKx
          have e0 : a.tmps[24]?.getD undef = .bool false := by rw [← Array.getD_eq_getD_getElem?]; exact (need 19 (by kernel_rfl) (by kernel_rfl))
          refine op_value (v := .bool false) (wanted_none rfl) ?_ (hKx _ w1 rfl hG (Below.refl _ _))
          simp [execOp, go_sem, e0]
      case hend =>
        intro a w6 hG hde hsz hφ hold
        obtain rfl := act_puts [(5, .agg #[.int .i64 B, .int .i64 P, .int .i64 S, .int .i64 D, .int .i64 U]), (6, .bool true), (7, .bool true), (8, .int .i64 bad), (9, .bool false), (10, .bool false), (11, .bool false), (12, undef), (13, undef), (14, undef), (15, undef), (16, .bool false), (17, .bool false), (18, undef), (19, undef), (20, undef), (21, undef), (22, undef), (23, undef), (24, .bool false), (4, .bool false)] [5, 6, 7, 8, 9, 10, 11, 12, 13, 14, 15, 16, 17, 18, 19, 20, 21, 22, 23, 24, 4] rfl (by kernel_rfl) (by kernel_rfl) hde hsz (List.forall_mem_cons.2 ⟨(show a.tmps.getD 5 undef = .agg #[.int .i64 B, .int .i64 P, .int .i64 S, .int .i64 D, .int .i64 U] from (hφ 0 (by kernel_rfl))), (List.forall_mem_cons.2 ⟨(show a.tmps.getD 6 undef = .bool true from (hφ 1 (by kernel_rfl))), (List.forall_mem_cons.2 ⟨(show a.tmps.getD 7 undef = .bool true from (hφ 2 (by kernel_rfl))), (List.forall_mem_cons.2 ⟨(show a.tmps.getD 8 undef = .int .i64 bad from (hφ 3 (by kernel_rfl))), (List.forall_mem_cons.2 ⟨(show a.tmps.getD 9 undef = .bool false from (hφ 4 (by kernel_rfl))), (List.forall_mem_cons.2 ⟨(show a.tmps.getD 10 undef = .bool false from (hφ 5 (by kernel_rfl))), (List.forall_mem_cons.2 ⟨(show a.tmps.getD 11 undef = .bool false from (hφ 6 (by kernel_rfl))), (List.forall_mem_cons.2 ⟨(show a.tmps.getD 12 undef = undef from (hφ 7 (by kernel_rfl))), (List.forall_mem_cons.2 ⟨(show a.tmps.getD 13 undef = undef from (hφ 8 (by kernel_rfl))), (List.forall_mem_cons.2 ⟨(show a.tmps.getD 14 undef = undef from (hφ 9 (by kernel_rfl))), (List.forall_mem_cons.2 ⟨(show a.tmps.getD 15 undef = undef from (hφ 10 (by kernel_rfl))), (List.forall_mem_cons.2 ⟨(show a.tmps.getD 16 undef = .bool false from (hφ 11 (by kernel_rfl))), (List.forall_mem_cons.2 ⟨(show a.tmps.getD 17 undef = .bool false from (hφ 12 (by kernel_rfl))), (List.forall_mem_cons.2 ⟨(show a.tmps.getD 18 undef = undef from (hφ 13 (by kernel_rfl))), (List.forall_mem_cons.2 ⟨(show a.tmps.getD 19 undef = undef from (hφ 14 (by kernel_rfl))), (List.forall_mem_cons.2 ⟨(show a.tmps.getD 20 undef = undef from (hφ 15 (by kernel_rfl))), (List.forall_mem_cons.2 ⟨(show a.tmps.getD 21 undef = undef from (hφ 16 (by kernel_rfl))), (List.forall_mem_cons.2 ⟨(show a.tmps.getD 22 undef = undef from (hφ 17 (by kernel_rfl))), (List.forall_mem_cons.2 ⟨(show a.tmps.getD 23 undef = undef from (hφ 18 (by kernel_rfl))), (List.forall_mem_cons.2 ⟨(show a.tmps.getD 24 undef = .bool false from (hφ 19 (by kernel_rfl))), (List.forall_mem_cons.2 ⟨(show a.tmps.getD 4 undef = .bool false from (hφ 20 (by kernel_rfl))), (fun _ h => absurd h (by simp))⟩)⟩)⟩)⟩)⟩)⟩)⟩)⟩)⟩)⟩)⟩)⟩)⟩)⟩)⟩)⟩)⟩)⟩)⟩)⟩)⟩) hold
        clear hφ hold hsz hde
        simp only [putAll]
        go_frame
        go_wp2_with fail
        go_ret
        exact ⟨by rw [HN.out]; rfl, HB0.out.trans (hG.mono HB0.out.size)⟩
    case pos =>
      by_cases h1 : bad ≤ B
      case neg =>
        have HN : Hid (decide (FitsP B P S D U bad) = false) := Lib.hid (decide_eq_false fun k => h1 k.2.1.2)
        clear hM
        go_enter Tryz.func39, Tryz.ntmps39
        go_upto_region 1 with fail
        clear hW
        refine region_st (fun j v w' => match j with | 0 => v = .agg #[.int .i64 B, .int .i64 P, .int .i64 S, .int .i64 D, .int .i64 U] | 1 => v = .bool true | 2 => v = .bool true | 3 => v = .int .i64 bad | 4 => v = .bool true | 5 => v = .bool true | 6 => v = .bool true | 7 => v = .int .i64 bad | 8 => v = .pointer (some ⟨w.heap.size, 0, none⟩) | 9 => v = .int .i64 B | 10 => v = .bool false | 11 => v = .bool false | 12 => v = .bool false | 13 => v = undef | 14 => v = undef | 15 => v = undef | 16 => v = undef | 17 => v = undef | 18 => v = undef | 19 => v = .bool false | 20 => v = .bool false | _ => True) (fun _ w' => Below W.heap.size W w') (fun w1 w2 => Below w1.heap.size w1 w2) (by kernel_rfl) (by kernel_rfl) (by kernel_rfl) ?hR ?hG ?hops ?hend
        case hR =>
          intro j v w1 w2 hv hb
          match j, hv with
          | 0, hv => exact hv
          | 1, hv => exact hv
          | 2, hv => exact hv
          | 3, hv => exact hv
          | 4, hv => exact hv
          | 5, hv => exact hv
          | 6, hv => exact hv
          | 7, hv => exact hv
          | 8, hv => exact hv
          | 9, hv => exact hv
          | 10, hv => exact hv
          | 11, hv => exact hv
          | 12, hv => exact hv
          | 13, hv => exact hv
          | 14, hv => exact hv
          | 15, hv => exact hv
          | 16, hv => exact hv
          | 17, hv => exact hv
          | 18, hv => exact hv
          | 19, hv => exact hv
          | 20, hv => exact hv
          | _ + 21, _ => exact trivial
        case hG => exact (Below.refl _ _).drew
        case hops =>
          refine OpsOkS.cons ?o0 (OpsOkS.cons ?o1 (OpsOkS.cons ?o2 (OpsOkS.cons ?o3 (OpsOkS.cons ?o4 (OpsOkS.cons ?o5 (OpsOkS.cons ?o6 (OpsOkS.cons ?o7 (OpsOkS.cons ?o8 (OpsOkS.cons ?o9 (OpsOkS.cons ?o10 (OpsOkS.cons ?o11 (OpsOkS.cons ?o12 (OpsOkS.cons ?o13 (OpsOkS.cons ?o14 (OpsOkS.cons ?o15 (OpsOkS.cons ?o16 (OpsOkS.cons ?o17 (OpsOkS.cons ?o18 (OpsOkS.cons ?o19 (OpsOkS.cons ?o20 OpsOkS.nil))))))))))))))))))))
          case o0 =>
            intro a w1 Kx hG need old hsz fresh hKx
            have e0 : a.tmps[2]?.getD undef = .pointer (some ⟨w.heap.size, 0, none⟩) := by rw [← Array.getD_eq_getD_getElem?]; exact old 2 (by kernel_rfl)
            obtain ⟨k1, k2, k3, k4, k5⟩ := cells5 ((hG.block w.heap.size HLT.out).trans BX0.out)
            refine op_value (v := .agg #[.int .i64 B, .int .i64 P, .int .i64 S, .int .i64 D, .int .i64 U]) (wanted_none rfl) ?_ (hKx _ w1 rfl hG (Below.refl _ _))
            simp [execOp, go_sem, e0, k1, k2, k3, k4, k5]
          case o1 =>
            intro a w1 Kx hG need old hsz fresh hKx
            have e0 : a.tmps[5]?.getD undef = .agg #[.int .i64 B, .int .i64 P, .int .i64 S, .int .i64 D, .int .i64 U] := by rw [← Array.getD_eq_getD_getElem?]; exact (need 0 (by kernel_rfl) (by kernel_rfl))
            refine op_call (wanted_none rfl) (f := 38) (args := #[.agg #[.int .i64 B, .int .i64 P, .int .i64 S, .int .i64 D, .int .i64 U]]) ?run ((mayr_any B P S D U w1).mono ?post)
            case run => simp [go_sem, e0]
            case post =>
              rintro e w2 ⟨rfl, hb2⟩
              rw [decide_eq_true HM.out]
              exact ⟨_, rfl, hKx _ w2 rfl (hG.trans (hb2.mono hG.size)) hb2⟩
          case o2 =>
            intro a w1 Kx hG need old hsz fresh hKx
            have e0 : a.tmps[6]?.getD undef = .bool true := by rw [← Array.getD_eq_getD_getElem?]; exact (need 1 (by kernel_rfl) (by kernel_rfl))
            refine op_value (v := .bool true) (wanted_none rfl) ?_ (hKx _ w1 rfl hG (Below.refl _ _))
            simp [execOp, go_sem, e0]
          case o3 =>
            intro a w1 Kx hG need old hsz fresh hKx
            have e0 : a.tmps[1]?.getD undef = .int .i64 bad := by rw [← Array.getD_eq_getD_getElem?]; exact old 1 (by kernel_rfl)
            refine op_value (v := .int .i64 bad) (wanted_of (j := 2) rfl (need 2 (by kernel_rfl) (by kernel_rfl))) ?_ (hKx _ w1 rfl hG (Below.refl _ _))
            simp [execOp, go_sem, e0]
          case o4 =>
            intro a w1 Kx hG need old hsz fresh hKx
            have e0 : a.tmps[8]?.getD undef = .int .i64 bad := by rw [← Array.getD_eq_getD_getElem?]; exact (need 3 (by kernel_rfl) (by kernel_rfl))
            refine op_value (v := .bool true) (wanted_of (j := 2) rfl (need 2 (by kernel_rfl) (by kernel_rfl))) ?_ (hKx _ w1 rfl hG (Below.refl _ _))
            simp [execOp, go_sem, e0]; omega
          case o5 =>
            intro a w1 Kx hG need old hsz fresh hKx
            have e0 : a.tmps[7]?.getD undef = .bool true := by rw [← Array.getD_eq_getD_getElem?]; exact (need 2 (by kernel_rfl) (by kernel_rfl))
            have e1 : a.tmps[9]?.getD undef = .bool true := by rw [← Array.getD_eq_getD_getElem?]; exact (need 4 (by kernel_rfl) (by kernel_rfl))
            refine op_value (v := .bool true) (wanted_none rfl) ?_ (hKx _ w1 rfl hG (Below.refl _ _))
            simp [execOp, go_sem, asBool, e0, e1]
          case o6 =>
            intro a w1 Kx hG need old hsz fresh hKx
            have e0 : a.tmps[10]?.getD undef = .bool true := by rw [← Array.getD_eq_getD_getElem?]; exact (need 5 (by kernel_rfl) (by kernel_rfl))
            refine op_value (v := .bool true) (wanted_none rfl) ?_ (hKx _ w1 rfl hG (Below.refl _ _))
            simp [execOp, go_sem, e0]
          case o7 =>
            intro a w1 Kx hG need old hsz fresh hKx
            have e0 : a.tmps[1]?.getD undef = .int .i64 bad := by rw [← Array.getD_eq_getD_getElem?]; exact old 1 (by kernel_rfl)
            refine op_value (v := .int .i64 bad) (wanted_of (j := 6) rfl (need 6 (by kernel_rfl) (by kernel_rfl))) ?_ (hKx _ w1 rfl hG (Below.refl _ _))
            simp [execOp, go_sem, e0]
          case o8 =>
            intro a w1 Kx hG need old hsz fresh hKx
            have e0 : a.tmps[2]?.getD undef = .pointer (some ⟨w.heap.size, 0, none⟩) := by rw [← Array.getD_eq_getD_getElem?]; exact old 2 (by kernel_rfl)
            refine op_value (v := .pointer (some ⟨w.heap.size, 0, none⟩)) (wanted_of (j := 6) rfl (need 6 (by kernel_rfl) (by kernel_rfl))) ?_ (hKx _ w1 rfl hG (Below.refl _ _))
            simp [execOp, go_sem, e0]
          case o9 =>
            intro a w1 Kx hG need old hsz fresh hKx
            have e0 : a.tmps[13]?.getD undef = .pointer (some ⟨w.heap.size, 0, none⟩) := by rw [← Array.getD_eq_getD_getElem?]; exact (need 8 (by kernel_rfl) (by kernel_rfl))
            have k0 := (cells5 ((hG.block w.heap.size HLT.out).trans BX0.out)).1
            refine op_value (v := .int .i64 B) (wanted_of (j := 6) rfl (need 6 (by kernel_rfl) (by kernel_rfl))) ?_ (hKx _ w1 rfl hG (Below.refl _ _))
            simp [execOp, go_sem, e0, k0]
          case o10 =>
            intro a w1 Kx hG need old hsz fresh hKx
            have e0 : a.tmps[12]?.getD undef = .int .i64 bad := by rw [← Array.getD_eq_getD_getElem?]; exact (need 7 (by kernel_rfl) (by kernel_rfl))
            have e1 : a.tmps[14]?.getD undef = .int .i64 B := by rw [← Array.getD_eq_getD_getElem?]; exact (need 9 (by kernel_rfl) (by kernel_rfl))
            refine op_value (v := .bool false) (wanted_of (j := 6) rfl (need 6 (by kernel_rfl) (by kernel_rfl))) ?_ (hKx _ w1 rfl hG (Below.refl _ _))
            simp [execOp, go_sem, e0, e1]; omega
          case o11 =>
            intro a w1 Kx hG need old hsz fresh hKx
            have e0 : a.tmps[11]?.getD undef = .bool true := by rw [← Array.getD_eq_getD_getElem?]; exact (need 6 (by kernel_rfl) (by kernel_rfl))
            have e1 : a.tmps[15]?.getD undef = .bool false := by rw [← Array.getD_eq_getD_getElem?]; exact (need 10 (by kernel_rfl) (by kernel_rfl))
            refine op_value (v := .bool false) (wanted_none rfl) ?_ (hKx _ w1 rfl hG (Below.refl _ _))
            simp [execOp, go_sem, asBool, e0, e1]
          case o12 =>
            intro a w1 Kx hG need old hsz fresh hKx
            have e0 : a.tmps[16]?.getD undef = .bool false := by rw [← Array.getD_eq_getD_getElem?]; exact (need 11 (by kernel_rfl) (by kernel_rfl))
            refine op_value (v := .bool false) (wanted_none rfl) ?_ (hKx _ w1 rfl hG (Below.refl _ _))
            simp [execOp, go_sem, e0]
          case o13 =>
            intro a w1 Kx hG need old hsz fresh hKx
            exact skip_op (j := 12) rfl (need 12 (by kernel_rfl) (by kernel_rfl)) (by decide) (hKx undef w1 rfl hG (Below.refl _ _))
          case o14 =>
            intro a w1 Kx hG need old hsz fresh hKx
            exact skip_op (j := 12) rfl (need 12 (by kernel_rfl) (by kernel_rfl)) (by decide) (hKx undef w1 rfl hG (Below.refl _ _))
          case o15 =>
            intro a w1 Kx hG need old hsz fresh hKx
            exact skip_op (j := 12) rfl (need 12 (by kernel_rfl) (by kernel_rfl)) (by decide) (hKx undef w1 rfl hG (Below.refl _ _))
          case o16 =>
            intro a w1 Kx hG need old hsz fresh hKx
            exact skip_op (j := 12) rfl (need 12 (by kernel_rfl) (by kernel_rfl)) (by decide) (hKx undef w1 rfl hG (Below.refl _ _))
          case o17 =>
            intro a w1 Kx hG need old hsz fresh hKx
            exact skip_op (j := 12) rfl (need 12 (by kernel_rfl) (by kernel_rfl)) (by decide) (hKx undef w1 rfl hG (Below.refl _ _))
          case o18 =>
            intro a w1 Kx hG need old hsz fresh hKx
            exact skip_op (j := 12) rfl (need 12 (by kernel_rfl) (by kernel_rfl)) (by decide) (hKx undef w1 rfl hG (Below.refl _ _))
          case o19 =>
            intro a w1 Kx hG need old hsz fresh hKx
            have e0 : a.tmps[17]?.getD undef = .bool false := by rw [← Array.getD_eq_getD_getElem?]; exact (need 12 (by kernel_rfl) (by kernel_rfl))
            refine op_value (v := .bool false) (wanted_none rfl) ?_ (hKx _ w1 rfl hG (Below.refl _ _))
            simp [execOp, go_sem, asBool, e0]
          case o20 =>
            intro a w1 Kx hG need old hsz fresh hKx
            have e0 : a.tmps[24]?.getD undef = .bool false := by rw [← Array.getD_eq_getD_getElem?]; exact (need 19 (by kernel_rfl) (by kernel_rfl))
            refine op_value (v := .bool false) (wanted_none rfl) ?_ (hKx _ w1 rfl hG (Below.refl _ _))
            simp [execOp, go_sem, e0]
        case hend =>
          intro a w6 hG hde hsz hφ hold
          obtain rfl := act_puts [(5, .agg #[.int .i64 B, .int .i64 P, .int .i64 S, .int .i64 D, .int .i64 U]), (6, .bool true), (7, .bool true), (8, .int .i64 bad), (9, .bool true), (10, .bool true), (11, .bool true), (12, .int .i64 bad), (13, .pointer (some ⟨w.heap.size, 0, none⟩)), (14, .int .i64 B), (15, .bool false), (16, .bool false), (17, .bool false), (18, undef), (19, undef), (20, undef), (21, undef), (22, undef), (23, undef), (24, .bool false), (4, .bool false)] [5, 6, 7, 8, 9, 10, 11, 12, 13, 14, 15, 16, 17, 18, 19, 20, 21, 22, 23, 24, 4] rfl (by kernel_rfl) (by kernel_rfl) hde hsz (List.forall_mem_cons.2 ⟨(show a.tmps.getD 5 undef = .agg #[.int .i64 B, .int .i64 P, .int .i64 S, .int .i64 D, .int .i64 U] from (hφ 0 (by kernel_rfl))), (List.forall_mem_cons.2 ⟨(show a.tmps.getD 6 undef = .bool true from (hφ 1 (by kernel_rfl))), (List.forall_mem_cons.2 ⟨(show a.tmps.getD 7 undef = .bool true from (hφ 2 (by kernel_rfl))), (List.forall_mem_cons.2 ⟨(show a.tmps.getD 8 undef = .int .i64 bad from (hφ 3 (by kernel_rfl))), (List.forall_mem_cons.2 ⟨(show a.tmps.getD 9 undef = .bool true from (hφ 4 (by kernel_rfl))), (List.forall_mem_cons.2 ⟨(show a.tmps.getD 10 undef = .bool true from (hφ 5 (by kernel_rfl))), (List.forall_mem_cons.2 ⟨(show a.tmps.getD 11 undef = .bool true from (hφ 6 (by kernel_rfl))), (List.forall_mem_cons.2 ⟨(show a.tmps.getD 12 undef = .int .i64 bad from (hφ 7 (by kernel_rfl))), (List.forall_mem_cons.2 ⟨(show a.tmps.getD 13 undef = .pointer (some ⟨w.heap.size, 0, none⟩) from (hφ 8 (by kernel_rfl))), (List.forall_mem_cons.2 ⟨(show a.tmps.getD 14 undef = .int .i64 B from (hφ 9 (by kernel_rfl))), (List.forall_mem_cons.2 ⟨(show a.tmps.getD 15 undef = .bool false from (hφ 10 (by kernel_rfl))), (List.forall_mem_cons.2 ⟨(show a.tmps.getD 16 undef = .bool false from (hφ 11 (by kernel_rfl))), (List.forall_mem_cons.2 ⟨(show a.tmps.getD 17 undef = .bool false from (hφ 12 (by kernel_rfl))), (List.forall_mem_cons.2 ⟨(show a.tmps.getD 18 undef = undef from (hφ 13 (by kernel_rfl))), (List.forall_mem_cons.2 ⟨(show a.tmps.getD 19 undef = undef from (hφ 14 (by kernel_rfl))), (List.forall_mem_cons.2 ⟨(show a.tmps.getD 20 undef = undef from (hφ 15 (by kernel_rfl))), (List.forall_mem_cons.2 ⟨(show a.tmps.getD 21 undef = undef from (hφ 16 (by kernel_rfl))), (List.forall_mem_cons.2 ⟨(show a.tmps.getD 22 undef = undef from (hφ 17 (by kernel_rfl))), (List.forall_mem_cons.2 ⟨(show a.tmps.getD 23 undef = undef from (hφ 18 (by kernel_rfl))), (List.forall_mem_cons.2 ⟨(show a.tmps.getD 24 undef = .bool false from (hφ 19 (by kernel_rfl))), (List.forall_mem_cons.2 ⟨(show a.tmps.getD 4 undef = .bool false from (hφ 20 (by kernel_rfl))), (fun _ h => absurd h (by simp))⟩)⟩)⟩)⟩)⟩)⟩)⟩)⟩)⟩)⟩)⟩)⟩)⟩)⟩)⟩)⟩)⟩)⟩)⟩)⟩)⟩) hold
          clear hφ hold hsz hde
          simp only [putAll]
          go_frame
          go_wp2_with fail
          go_ret
          exact ⟨by rw [HN.out]; rfl, HB0.out.trans (hG.mono HB0.out.size)⟩
      case pos =>
        clear hM
        go_enter Tryz.func39, Tryz.ntmps39
        go_upto_region 1 with fail
        clear hW
        refine region_st (fun j v w' => match j with | 0 => v = .agg #[.int .i64 B, .int .i64 P, .int .i64 S, .int .i64 D, .int .i64 U] | 1 => v = .bool true | 2 => v = .bool true | 3 => v = .int .i64 bad | 4 => v = .bool true | 5 => v = .bool true | 6 => v = .bool true | 7 => v = .int .i64 bad | 8 => v = .pointer (some ⟨w.heap.size, 0, none⟩) | 9 => v = .int .i64 B | 10 => v = .bool true | 11 => v = .bool true | 12 => v = .bool true | 13 => v = .agg #[.int .i64 B, .int .i64 P, .int .i64 S, .int .i64 D, .int .i64 U] | 14 => v = .int .i64 bad | 15 => v = .int .i64 (roomP B P S D U bad) | 16 => v = .agg #[.int .i64 B, .int .i64 P, .int .i64 S, .int .i64 D, .int .i64 U] | 17 => v = .int .i64 (needP B P S D U) | 18 => v = .bool (decide (needP B P S D U ≤ roomP B P S D U bad)) | 19 => v = .bool (decide (needP B P S D U ≤ roomP B P S D U bad)) | 20 => v = .bool (decide (needP B P S D U ≤ roomP B P S D U bad)) | _ => True) (fun _ w' => Below W.heap.size W w') (fun w1 w2 => Below w1.heap.size w1 w2) (by kernel_rfl) (by kernel_rfl) (by kernel_rfl) ?hR ?hG ?hops ?hend
        case hR =>
          intro j v w1 w2 hv hb
          match j, hv with
          | 0, hv => exact hv
          | 1, hv => exact hv
          | 2, hv => exact hv
          | 3, hv => exact hv
          | 4, hv => exact hv
          | 5, hv => exact hv
          | 6, hv => exact hv
          | 7, hv => exact hv
          | 8, hv => exact hv
          | 9, hv => exact hv
          | 10, hv => exact hv
          | 11, hv => exact hv
          | 12, hv => exact hv
          | 13, hv => exact hv
          | 14, hv => exact hv
          | 15, hv => exact hv
          | 16, hv => exact hv
          | 17, hv => exact hv
          | 18, hv => exact hv
          | 19, hv => exact hv
          | 20, hv => exact hv
          | _ + 21, _ => exact trivial
        case hG => exact (Below.refl _ _).drew
        case hops =>
          refine OpsOkS.cons ?o0 (OpsOkS.cons ?o1 (OpsOkS.cons ?o2 (OpsOkS.cons ?o3 (OpsOkS.cons ?o4 (OpsOkS.cons ?o5 (OpsOkS.cons ?o6 (OpsOkS.cons ?o7 (OpsOkS.cons ?o8 (OpsOkS.cons ?o9 (OpsOkS.cons ?o10 (OpsOkS.cons ?o11 (OpsOkS.cons ?o12 (OpsOkS.cons ?o13 (OpsOkS.cons ?o14 (OpsOkS.cons ?o15 (OpsOkS.cons ?o16 (OpsOkS.cons ?o17 (OpsOkS.cons ?o18 (OpsOkS.cons ?o19 (OpsOkS.cons ?o20 OpsOkS.nil))))))))))))))))))))
          case o0 =>
            intro a w1 Kx hG need old hsz fresh hKx
            have e0 : a.tmps[2]?.getD undef = .pointer (some ⟨w.heap.size, 0, none⟩) := by rw [← Array.getD_eq_getD_getElem?]; exact old 2 (by kernel_rfl)
            obtain ⟨k1, k2, k3, k4, k5⟩ := cells5 ((hG.block w.heap.size HLT.out).trans BX0.out)
            refine op_value (v := .agg #[.int .i64 B, .int .i64 P, .int .i64 S, .int .i64 D, .int .i64 U]) (wanted_none rfl) ?_ (hKx _ w1 rfl hG (Below.refl _ _))
            simp [execOp, go_sem, e0, k1, k2, k3, k4, k5]
          case o1 =>
            intro a w1 Kx hG need old hsz fresh hKx
            have e0 : a.tmps[5]?.getD undef = .agg #[.int .i64 B, .int .i64 P, .int .i64 S, .int .i64 D, .int .i64 U] := by rw [← Array.getD_eq_getD_getElem?]; exact (need 0 (by kernel_rfl) (by kernel_rfl))
            refine op_call (wanted_none rfl) (f := 38) (args := #[.agg #[.int .i64 B, .int .i64 P, .int .i64 S, .int .i64 D, .int .i64 U]]) ?run ((mayr_any B P S D U w1).mono ?post)
            case run => simp [go_sem, e0]
            case post =>
              rintro e w2 ⟨rfl, hb2⟩
              rw [decide_eq_true HM.out]
              exact ⟨_, rfl, hKx _ w2 rfl (hG.trans (hb2.mono hG.size)) hb2⟩
          case o2 =>
            intro a w1 Kx hG need old hsz fresh hKx
            have e0 : a.tmps[6]?.getD undef = .bool true := by rw [← Array.getD_eq_getD_getElem?]; exact (need 1 (by kernel_rfl) (by kernel_rfl))
            refine op_value (v := .bool true) (wanted_none rfl) ?_ (hKx _ w1 rfl hG (Below.refl _ _))
            simp [execOp, go_sem, e0]
          case o3 =>
            intro a w1 Kx hG need old hsz fresh hKx
            have e0 : a.tmps[1]?.getD undef = .int .i64 bad := by rw [← Array.getD_eq_getD_getElem?]; exact old 1 (by kernel_rfl)
            refine op_value (v := .int .i64 bad) (wanted_of (j := 2) rfl (need 2 (by kernel_rfl) (by kernel_rfl))) ?_ (hKx _ w1 rfl hG (Below.refl _ _))
            simp [execOp, go_sem, e0]
          case o4 =>
            intro a w1 Kx hG need old hsz fresh hKx
            have e0 : a.tmps[8]?.getD undef = .int .i64 bad := by rw [← Array.getD_eq_getD_getElem?]; exact (need 3 (by kernel_rfl) (by kernel_rfl))
            refine op_value (v := .bool true) (wanted_of (j := 2) rfl (need 2 (by kernel_rfl) (by kernel_rfl))) ?_ (hKx _ w1 rfl hG (Below.refl _ _))
            simp [execOp, go_sem, e0]; omega
          case o5 =>
            intro a w1 Kx hG need old hsz fresh hKx
            have e0 : a.tmps[7]?.getD undef = .bool true := by rw [← Array.getD_eq_getD_getElem?]; exact (need 2 (by kernel_rfl) (by kernel_rfl))
            have e1 : a.tmps[9]?.getD undef = .bool true := by rw [← Array.getD_eq_getD_getElem?]; exact (need 4 (by kernel_rfl) (by kernel_rfl))
            refine op_value (v := .bool true) (wanted_none rfl) ?_ (hKx _ w1 rfl hG (Below.refl _ _))
            simp [execOp, go_sem, asBool, e0, e1]
          case o6 =>
            intro a w1 Kx hG need old hsz fresh hKx
            have e0 : a.tmps[10]?.getD undef = .bool true := by rw [← Array.getD_eq_getD_getElem?]; exact (need 5 (by kernel_rfl) (by kernel_rfl))
            refine op_value (v := .bool true) (wanted_none rfl) ?_ (hKx _ w1 rfl hG (Below.refl _ _))
            simp [execOp, go_sem, e0]
          case o7 =>
            intro a w1 Kx hG need old hsz fresh hKx
            have e0 : a.tmps[1]?.getD undef = .int .i64 bad := by rw [← Array.getD_eq_getD_getElem?]; exact old 1 (by kernel_rfl)
            refine op_value (v := .int .i64 bad) (wanted_of (j := 6) rfl (need 6 (by kernel_rfl) (by kernel_rfl))) ?_ (hKx _ w1 rfl hG (Below.refl _ _))
            simp [execOp, go_sem, e0]
          case o8 =>
            intro a w1 Kx hG need old hsz fresh hKx
            have e0 : a.tmps[2]?.getD undef = .pointer (some ⟨w.heap.size, 0, none⟩) := by rw [← Array.getD_eq_getD_getElem?]; exact old 2 (by kernel_rfl)
            refine op_value (v := .pointer (some ⟨w.heap.size, 0, none⟩)) (wanted_of (j := 6) rfl (need 6 (by kernel_rfl) (by kernel_rfl))) ?_ (hKx _ w1 rfl hG (Below.refl _ _))
            simp [execOp, go_sem, e0]
          case o9 =>
            intro a w1 Kx hG need old hsz fresh hKx
            have e0 : a.tmps[13]?.getD undef = .pointer (some ⟨w.heap.size, 0, none⟩) := by rw [← Array.getD_eq_getD_getElem?]; exact (need 8 (by kernel_rfl) (by kernel_rfl))
            have k0 := (cells5 ((hG.block w.heap.size HLT.out).trans BX0.out)).1
            refine op_value (v := .int .i64 B) (wanted_of (j := 6) rfl (need 6 (by kernel_rfl) (by kernel_rfl))) ?_ (hKx _ w1 rfl hG (Below.refl _ _))
            simp [execOp, go_sem, e0, k0]
          case o10 =>
            intro a w1 Kx hG need old hsz fresh hKx
            have e0 : a.tmps[12]?.getD undef = .int .i64 bad := by rw [← Array.getD_eq_getD_getElem?]; exact (need 7 (by kernel_rfl) (by kernel_rfl))
            have e1 : a.tmps[14]?.getD undef = .int .i64 B := by rw [← Array.getD_eq_getD_getElem?]; exact (need 9 (by kernel_rfl) (by kernel_rfl))
            refine op_value (v := .bool true) (wanted_of (j := 6) rfl (need 6 (by kernel_rfl) (by kernel_rfl))) ?_ (hKx _ w1 rfl hG (Below.refl _ _))
            simp [execOp, go_sem, e0, e1]; omega
          case o11 =>
            intro a w1 Kx hG need old hsz fresh hKx
            have e0 : a.tmps[11]?.getD undef = .bool true := by rw [← Array.getD_eq_getD_getElem?]; exact (need 6 (by kernel_rfl) (by kernel_rfl))
            have e1 : a.tmps[15]?.getD undef = .bool true := by rw [← Array.getD_eq_getD_getElem?]; exact (need 10 (by kernel_rfl) (by kernel_rfl))
            refine op_value (v := .bool true) (wanted_none rfl) ?_ (hKx _ w1 rfl hG (Below.refl _ _))
            simp [execOp, go_sem, asBool, e0, e1]
          case o12 =>
            intro a w1 Kx hG need old hsz fresh hKx
            have e0 : a.tmps[16]?.getD undef = .bool true := by rw [← Array.getD_eq_getD_getElem?]; exact (need 11 (by kernel_rfl) (by kernel_rfl))
            refine op_value (v := .bool true) (wanted_none rfl) ?_ (hKx _ w1 rfl hG (Below.refl _ _))
            simp [execOp, go_sem, e0]
          case o13 =>
            intro a w1 Kx hG need old hsz fresh hKx
            have e0 : a.tmps[2]?.getD undef = .pointer (some ⟨w.heap.size, 0, none⟩) := by rw [← Array.getD_eq_getD_getElem?]; exact old 2 (by kernel_rfl)
            obtain ⟨k1, k2, k3, k4, k5⟩ := cells5 ((hG.block w.heap.size HLT.out).trans BX0.out)
            refine op_value (v := .agg #[.int .i64 B, .int .i64 P, .int .i64 S, .int .i64 D, .int .i64 U]) (wanted_of (j := 12) rfl (need 12 (by kernel_rfl) (by kernel_rfl))) ?_ (hKx _ w1 rfl hG (Below.refl _ _))
            simp [execOp, go_sem, e0, k1, k2, k3, k4, k5]
          case o14 =>
            intro a w1 Kx hG need old hsz fresh hKx
            have e0 : a.tmps[1]?.getD undef = .int .i64 bad := by rw [← Array.getD_eq_getD_getElem?]; exact old 1 (by kernel_rfl)
            refine op_value (v := .int .i64 bad) (wanted_of (j := 12) rfl (need 12 (by kernel_rfl) (by kernel_rfl))) ?_ (hKx _ w1 rfl hG (Below.refl _ _))
            simp [execOp, go_sem, e0]
          case o15 =>
            intro a w1 Kx hG need old hsz fresh hKx
            have e0 : a.tmps[18]?.getD undef = .agg #[.int .i64 B, .int .i64 P, .int .i64 S, .int .i64 D, .int .i64 U] := by rw [← Array.getD_eq_getD_getElem?]; exact (need 13 (by kernel_rfl) (by kernel_rfl))
            have e1 : a.tmps[19]?.getD undef = .int .i64 bad := by rw [← Array.getD_eq_getD_getElem?]; exact (need 14 (by kernel_rfl) (by kernel_rfl))
            refine op_call (wanted_of (j := 12) rfl (need 12 (by kernel_rfl) (by kernel_rfl))) (f := 72) (args := #[.agg #[.int .i64 B, .int .i64 P, .int .i64 S, .int .i64 D, .int .i64 U], .int .i64 bad]) ?run ((roomr_any B P S D U bad w1 HBD.out).mono ?post)
            case run => simp [go_sem, e0, e1]
            case post =>
              rintro e w2 ⟨rfl, hb2⟩
              exact ⟨_, rfl, hKx _ w2 rfl (hG.trans (hb2.mono hG.size)) hb2⟩
          case o16 =>
            intro a w1 Kx hG need old hsz fresh hKx
            have e0 : a.tmps[2]?.getD undef = .pointer (some ⟨w.heap.size, 0, none⟩) := by rw [← Array.getD_eq_getD_getElem?]; exact old 2 (by kernel_rfl)
            obtain ⟨k1, k2, k3, k4, k5⟩ := cells5 ((hG.block w.heap.size HLT.out).trans BX0.out)
            refine op_value (v := .agg #[.int .i64 B, .int .i64 P, .int .i64 S, .int .i64 D, .int .i64 U]) (wanted_of (j := 12) rfl (need 12 (by kernel_rfl) (by kernel_rfl))) ?_ (hKx _ w1 rfl hG (Below.refl _ _))
            simp [execOp, go_sem, e0, k1, k2, k3, k4, k5]
          case o17 =>
            intro a w1 Kx hG need old hsz fresh hKx
            have e0 : a.tmps[21]?.getD undef = .agg #[.int .i64 B, .int .i64 P, .int .i64 S, .int .i64 D, .int .i64 U] := by rw [← Array.getD_eq_getD_getElem?]; exact (need 16 (by kernel_rfl) (by kernel_rfl))
            refine op_call (wanted_of (j := 12) rfl (need 12 (by kernel_rfl) (by kernel_rfl))) (f := 73) (args := #[.agg #[.int .i64 B, .int .i64 P, .int .i64 S, .int .i64 D, .int .i64 U]]) ?run ((needr_any B P S D U w1).mono ?post)
            case run => simp [go_sem, e0]
            case post =>
              rintro e w2 ⟨rfl, hb2⟩
              exact ⟨_, rfl, hKx _ w2 rfl (hG.trans (hb2.mono hG.size)) hb2⟩
          case o18 =>
            intro a w1 Kx hG need old hsz fresh hKx
            have e0 : a.tmps[20]?.getD undef = .int .i64 (roomP B P S D U bad) := by rw [← Array.getD_eq_getD_getElem?]; exact (need 15 (by kernel_rfl) (by kernel_rfl))
            have e1 : a.tmps[22]?.getD undef = .int .i64 (needP B P S D U) := by rw [← Array.getD_eq_getD_getElem?]; exact (need 17 (by kernel_rfl) (by kernel_rfl))
            refine op_value (v := .bool (decide (needP B P S D U ≤ roomP B P S D U bad))) (wanted_of (j := 12) rfl (need 12 (by kernel_rfl) (by kernel_rfl))) ?_ (hKx _ w1 rfl hG (Below.refl _ _))
            simp [execOp, go_sem, e0, e1]
          case o19 =>
            intro a w1 Kx hG need old hsz fresh hKx
            have e0 : a.tmps[17]?.getD undef = .bool true := by rw [← Array.getD_eq_getD_getElem?]; exact (need 12 (by kernel_rfl) (by kernel_rfl))
            have e1 : a.tmps[23]?.getD undef = .bool (decide (needP B P S D U ≤ roomP B P S D U bad)) := by rw [← Array.getD_eq_getD_getElem?]; exact (need 18 (by kernel_rfl) (by kernel_rfl))
            refine op_value (v := .bool (decide (needP B P S D U ≤ roomP B P S D U bad))) (wanted_none rfl) ?_ (hKx _ w1 rfl hG (Below.refl _ _))
            simp [execOp, go_sem, asBool, e0, e1]
          case o20 =>
            intro a w1 Kx hG need old hsz fresh hKx
            have e0 : a.tmps[24]?.getD undef = .bool (decide (needP B P S D U ≤ roomP B P S D U bad)) := by rw [← Array.getD_eq_getD_getElem?]; exact (need 19 (by kernel_rfl) (by kernel_rfl))
            refine op_value (v := .bool (decide (needP B P S D U ≤ roomP B P S D U bad))) (wanted_none rfl) ?_ (hKx _ w1 rfl hG (Below.refl _ _))
            simp [execOp, go_sem, e0]
        case hend =>
          intro a w6 hG hde hsz hφ hold
          obtain rfl := act_puts [(5, .agg #[.int .i64 B, .int .i64 P, .int .i64 S, .int .i64 D, .int .i64 U]), (6, .bool true), (7, .bool true), (8, .int .i64 bad), (9, .bool true), (10, .bool true), (11, .bool true), (12, .int .i64 bad), (13, .pointer (some ⟨w.heap.size, 0, none⟩)), (14, .int .i64 B), (15, .bool true), (16, .bool true), (17, .bool true), (18, .agg #[.int .i64 B, .int .i64 P, .int .i64 S, .int .i64 D, .int .i64 U]), (19, .int .i64 bad), (20, .int .i64 (roomP B P S D U bad)), (21, .agg #[.int .i64 B, .int .i64 P, .int .i64 S, .int .i64 D, .int .i64 U]), (22, .int .i64 (needP B P S D U)), (23, .bool (decide (needP B P S D U ≤ roomP B P S D U bad))), (24, .bool (decide (needP B P S D U ≤ roomP B P S D U bad))), (4, .bool (decide (needP B P S D U ≤ roomP B P S D U bad)))] [5, 6, 7, 8, 9, 10, 11, 12, 13, 14, 15, 16, 17, 18, 19, 20, 21, 22, 23, 24, 4] rfl (by kernel_rfl) (by kernel_rfl) hde hsz (List.forall_mem_cons.2 ⟨(show a.tmps.getD 5 undef = .agg #[.int .i64 B, .int .i64 P, .int .i64 S, .int .i64 D, .int .i64 U] from (hφ 0 (by kernel_rfl))), (List.forall_mem_cons.2 ⟨(show a.tmps.getD 6 undef = .bool true from (hφ 1 (by kernel_rfl))), (List.forall_mem_cons.2 ⟨(show a.tmps.getD 7 undef = .bool true from (hφ 2 (by kernel_rfl))), (List.forall_mem_cons.2 ⟨(show a.tmps.getD 8 undef = .int .i64 bad from (hφ 3 (by kernel_rfl))), (List.forall_mem_cons.2 ⟨(show a.tmps.getD 9 undef = .bool true from (hφ 4 (by kernel_rfl))), (List.forall_mem_cons.2 ⟨(show a.tmps.getD 10 undef = .bool true from (hφ 5 (by kernel_rfl))), (List.forall_mem_cons.2 ⟨(show a.tmps.getD 11 undef = .bool true from (hφ 6 (by kernel_rfl))), (List.forall_mem_cons.2 ⟨(show a.tmps.getD 12 undef = .int .i64 bad from (hφ 7 (by kernel_rfl))), (List.forall_mem_cons.2 ⟨(show a.tmps.getD 13 undef = .pointer (some ⟨w.heap.size, 0, none⟩) from (hφ 8 (by kernel_rfl))), (List.forall_mem_cons.2 ⟨(show a.tmps.getD 14 undef = .int .i64 B from (hφ 9 (by kernel_rfl))), (List.forall_mem_cons.2 ⟨(show a.tmps.getD 15 undef = .bool true from (hφ 10 (by kernel_rfl))), (List.forall_mem_cons.2 ⟨(show a.tmps.getD 16 undef = .bool true from (hφ 11 (by kernel_rfl))), (List.forall_mem_cons.2 ⟨(show a.tmps.getD 17 undef = .bool true from (hφ 12 (by kernel_rfl))), (List.forall_mem_cons.2 ⟨(show a.tmps.getD 18 undef = .agg #[.int .i64 B, .int .i64 P, .int .i64 S, .int .i64 D, .int .i64 U] from (hφ 13 (by kernel_rfl))), (List.forall_mem_cons.2 ⟨(show a.tmps.getD 19 undef = .int .i64 bad from (hφ 14 (by kernel_rfl))), (List.forall_mem_cons.2 ⟨(show a.tmps.getD 20 undef = .int .i64 (roomP B P S D U bad) from (hφ 15 (by kernel_rfl))), (List.forall_mem_cons.2 ⟨(show a.tmps.getD 21 undef = .agg #[.int .i64 B, .int .i64 P, .int .i64 S, .int .i64 D, .int .i64 U] from (hφ 16 (by kernel_rfl))), (List.forall_mem_cons.2 ⟨(show a.tmps.getD 22 undef = .int .i64 (needP B P S D U) from (hφ 17 (by kernel_rfl))), (List.forall_mem_cons.2 ⟨(show a.tmps.getD 23 undef = .bool (decide (needP B P S D U ≤ roomP B P S D U bad)) from (hφ 18 (by kernel_rfl))), (List.forall_mem_cons.2 ⟨(show a.tmps.getD 24 undef = .bool (decide (needP B P S D U ≤ roomP B P S D U bad)) from (hφ 19 (by kernel_rfl))), (List.forall_mem_cons.2 ⟨(show a.tmps.getD 4 undef = .bool (decide (needP B P S D U ≤ roomP B P S D U bad)) from (hφ 20 (by kernel_rfl))), (fun _ h => absurd h (by simp))⟩)⟩)⟩)⟩)⟩)⟩)⟩)⟩)⟩)⟩)⟩)⟩)⟩)⟩)⟩)⟩)⟩)⟩)⟩)⟩)⟩) hold
          clear hφ hold hsz hde
          simp only [putAll]
          go_frame
          go_wp2_with fail
          go_ret
          exact ⟨by rw [← HF.out]; rfl, HB0.out.trans (hG.mono HB0.out.size)⟩
  · have HM := Lib.hid hM
    have HN : Hid (decide (FitsP B P S D U bad) = false) := Lib.hid (decide_eq_false fun k => hM k.1)
    clear hM
    go_enter Tryz.func39, Tryz.ntmps39
    go_upto_region 1 with fail
    clear hW
    refine region_st (fun j v w' => match j with | 0 => v = .agg #[.int .i64 B, .int .i64 P, .int .i64 S, .int .i64 D, .int .i64 U] | 1 => v = .bool false | 2 => v = .bool false | 3 => v = undef | 4 => v = undef | 5 => v = .bool false | 6 => v = .bool false | 7 => v = undef | 8 => v = undef | 9 => v = undef | 10 => v = undef | 11 => v = .bool false | 12 => v = .bool false | 13 => v = undef | 14 => v = undef | 15 => v = undef | 16 => v = undef | 17 => v = undef | 18 => v = undef | 19 => v = .bool false | 20 => v = .bool false | _ => True) (fun _ w' => Below W.heap.size W w') (fun w1 w2 => Below w1.heap.size w1 w2) (by kernel_rfl) (by kernel_rfl) (by kernel_rfl) ?hR ?hG ?hops ?hend
    case hR =>
      intro j v w1 w2 hv hb
      match j, hv with
      | 0, hv => exact hv
      | 1, hv => exact hv
      | 2, hv => exact hv
      | 3, hv => exact hv
      | 4, hv => exact hv
      | 5, hv => exact hv
      | 6, hv => exact hv
      | 7, hv => exact hv
      | 8, hv => exact hv
      | 9, hv => exact hv
      | 10, hv => exact hv
      | 11, hv => exact hv
      | 12, hv => exact hv
      | 13, hv => exact hv
      | 14, hv => exact hv
      | 15, hv => exact hv
      | 16, hv => exact hv
      | 17, hv => exact hv
      | 18, hv => exact hv
      | 19, hv => exact hv
      | 20, hv => exact hv
      | _ + 21, _ => exact trivial
    case hG => exact (Below.refl _ _).drew
    case hops =>
      refine OpsOkS.cons ?o0 (OpsOkS.cons ?o1 (OpsOkS.cons ?o2 (OpsOkS.cons ?o3 (OpsOkS.cons ?o4 (OpsOkS.cons ?o5 (OpsOkS.cons ?o6 (OpsOkS.cons ?o7 (OpsOkS.cons ?o8 (OpsOkS.cons ?o9 (OpsOkS.cons ?o10 (OpsOkS.cons ?o11 (OpsOkS.cons ?o12 (OpsOkS.cons ?o13 (OpsOkS.cons ?o14 (OpsOkS.cons ?o15 (OpsOkS.cons ?o16 (OpsOkS.cons ?o17 (OpsOkS.cons ?o18 (OpsOkS.cons ?o19 (OpsOkS.cons ?o20 OpsOkS.nil))))))))))))))))))))
      case o0 =>
        intro a w1 Kx hG need old hsz fresh hKx
        have e0 : a.tmps[2]?.getD undef = .pointer (some ⟨w.heap.size, 0, none⟩) := by rw [← Array.getD_eq_getD_getElem?]; exact old 2 (by kernel_rfl)
        obtain ⟨k1, k2, k3, k4, k5⟩ := cells5 ((hG.block w.heap.size HLT.out).trans BX0.out)
        refine op_value (v := .agg #[.int .i64 B, .int .i64 P, .int .i64 S, .int .i64 D, .int .i64 U]) (wanted_none rfl) ?_ (hKx _ w1 rfl hG (Below.refl _ _))
        simp [execOp, go_sem, e0, k1, k2, k3, k4, k5]
      case o1 =>
        intro a w1 Kx hG need old hsz fresh hKx
        have e0 : a.tmps[5]?.getD undef = .agg #[.int .i64 B, .int .i64 P, .int .i64 S, .int .i64 D, .int .i64 U] := by rw [← Array.getD_eq_getD_getElem?]; exact (need 0 (by kernel_rfl) (by kernel_rfl))
        refine op_call (wanted_none rfl) (f := 38) (args := #[.agg #[.int .i64 B, .int .i64 P, .int .i64 S, .int .i64 D, .int .i64 U]]) ?run ((mayr_any B P S D U w1).mono ?post)
        case run => simp [go_sem, e0]
        case post =>
          rintro e w2 ⟨rfl, hb2⟩
          rw [decide_eq_false HM.out]
          exact ⟨_, rfl, hKx _ w2 rfl (hG.trans (hb2.mono hG.size)) hb2⟩
      case o2 =>
        intro a w1 Kx hG need old hsz fresh hKx
        have e0 : a.tmps[6]?.getD undef = .bool false := by rw [← Array.getD_eq_getD_getElem?]; exact (need 1 (by kernel_rfl) (by kernel_rfl))
        refine op_value (v := .bool false) (wanted_none rfl) ?_ (hKx _ w1 rfl hG (Below.refl _ _))
        simp [execOp, go_sem, e0]
      case o3 =>
        intro a w1 Kx hG need old hsz fresh hKx
        exact skip_op (j := 2) rfl (need 2 (by kernel_rfl) (by kernel_rfl)) (by decide) (hKx undef w1 rfl hG (Below.refl _ _))
      case o4 =>
        intro a w1 Kx hG need old hsz fresh hKx
        exact skip_op (j := 2) rfl (need 2 (by kernel_rfl) (by kernel_rfl)) (by decide) (hKx undef w1 rfl hG (Below.refl _ _))
      case o5 =>
        intro a w1 Kx hG need old hsz fresh hKx
        have e0 : a.tmps[7]?.getD undef = .bool false := by rw [← Array.getD_eq_getD_getElem?]; exact (need 2 (by kernel_rfl) (by kernel_rfl))
        refine op_value (v := .bool false) (wanted_none rfl) ?_ (hKx _ w1 rfl hG (Below.refl _ _))
        simp [execOp, go_sem, asBool, e0]
      case o6 =>
        intro a w1 Kx hG need old hsz fresh hKx
        have e0 : a.tmps[10]?.getD undef = .bool false := by rw [← Array.getD_eq_getD_getElem?]; exact (need 5 (by kernel_rfl) (by kernel_rfl))
        refine op_value (v := .bool false) (wanted_none rfl) ?_ (hKx _ w1 rfl hG (Below.refl _ _))
        simp [execOp, go_sem, e0]
      case o7 =>
        intro a w1 Kx hG need old hsz fresh hKx
        exact skip_op (j := 6) rfl (need 6 (by kernel_rfl) (by kernel_rfl)) (by decide) (hKx undef w1 rfl hG (Below.refl _ _))
      case o8 =>
        intro a w1 Kx hG need old hsz fresh hKx
        exact skip_op (j := 6) rfl (need 6 (by kernel_rfl) (by kernel_rfl)) (by decide) (hKx undef w1 rfl hG (Below.refl _ _))
      case o9 =>
        intro a w1 Kx hG need old hsz fresh hKx
        exact skip_op (j := 6) rfl (need 6 (by kernel_rfl) (by kernel_rfl)) (by decide) (hKx undef w1 rfl hG (Below.refl _ _))
      case o10 =>
        intro a w1 Kx hG need old hsz fresh hKx
        exact skip_op (j := 6) rfl (need 6 (by kernel_rfl) (by kernel_rfl)) (by decide) (hKx undef w1 rfl hG (Below.refl _ _))
      case o11 =>
        intro a w1 Kx hG need old hsz fresh hKx
        have e0 : a.tmps[11]?.getD undef = .bool false := by rw [← Array.getD_eq_getD_getElem?]; exact (need 6 (by kernel_rfl) (by kernel_rfl))
        refine op_value (v := .bool false) (wanted_none rfl) ?_ (hKx _ w1 rfl hG (Below.refl _ _))
        simp [execOp, go_sem, asBool, e0]
      case o12 =>
        intro a w1 Kx hG need old hsz fresh hKx
        have e0 : a.tmps[16]?.getD undef = .bool false := by rw [← Array.getD_eq_getD_getElem?]; exact (need 11 (by kernel_rfl) (by kernel_rfl))
        refine op_value (v := .bool false) (wanted_none rfl) ?_ (hKx _ w1 rfl hG (Below.refl _ _))
        simp [execOp, go_sem, e0]
      case o13 =>
        intro a w1 Kx hG need old hsz fresh hKx
        exact skip_op (j := 12) rfl (need 12 (by kernel_rfl) (by kernel_rfl)) (by decide) (hKx undef w1 rfl hG (Below.refl _ _))
      case o14 =>
        intro a w1 Kx hG need old hsz fresh hKx
        exact skip_op (j := 12) rfl (need 12 (by kernel_rfl) (by kernel_rfl)) (by decide) (hKx undef w1 rfl hG (Below.refl _ _))
      case o15 =>
        intro a w1 Kx hG need old hsz fresh hKx
        exact skip_op (j := 12) rfl (need 12 (by kernel_rfl) (by kernel_rfl)) (by decide) (hKx undef w1 rfl hG (Below.refl _ _))
      case o16 =>
        intro a w1 Kx hG need old hsz fresh hKx
        exact skip_op (j := 12) rfl (need 12 (by kernel_rfl) (by kernel_rfl)) (by decide) (hKx undef w1 rfl hG (Below.refl _ _))
      case o17 =>
        intro a w1 Kx hG need old hsz fresh hKx
        exact skip_op (j := 12) rfl (need 12 (by kernel_rfl) (by kernel_rfl)) (by decide) (hKx undef w1 rfl hG (Below.refl _ _))
      case o18 =>
        intro a w1 Kx hG need old hsz fresh hKx
        exact skip_op (j := 12) rfl (need 12 (by kernel_rfl) (by kernel_rfl)) (by decide) (hKx undef w1 rfl hG (Below.refl _ _))
      case o19 =>
        intro a w1 Kx hG need old hsz fresh hKx
        have e0 : a.tmps[17]?.getD undef = .bool false := by rw [← Array.getD_eq_getD_getElem?]; exact (need 12 (by kernel_rfl) (by kernel_rfl))
        refine op_value (v := .bool false) (wanted_none rfl) ?_ (hKx _ w1 rfl hG (Below.refl _ _))
        simp [execOp, go_sem, asBool, e0]
      case o20 =>
        intro a w1 Kx hG need old hsz fresh hKx
        have e0 : a.tmps[24]?.getD undef = .bool false := by rw [← Array.getD_eq_getD_getElem?]; exact (need 19 (by kernel_rfl) (by kernel_rfl))
        refine op_value (v := .bool false) (wanted_none rfl) ?_ (hKx _ w1 rfl hG (Below.refl _ _))
        simp [execOp, go_sem, e0]
    case hend =>
      intro a w6 hG hde hsz hφ hold
      obtain rfl := act_puts [(5, .agg #[.int .i64 B, .int .i64 P, .int .i64 S, .int .i64 D, .int .i64 U]), (6, .bool false), (7, .bool false), (8, undef), (9, undef), (10, .bool false), (11, .bool false), (12, undef), (13, undef), (14, undef), (15, undef), (16, .bool false), (17, .bool false), (18, undef), (19, undef), (20, undef), (21, undef), (22, undef), (23, undef), (24, .bool false), (4, .bool false)] [5, 6, 7, 8, 9, 10, 11, 12, 13, 14, 15, 16, 17, 18, 19, 20, 21, 22, 23, 24, 4] rfl (by kernel_rfl) (by kernel_rfl) hde hsz (List.forall_mem_cons.2 ⟨(show a.tmps.getD 5 undef = .agg #[.int .i64 B, .int .i64 P, .int .i64 S, .int .i64 D, .int .i64 U] from (hφ 0 (by kernel_rfl))), (List.forall_mem_cons.2 ⟨(show a.tmps.getD 6 undef = .bool false from (hφ 1 (by kernel_rfl))), (List.forall_mem_cons.2 ⟨(show a.tmps.getD 7 undef = .bool false from (hφ 2 (by kernel_rfl))), (List.forall_mem_cons.2 ⟨(show a.tmps.getD 8 undef = undef from (hφ 3 (by kernel_rfl))), (List.forall_mem_cons.2 ⟨(show a.tmps.getD 9 undef = undef from (hφ 4 (by kernel_rfl))), (List.forall_mem_cons.2 ⟨(show a.tmps.getD 10 undef = .bool false from (hφ 5 (by kernel_rfl))), (List.forall_mem_cons.2 ⟨(show a.tmps.getD 11 undef = .bool false from (hφ 6 (by kernel_rfl))), (List.forall_mem_cons.2 ⟨(show a.tmps.getD 12 undef = undef from (hφ 7 (by kernel_rfl))), (List.forall_mem_cons.2 ⟨(show a.tmps.getD 13 undef = undef from (hφ 8 (by kernel_rfl))), (List.forall_mem_cons.2 ⟨(show a.tmps.getD 14 undef = undef from (hφ 9 (by kernel_rfl))), (List.forall_mem_cons.2 ⟨(show a.tmps.getD 15 undef = undef from (hφ 10 (by kernel_rfl))), (List.forall_mem_cons.2 ⟨(show a.tmps.getD 16 undef = .bool false from (hφ 11 (by kernel_rfl))), (List.forall_mem_cons.2 ⟨(show a.tmps.getD 17 undef = .bool false from (hφ 12 (by kernel_rfl))), (List.forall_mem_cons.2 ⟨(show a.tmps.getD 18 undef = undef from (hφ 13 (by kernel_rfl))), (List.forall_mem_cons.2 ⟨(show a.tmps.getD 19 undef = undef from (hφ 14 (by kernel_rfl))), (List.forall_mem_cons.2 ⟨(show a.tmps.getD 20 undef = undef from (hφ 15 (by kernel_rfl))), (List.forall_mem_cons.2 ⟨(show a.tmps.getD 21 undef = undef from (hφ 16 (by kernel_rfl))), (List.forall_mem_cons.2 ⟨(show a.tmps.getD 22 undef = undef from (hφ 17 (by kernel_rfl))), (List.forall_mem_cons.2 ⟨(show a.tmps.getD 23 undef = undef from (hφ 18 (by kernel_rfl))), (List.forall_mem_cons.2 ⟨(show a.tmps.getD 24 undef = .bool false from (hφ 19 (by kernel_rfl))), (List.forall_mem_cons.2 ⟨(show a.tmps.getD 4 undef = .bool false from (hφ 20 (by kernel_rfl))), (fun _ h => absurd h (by simp))⟩)⟩)⟩)⟩)⟩)⟩)⟩)⟩)⟩)⟩)⟩)⟩)⟩)⟩)⟩)⟩)⟩)⟩)⟩)⟩)⟩) hold
      clear hφ hold hsz hde
      simp only [putAll]
      go_frame
      go_wp2_with fail
      go_ret
      exact ⟨by rw [HN.out]; rfl, HB0.out.trans (hG.mono HB0.out.size)⟩
end Go.Proofs.YtnadcdgpfopcaaaGreat
