/- Package plan, and the reference's: Fits; awake of potsherdlaw6 (drawn regions written by plan3.py). -/
import Derived.Test.YtfnhmnfhkhjojaaPlan2
import Derived.Test.YtfnhmnfhkhjojaaRegWord
import Derived.Deep.CutBlock
import Derived.Deep.DeepCutAuto
namespace Go.Proofs.Ytfnhmnfhkhjojaa
open Go.RowKit

/-- A law's end: true; nothing that was there when it began has turned. -/
def Holds (w : World) (e : Ending) (w' : World) : Prop := e = .returned (.bool true) ∧ Below w.heap.size w w'
theorem needP_yes {B P S D U : Int} (h : MayP B P S D U) : needP B P S D U = D + 8 := if_pos h
theorem roomP_out {B P S D U bad : Int} (h : ¬ (0 ≤ bad ∧ bad ≤ B)) : roomP B P S D U bad = 0 := if_neg fun h' => h h'.2
theorem fits_dec {B P S D U : Int} (bad : Int) (h : MayP B P S D U) : decide (needP B P S D U ≤ roomP B P S D U bad) = decide (FitsP B P S D U bad) := by
  refine decide_eq_decide.2 ⟨fun h1 => ⟨h, ?_, h1⟩, fun h1 => h1.2.2⟩
  rcases Decidable.em (0 ≤ bad ∧ bad ≤ B) with h2 | h2
  · exact h2
  · rw [roomP_out h2, needP_yes h] at h1
    have := h.2.2.2.1
    omega

set_option maxRecDepth 100000 in
set_option maxHeartbeats 1000000 in
theorem fitsp_any (B P S D U bad : Int) (w : World) (hbd : (Lit.int .i64 bad).wf = true) :
    Calls Try.prog 14 #[.agg #[.int .i64 B, .int .i64 P, .int .i64 S, .int .i64 D, .int .i64 U], .int .i64 bad] w fun e w' => e = .returned (.bool (decide (FitsP B P S D U bad))) ∧ Below w.heap.size w w' := by
  have HB0 := Lib.hid ((Below.refl w.heap.size w).alloc (Nat.le_refl _) (.cells #[.int .i64 B, .int .i64 P, .int .i64 S, .int .i64 D, .int .i64 U] 23))
  have HBD := Lib.hid hbd
  clear hbd
  have BX0 := Lib.hid (heap_alloc_new w (.cells #[.int .i64 B, .int .i64 P, .int .i64 S, .int .i64 D, .int .i64 U] 23))
  by_cases hM : MayP B P S D U
  · have HM := Lib.hid hM
    clear hM
    go_enter Try.func14, Try.ntmps14
    go_upto_region 1 with fail
    generalize w.alloc (.cells #[.int .i64 B, .int .i64 P, .int .i64 S, .int .i64 D, .int .i64 U] 23) = W at HB0 BX0 ⊢
    have BX := BX0
    have hWs : Hid (w.heap.size ≤ W.heap.size) := HB0.out.size
    refine region_inv (fun j v _ => v = (match j with | 0 => .agg #[.int .i64 B, .int .i64 P, .int .i64 S, .int .i64 D, .int .i64 U] | 1 => .bool true | 2 => .bool true | 3 => .agg #[.int .i64 B, .int .i64 P, .int .i64 S, .int .i64 D, .int .i64 U] | 4 => .int .i64 bad | 5 => .int .i64 (roomP B P S D U bad) | 6 => .agg #[.int .i64 B, .int .i64 P, .int .i64 S, .int .i64 D, .int .i64 U] | 7 => .int .i64 (needP B P S D U) | 8 => .bool (decide (needP B P S D U ≤ roomP B P S D U bad)) | 9 => .bool (decide (needP B P S D U ≤ roomP B P S D U bad)) | 10 => .bool (decide (needP B P S D U ≤ roomP B P S D U bad)) | _ => undef)) (fun w' => Below W.heap.size W w') (fun _ _ => True) (by kernel_rfl) (by kernel_rfl) (by kernel_rfl) (fun _ _ _ _ h _ => h) (Below.refl _ _).drew ?_ ?_
    · refine OpsOk.cons ?o0 (OpsOk.cons ?o1 (OpsOk.cons ?o2 (OpsOk.cons ?o3 (OpsOk.cons ?o4 (OpsOk.cons ?o5 (OpsOk.cons ?o6 (OpsOk.cons ?o7 (OpsOk.cons ?o8 (OpsOk.cons ?o9 (OpsOk.cons ?o10 OpsOk.nil))))))))))
      case o0 =>
        intro a w1 K hG need old hsz hK
        have e0 : a.tmps[2]?.getD undef = .pointer (some ⟨w.heap.size, 0, none⟩) := by rw [← Array.getD_eq_getD_getElem?]; exact old 2 (by kernel_rfl)
        obtain ⟨k0, k1, k2, k3, k4⟩ := cells5 ((hG.block w.heap.size (lt_size BX.out)).trans BX.out)
        refine op_value (v := .agg #[.int .i64 B, .int .i64 P, .int .i64 S, .int .i64 D, .int .i64 U]) (wanted_none rfl) ?_ (hK _ w1 rfl hG trivial)
        simp [execOp, go_sem, e0, k0, k1, k2, k3, k4]
      case o1 =>
        intro a w1 K hG need old hsz hK
        have e0 : a.tmps[5]?.getD undef = .agg #[.int .i64 B, .int .i64 P, .int .i64 S, .int .i64 D, .int .i64 U] := by rw [← Array.getD_eq_getD_getElem?]; exact need 0 5 (by kernel_rfl) (by kernel_rfl)
        refine op_call (wanted_none rfl) (f := 8) (args := #[.agg #[.int .i64 B, .int .i64 P, .int .i64 S, .int .i64 D, .int .i64 U]]) ?run ((mayp_any B P S D U w1).mono ?post)
        case run => simp [go_sem, e0]
        case post =>
          rintro e w2 ⟨rfl, hb2⟩
          rw [decide_eq_true HM.out]
          exact ⟨_, rfl, hK _ w2 rfl (hG.trans (hb2.mono hG.size)) trivial⟩
      case o2 =>
        intro a w1 K hG need old hsz hK
        have e0 : a.tmps[6]?.getD undef = .bool true := by rw [← Array.getD_eq_getD_getElem?]; exact need 1 6 (by kernel_rfl) (by kernel_rfl)
        refine op_value (v := .bool true) (wanted_none rfl) ?_ (hK _ w1 rfl hG trivial)
        simp [execOp, go_sem, e0]
      case o3 =>
        intro a w1 K hG need old hsz hK
        have e0 : a.tmps[2]?.getD undef = .pointer (some ⟨w.heap.size, 0, none⟩) := by rw [← Array.getD_eq_getD_getElem?]; exact old 2 (by kernel_rfl)
        obtain ⟨k0, k1, k2, k3, k4⟩ := cells5 ((hG.block w.heap.size (lt_size BX.out)).trans BX.out)
        refine op_value (v := .agg #[.int .i64 B, .int .i64 P, .int .i64 S, .int .i64 D, .int .i64 U]) (wanted_of (j := 2) rfl (need 2 7 (by kernel_rfl) (by kernel_rfl))) ?_ (hK _ w1 rfl hG trivial)
        simp [execOp, go_sem, e0, k0, k1, k2, k3, k4]
      case o4 =>
        intro a w1 K hG need old hsz hK
        have e0 : a.tmps[1]?.getD undef = .int .i64 bad := by rw [← Array.getD_eq_getD_getElem?]; exact old 1 (by kernel_rfl)
        refine op_value (v := .int .i64 bad) (wanted_of (j := 2) rfl (need 2 7 (by kernel_rfl) (by kernel_rfl))) ?_ (hK _ w1 rfl hG trivial)
        simp [execOp, go_sem, e0]
      case o5 =>
        intro a w1 K hG need old hsz hK
        have e0 : a.tmps[8]?.getD undef = .agg #[.int .i64 B, .int .i64 P, .int .i64 S, .int .i64 D, .int .i64 U] := by rw [← Array.getD_eq_getD_getElem?]; exact need 3 8 (by kernel_rfl) (by kernel_rfl)
        have e1 : a.tmps[9]?.getD undef = .int .i64 bad := by rw [← Array.getD_eq_getD_getElem?]; exact need 4 9 (by kernel_rfl) (by kernel_rfl)
        refine op_call (wanted_of (j := 2) rfl (need 2 7 (by kernel_rfl) (by kernel_rfl))) (f := 12) (args := #[.agg #[.int .i64 B, .int .i64 P, .int .i64 S, .int .i64 D, .int .i64 U], .int .i64 bad]) ?run ((roomp_any B P S D U bad w1 HBD.out).mono ?post)
        case run => simp [go_sem, e0, e1]
        case post =>
          rintro e w2 ⟨rfl, hb2⟩
          exact ⟨_, rfl, hK _ w2 rfl (hG.trans (hb2.mono hG.size)) trivial⟩
      case o6 =>
        intro a w1 K hG need old hsz hK
        have e0 : a.tmps[2]?.getD undef = .pointer (some ⟨w.heap.size, 0, none⟩) := by rw [← Array.getD_eq_getD_getElem?]; exact old 2 (by kernel_rfl)
        obtain ⟨k0, k1, k2, k3, k4⟩ := cells5 ((hG.block w.heap.size (lt_size BX.out)).trans BX.out)
        refine op_value (v := .agg #[.int .i64 B, .int .i64 P, .int .i64 S, .int .i64 D, .int .i64 U]) (wanted_of (j := 2) rfl (need 2 7 (by kernel_rfl) (by kernel_rfl))) ?_ (hK _ w1 rfl hG trivial)
        simp [execOp, go_sem, e0, k0, k1, k2, k3, k4]
      case o7 =>
        intro a w1 K hG need old hsz hK
        have e0 : a.tmps[11]?.getD undef = .agg #[.int .i64 B, .int .i64 P, .int .i64 S, .int .i64 D, .int .i64 U] := by rw [← Array.getD_eq_getD_getElem?]; exact need 6 11 (by kernel_rfl) (by kernel_rfl)
        refine op_call (wanted_of (j := 2) rfl (need 2 7 (by kernel_rfl) (by kernel_rfl))) (f := 10) (args := #[.agg #[.int .i64 B, .int .i64 P, .int .i64 S, .int .i64 D, .int .i64 U]]) ?run ((needp_any B P S D U w1).mono ?post)
        case run => simp [go_sem, e0]
        case post =>
          rintro e w2 ⟨rfl, hb2⟩
          exact ⟨_, rfl, hK _ w2 rfl (hG.trans (hb2.mono hG.size)) trivial⟩
      case o8 =>
        intro a w1 K hG need old hsz hK
        have e0 : a.tmps[10]?.getD undef = .int .i64 (roomP B P S D U bad) := by rw [← Array.getD_eq_getD_getElem?]; exact need 5 10 (by kernel_rfl) (by kernel_rfl)
        have e1 : a.tmps[12]?.getD undef = .int .i64 (needP B P S D U) := by rw [← Array.getD_eq_getD_getElem?]; exact need 7 12 (by kernel_rfl) (by kernel_rfl)
        refine op_value (v := .bool (decide (needP B P S D U ≤ roomP B P S D U bad))) (wanted_of (j := 2) rfl (need 2 7 (by kernel_rfl) (by kernel_rfl))) ?_ (hK _ w1 rfl hG trivial)
        simp [execOp, go_sem, e0, e1]
      case o9 =>
        intro a w1 K hG need old hsz hK
        have e0 : a.tmps[7]?.getD undef = .bool true := by rw [← Array.getD_eq_getD_getElem?]; exact need 2 7 (by kernel_rfl) (by kernel_rfl)
        have e1 : a.tmps[13]?.getD undef = .bool (decide (needP B P S D U ≤ roomP B P S D U bad)) := by rw [← Array.getD_eq_getD_getElem?]; exact need 8 13 (by kernel_rfl) (by kernel_rfl)
        refine op_value (v := .bool (decide (needP B P S D U ≤ roomP B P S D U bad))) (wanted_none rfl) ?_ (hK _ w1 rfl hG trivial)
        simp [execOp, go_sem, asBool, e0, e1]
      case o10 =>
        intro a w1 K hG need old hsz hK
        have e0 : a.tmps[14]?.getD undef = .bool (decide (needP B P S D U ≤ roomP B P S D U bad)) := by rw [← Array.getD_eq_getD_getElem?]; exact need 9 14 (by kernel_rfl) (by kernel_rfl)
        refine op_value (v := .bool (decide (needP B P S D U ≤ roomP B P S D U bad))) (wanted_none rfl) ?_ (hK _ w1 rfl hG trivial)
        simp [execOp, go_sem, e0]
    · intro a w' hG hde hsz hφ hold
      have hr : a.tmps.getD 4 undef = .bool (decide (needP B P S D U ≤ roomP B P S D U bad)) := hφ 10 4 (by kernel_rfl)
      go_wp2
      refine bodyPost_ret (v := .bool (decide (needP B P S D U ≤ roomP B P S D U bad))) ?_ hde ⟨ret_bool ?_, HB0.out.trans (hG.mono hWs.out)⟩
      · rw [results_tmp (t := 4) rfl, hr]
      · exact fits_dec bad HM.out
  · have HM := Lib.hid hM
    clear hM
    go_enter Try.func14, Try.ntmps14
    go_upto_region 1 with fail
    generalize w.alloc (.cells #[.int .i64 B, .int .i64 P, .int .i64 S, .int .i64 D, .int .i64 U] 23) = W at HB0 BX0 ⊢
    have BX := BX0
    have hWs : Hid (w.heap.size ≤ W.heap.size) := HB0.out.size
    refine region_inv (fun j v _ => v = (match j with | 0 => .agg #[.int .i64 B, .int .i64 P, .int .i64 S, .int .i64 D, .int .i64 U] | 1 => .bool false | 2 => .bool false | 3 => undef | 4 => undef | 5 => undef | 6 => undef | 7 => undef | 8 => undef | 9 => .bool false | 10 => .bool false | _ => undef)) (fun w' => Below W.heap.size W w') (fun _ _ => True) (by kernel_rfl) (by kernel_rfl) (by kernel_rfl) (fun _ _ _ _ h _ => h) (Below.refl _ _).drew ?_ ?_
    · refine OpsOk.cons ?o0 (OpsOk.cons ?o1 (OpsOk.cons ?o2 (OpsOk.cons ?o3 (OpsOk.cons ?o4 (OpsOk.cons ?o5 (OpsOk.cons ?o6 (OpsOk.cons ?o7 (OpsOk.cons ?o8 (OpsOk.cons ?o9 (OpsOk.cons ?o10 OpsOk.nil))))))))))
      case o0 =>
        intro a w1 K hG need old hsz hK
        have e0 : a.tmps[2]?.getD undef = .pointer (some ⟨w.heap.size, 0, none⟩) := by rw [← Array.getD_eq_getD_getElem?]; exact old 2 (by kernel_rfl)
        obtain ⟨k0, k1, k2, k3, k4⟩ := cells5 ((hG.block w.heap.size (lt_size BX.out)).trans BX.out)
        refine op_value (v := .agg #[.int .i64 B, .int .i64 P, .int .i64 S, .int .i64 D, .int .i64 U]) (wanted_none rfl) ?_ (hK _ w1 rfl hG trivial)
        simp [execOp, go_sem, e0, k0, k1, k2, k3, k4]
      case o1 =>
        intro a w1 K hG need old hsz hK
        have e0 : a.tmps[5]?.getD undef = .agg #[.int .i64 B, .int .i64 P, .int .i64 S, .int .i64 D, .int .i64 U] := by rw [← Array.getD_eq_getD_getElem?]; exact need 0 5 (by kernel_rfl) (by kernel_rfl)
        refine op_call (wanted_none rfl) (f := 8) (args := #[.agg #[.int .i64 B, .int .i64 P, .int .i64 S, .int .i64 D, .int .i64 U]]) ?run ((mayp_any B P S D U w1).mono ?post)
        case run => simp [go_sem, e0]
        case post =>
          rintro e w2 ⟨rfl, hb2⟩
          rw [decide_eq_false HM.out]
          exact ⟨_, rfl, hK _ w2 rfl (hG.trans (hb2.mono hG.size)) trivial⟩
      case o2 =>
        intro a w1 K hG need old hsz hK
        have e0 : a.tmps[6]?.getD undef = .bool false := by rw [← Array.getD_eq_getD_getElem?]; exact need 1 6 (by kernel_rfl) (by kernel_rfl)
        refine op_value (v := .bool false) (wanted_none rfl) ?_ (hK _ w1 rfl hG trivial)
        simp [execOp, go_sem, e0]
      case o3 =>
        intro a w1 K hG need old hsz hK
        exact skip_op (j := 2) rfl (need 2 7 (by kernel_rfl) (by kernel_rfl)) (by decide) (hK _ w1 rfl hG trivial)
      case o4 =>
        intro a w1 K hG need old hsz hK
        exact skip_op (j := 2) rfl (need 2 7 (by kernel_rfl) (by kernel_rfl)) (by decide) (hK _ w1 rfl hG trivial)
      case o5 =>
        intro a w1 K hG need old hsz hK
        exact skip_op (j := 2) rfl (need 2 7 (by kernel_rfl) (by kernel_rfl)) (by decide) (hK _ w1 rfl hG trivial)
      case o6 =>
        intro a w1 K hG need old hsz hK
        exact skip_op (j := 2) rfl (need 2 7 (by kernel_rfl) (by kernel_rfl)) (by decide) (hK _ w1 rfl hG trivial)
      case o7 =>
        intro a w1 K hG need old hsz hK
        exact skip_op (j := 2) rfl (need 2 7 (by kernel_rfl) (by kernel_rfl)) (by decide) (hK _ w1 rfl hG trivial)
      case o8 =>
        intro a w1 K hG need old hsz hK
        exact skip_op (j := 2) rfl (need 2 7 (by kernel_rfl) (by kernel_rfl)) (by decide) (hK _ w1 rfl hG trivial)
      case o9 =>
        intro a w1 K hG need old hsz hK
        have e0 : a.tmps[7]?.getD undef = .bool false := by rw [← Array.getD_eq_getD_getElem?]; exact need 2 7 (by kernel_rfl) (by kernel_rfl)
        refine op_value (v := .bool false) (wanted_none rfl) ?_ (hK _ w1 rfl hG trivial)
        simp [execOp, go_sem, asBool, e0]
      case o10 =>
        intro a w1 K hG need old hsz hK
        have e0 : a.tmps[14]?.getD undef = .bool false := by rw [← Array.getD_eq_getD_getElem?]; exact need 9 14 (by kernel_rfl) (by kernel_rfl)
        refine op_value (v := .bool false) (wanted_none rfl) ?_ (hK _ w1 rfl hG trivial)
        simp [execOp, go_sem, e0]
    · intro a w' hG hde hsz hφ hold
      have hr : a.tmps.getD 4 undef = .bool false := hφ 10 4 (by kernel_rfl)
      go_wp2
      refine bodyPost_ret (v := .bool false) ?_ hde ⟨ret_bool ?_, HB0.out.trans (hG.mono hWs.out)⟩
      · rw [results_tmp (t := 4) rfl, hr]
      · exact (decide_eq_false fun h => HM.out h.1).symm
set_option maxRecDepth 100000 in
set_option maxHeartbeats 1000000 in
theorem fitsr_any (B P S D U bad : Int) (w : World) (hbd : (Lit.int .i64 bad).wf = true) :
    Calls Try.prog 15 #[.agg #[.int .i64 B, .int .i64 P, .int .i64 S, .int .i64 D, .int .i64 U], .int .i64 bad] w fun e w' => e = .returned (.bool (decide (FitsP B P S D U bad))) ∧ Below w.heap.size w w' := by
  have HB0 := Lib.hid ((Below.refl w.heap.size w).alloc (Nat.le_refl _) (.cells #[.int .i64 B, .int .i64 P, .int .i64 S, .int .i64 D, .int .i64 U] 23))
  have HBD := Lib.hid hbd
  clear hbd
  have BX0 := Lib.hid (heap_alloc_new w (.cells #[.int .i64 B, .int .i64 P, .int .i64 S, .int .i64 D, .int .i64 U] 23))
  by_cases hM : MayP B P S D U
  · have HM := Lib.hid hM
    clear hM
    by_cases h1 : 0 ≤ bad
    · by_cases h2 : bad ≤ B
      · go_enter Try.func15, Try.ntmps15
        go_upto_region 1 with fail
        generalize w.alloc (.cells #[.int .i64 B, .int .i64 P, .int .i64 S, .int .i64 D, .int .i64 U] 23) = W at HB0 BX0 ⊢
        have BX := BX0
        have hWs : Hid (w.heap.size ≤ W.heap.size) := HB0.out.size
        refine region_inv (fun j v _ => v = (match j with | 0 => .agg #[.int .i64 B, .int .i64 P, .int .i64 S, .int .i64 D, .int .i64 U] | 1 => .bool true | 2 => .bool true | 3 => .int .i64 bad | 4 => .bool true | 5 => .bool true | 6 => .bool true | 7 => .int .i64 bad | 8 => .pointer (some ⟨w.heap.size, 0, none⟩) | 9 => .int .i64 B | 10 => .bool true | 11 => .bool true | 12 => .bool true | 13 => .agg #[.int .i64 B, .int .i64 P, .int .i64 S, .int .i64 D, .int .i64 U] | 14 => .int .i64 bad | 15 => .int .i64 (roomP B P S D U bad) | 16 => .agg #[.int .i64 B, .int .i64 P, .int .i64 S, .int .i64 D, .int .i64 U] | 17 => .int .i64 (needP B P S D U) | 18 => .bool (decide (needP B P S D U ≤ roomP B P S D U bad)) | 19 => .bool (decide (needP B P S D U ≤ roomP B P S D U bad)) | 20 => .bool (decide (needP B P S D U ≤ roomP B P S D U bad)) | _ => undef)) (fun w' => Below W.heap.size W w') (fun _ _ => True) (by kernel_rfl) (by kernel_rfl) (by kernel_rfl) (fun _ _ _ _ h _ => h) (Below.refl _ _).drew ?_ ?_
        · refine OpsOk.cons ?o0 (OpsOk.cons ?o1 (OpsOk.cons ?o2 (OpsOk.cons ?o3 (OpsOk.cons ?o4 (OpsOk.cons ?o5 (OpsOk.cons ?o6 (OpsOk.cons ?o7 (OpsOk.cons ?o8 (OpsOk.cons ?o9 (OpsOk.cons ?o10 (OpsOk.cons ?o11 (OpsOk.cons ?o12 (OpsOk.cons ?o13 (OpsOk.cons ?o14 (OpsOk.cons ?o15 (OpsOk.cons ?o16 (OpsOk.cons ?o17 (OpsOk.cons ?o18 (OpsOk.cons ?o19 (OpsOk.cons ?o20 OpsOk.nil))))))))))))))))))))
          case o0 =>
            intro a w1 K hG need old hsz hK
            have e0 : a.tmps[2]?.getD undef = .pointer (some ⟨w.heap.size, 0, none⟩) := by rw [← Array.getD_eq_getD_getElem?]; exact old 2 (by kernel_rfl)
            obtain ⟨k0, k1, k2, k3, k4⟩ := cells5 ((hG.block w.heap.size (lt_size BX.out)).trans BX.out)
            refine op_value (v := .agg #[.int .i64 B, .int .i64 P, .int .i64 S, .int .i64 D, .int .i64 U]) (wanted_none rfl) ?_ (hK _ w1 rfl hG trivial)
            simp [execOp, go_sem, e0, k0, k1, k2, k3, k4]
          case o1 =>
            intro a w1 K hG need old hsz hK
            have e0 : a.tmps[5]?.getD undef = .agg #[.int .i64 B, .int .i64 P, .int .i64 S, .int .i64 D, .int .i64 U] := by rw [← Array.getD_eq_getD_getElem?]; exact need 0 5 (by kernel_rfl) (by kernel_rfl)
            refine op_call (wanted_none rfl) (f := 9) (args := #[.agg #[.int .i64 B, .int .i64 P, .int .i64 S, .int .i64 D, .int .i64 U]]) ?run ((mayr_any B P S D U w1).mono ?post)
            case run => simp [go_sem, e0]
            case post =>
              rintro e w2 ⟨rfl, hb2⟩
              rw [decide_eq_true HM.out]
              exact ⟨_, rfl, hK _ w2 rfl (hG.trans (hb2.mono hG.size)) trivial⟩
          case o2 =>
            intro a w1 K hG need old hsz hK
            have e0 : a.tmps[6]?.getD undef = .bool true := by rw [← Array.getD_eq_getD_getElem?]; exact need 1 6 (by kernel_rfl) (by kernel_rfl)
            refine op_value (v := .bool true) (wanted_none rfl) ?_ (hK _ w1 rfl hG trivial)
            simp [execOp, go_sem, e0]
          case o3 =>
            intro a w1 K hG need old hsz hK
            have e0 : a.tmps[1]?.getD undef = .int .i64 bad := by rw [← Array.getD_eq_getD_getElem?]; exact old 1 (by kernel_rfl)
            refine op_value (v := .int .i64 bad) (wanted_of (j := 2) rfl (need 2 7 (by kernel_rfl) (by kernel_rfl))) ?_ (hK _ w1 rfl hG trivial)
            simp [execOp, go_sem, e0]
          case o4 =>
            intro a w1 K hG need old hsz hK
            have e0 : a.tmps[8]?.getD undef = .int .i64 bad := by rw [← Array.getD_eq_getD_getElem?]; exact need 3 8 (by kernel_rfl) (by kernel_rfl)
            refine op_value (v := .bool true) (wanted_of (j := 2) rfl (need 2 7 (by kernel_rfl) (by kernel_rfl))) ?_ (hK _ w1 rfl hG trivial)
            simp [execOp, go_sem, e0]; omega
          case o5 =>
            intro a w1 K hG need old hsz hK
            have e0 : a.tmps[7]?.getD undef = .bool true := by rw [← Array.getD_eq_getD_getElem?]; exact need 2 7 (by kernel_rfl) (by kernel_rfl)
            have e1 : a.tmps[9]?.getD undef = .bool true := by rw [← Array.getD_eq_getD_getElem?]; exact need 4 9 (by kernel_rfl) (by kernel_rfl)
            refine op_value (v := .bool true) (wanted_none rfl) ?_ (hK _ w1 rfl hG trivial)
            simp [execOp, go_sem, asBool, e0, e1]
          case o6 =>
            intro a w1 K hG need old hsz hK
            have e0 : a.tmps[10]?.getD undef = .bool true := by rw [← Array.getD_eq_getD_getElem?]; exact need 5 10 (by kernel_rfl) (by kernel_rfl)
            refine op_value (v := .bool true) (wanted_none rfl) ?_ (hK _ w1 rfl hG trivial)
            simp [execOp, go_sem, e0]
          case o7 =>
            intro a w1 K hG need old hsz hK
            have e0 : a.tmps[1]?.getD undef = .int .i64 bad := by rw [← Array.getD_eq_getD_getElem?]; exact old 1 (by kernel_rfl)
            refine op_value (v := .int .i64 bad) (wanted_of (j := 6) rfl (need 6 11 (by kernel_rfl) (by kernel_rfl))) ?_ (hK _ w1 rfl hG trivial)
            simp [execOp, go_sem, e0]
          case o8 =>
            intro a w1 K hG need old hsz hK
            have e0 : a.tmps[2]?.getD undef = .pointer (some ⟨w.heap.size, 0, none⟩) := by rw [← Array.getD_eq_getD_getElem?]; exact old 2 (by kernel_rfl)
            refine op_value (v := .pointer (some ⟨w.heap.size, 0, none⟩)) (wanted_of (j := 6) rfl (need 6 11 (by kernel_rfl) (by kernel_rfl))) ?_ (hK _ w1 rfl hG trivial)
            simp [execOp, go_sem, e0]
          case o9 =>
            intro a w1 K hG need old hsz hK
            have e0 : a.tmps[13]?.getD undef = .pointer (some ⟨w.heap.size, 0, none⟩) := by rw [← Array.getD_eq_getD_getElem?]; exact need 8 13 (by kernel_rfl) (by kernel_rfl)
            have k0 := (cells5 ((hG.block w.heap.size (lt_size BX.out)).trans BX.out)).1
            refine op_value (v := .int .i64 B) (wanted_of (j := 6) rfl (need 6 11 (by kernel_rfl) (by kernel_rfl))) ?_ (hK _ w1 rfl hG trivial)
            simp [execOp, go_sem, e0, k0]
          case o10 =>
            intro a w1 K hG need old hsz hK
            have e0 : a.tmps[12]?.getD undef = .int .i64 bad := by rw [← Array.getD_eq_getD_getElem?]; exact need 7 12 (by kernel_rfl) (by kernel_rfl)
            have e1 : a.tmps[14]?.getD undef = .int .i64 B := by rw [← Array.getD_eq_getD_getElem?]; exact need 9 14 (by kernel_rfl) (by kernel_rfl)
            refine op_value (v := .bool true) (wanted_of (j := 6) rfl (need 6 11 (by kernel_rfl) (by kernel_rfl))) ?_ (hK _ w1 rfl hG trivial)
            simp [execOp, go_sem, e0, e1]; omega
          case o11 =>
            intro a w1 K hG need old hsz hK
            have e0 : a.tmps[11]?.getD undef = .bool true := by rw [← Array.getD_eq_getD_getElem?]; exact need 6 11 (by kernel_rfl) (by kernel_rfl)
            have e1 : a.tmps[15]?.getD undef = .bool true := by rw [← Array.getD_eq_getD_getElem?]; exact need 10 15 (by kernel_rfl) (by kernel_rfl)
            refine op_value (v := .bool true) (wanted_none rfl) ?_ (hK _ w1 rfl hG trivial)
            simp [execOp, go_sem, asBool, e0, e1]
          case o12 =>
            intro a w1 K hG need old hsz hK
            have e0 : a.tmps[16]?.getD undef = .bool true := by rw [← Array.getD_eq_getD_getElem?]; exact need 11 16 (by kernel_rfl) (by kernel_rfl)
            refine op_value (v := .bool true) (wanted_none rfl) ?_ (hK _ w1 rfl hG trivial)
            simp [execOp, go_sem, e0]
          case o13 =>
            intro a w1 K hG need old hsz hK
            have e0 : a.tmps[2]?.getD undef = .pointer (some ⟨w.heap.size, 0, none⟩) := by rw [← Array.getD_eq_getD_getElem?]; exact old 2 (by kernel_rfl)
            obtain ⟨k0, k1, k2, k3, k4⟩ := cells5 ((hG.block w.heap.size (lt_size BX.out)).trans BX.out)
            refine op_value (v := .agg #[.int .i64 B, .int .i64 P, .int .i64 S, .int .i64 D, .int .i64 U]) (wanted_of (j := 12) rfl (need 12 17 (by kernel_rfl) (by kernel_rfl))) ?_ (hK _ w1 rfl hG trivial)
            simp [execOp, go_sem, e0, k0, k1, k2, k3, k4]
          case o14 =>
            intro a w1 K hG need old hsz hK
            have e0 : a.tmps[1]?.getD undef = .int .i64 bad := by rw [← Array.getD_eq_getD_getElem?]; exact old 1 (by kernel_rfl)
            refine op_value (v := .int .i64 bad) (wanted_of (j := 12) rfl (need 12 17 (by kernel_rfl) (by kernel_rfl))) ?_ (hK _ w1 rfl hG trivial)
            simp [execOp, go_sem, e0]
          case o15 =>
            intro a w1 K hG need old hsz hK
            have e0 : a.tmps[18]?.getD undef = .agg #[.int .i64 B, .int .i64 P, .int .i64 S, .int .i64 D, .int .i64 U] := by rw [← Array.getD_eq_getD_getElem?]; exact need 13 18 (by kernel_rfl) (by kernel_rfl)
            have e1 : a.tmps[19]?.getD undef = .int .i64 bad := by rw [← Array.getD_eq_getD_getElem?]; exact need 14 19 (by kernel_rfl) (by kernel_rfl)
            refine op_call (wanted_of (j := 12) rfl (need 12 17 (by kernel_rfl) (by kernel_rfl))) (f := 13) (args := #[.agg #[.int .i64 B, .int .i64 P, .int .i64 S, .int .i64 D, .int .i64 U], .int .i64 bad]) ?run ((roomr_any B P S D U bad w1 HBD.out).mono ?post)
            case run => simp [go_sem, e0, e1]
            case post =>
              rintro e w2 ⟨rfl, hb2⟩
              exact ⟨_, rfl, hK _ w2 rfl (hG.trans (hb2.mono hG.size)) trivial⟩
          case o16 =>
            intro a w1 K hG need old hsz hK
            have e0 : a.tmps[2]?.getD undef = .pointer (some ⟨w.heap.size, 0, none⟩) := by rw [← Array.getD_eq_getD_getElem?]; exact old 2 (by kernel_rfl)
            obtain ⟨k0, k1, k2, k3, k4⟩ := cells5 ((hG.block w.heap.size (lt_size BX.out)).trans BX.out)
            refine op_value (v := .agg #[.int .i64 B, .int .i64 P, .int .i64 S, .int .i64 D, .int .i64 U]) (wanted_of (j := 12) rfl (need 12 17 (by kernel_rfl) (by kernel_rfl))) ?_ (hK _ w1 rfl hG trivial)
            simp [execOp, go_sem, e0, k0, k1, k2, k3, k4]
          case o17 =>
            intro a w1 K hG need old hsz hK
            have e0 : a.tmps[21]?.getD undef = .agg #[.int .i64 B, .int .i64 P, .int .i64 S, .int .i64 D, .int .i64 U] := by rw [← Array.getD_eq_getD_getElem?]; exact need 16 21 (by kernel_rfl) (by kernel_rfl)
            refine op_call (wanted_of (j := 12) rfl (need 12 17 (by kernel_rfl) (by kernel_rfl))) (f := 11) (args := #[.agg #[.int .i64 B, .int .i64 P, .int .i64 S, .int .i64 D, .int .i64 U]]) ?run ((needr_any B P S D U w1).mono ?post)
            case run => simp [go_sem, e0]
            case post =>
              rintro e w2 ⟨rfl, hb2⟩
              exact ⟨_, rfl, hK _ w2 rfl (hG.trans (hb2.mono hG.size)) trivial⟩
          case o18 =>
            intro a w1 K hG need old hsz hK
            have e0 : a.tmps[20]?.getD undef = .int .i64 (roomP B P S D U bad) := by rw [← Array.getD_eq_getD_getElem?]; exact need 15 20 (by kernel_rfl) (by kernel_rfl)
            have e1 : a.tmps[22]?.getD undef = .int .i64 (needP B P S D U) := by rw [← Array.getD_eq_getD_getElem?]; exact need 17 22 (by kernel_rfl) (by kernel_rfl)
            refine op_value (v := .bool (decide (needP B P S D U ≤ roomP B P S D U bad))) (wanted_of (j := 12) rfl (need 12 17 (by kernel_rfl) (by kernel_rfl))) ?_ (hK _ w1 rfl hG trivial)
            simp [execOp, go_sem, e0, e1]
          case o19 =>
            intro a w1 K hG need old hsz hK
            have e0 : a.tmps[17]?.getD undef = .bool true := by rw [← Array.getD_eq_getD_getElem?]; exact need 12 17 (by kernel_rfl) (by kernel_rfl)
            have e1 : a.tmps[23]?.getD undef = .bool (decide (needP B P S D U ≤ roomP B P S D U bad)) := by rw [← Array.getD_eq_getD_getElem?]; exact need 18 23 (by kernel_rfl) (by kernel_rfl)
            refine op_value (v := .bool (decide (needP B P S D U ≤ roomP B P S D U bad))) (wanted_none rfl) ?_ (hK _ w1 rfl hG trivial)
            simp [execOp, go_sem, asBool, e0, e1]
          case o20 =>
            intro a w1 K hG need old hsz hK
            have e0 : a.tmps[24]?.getD undef = .bool (decide (needP B P S D U ≤ roomP B P S D U bad)) := by rw [← Array.getD_eq_getD_getElem?]; exact need 19 24 (by kernel_rfl) (by kernel_rfl)
            refine op_value (v := .bool (decide (needP B P S D U ≤ roomP B P S D U bad))) (wanted_none rfl) ?_ (hK _ w1 rfl hG trivial)
            simp [execOp, go_sem, e0]
        · intro a w' hG hde hsz hφ hold
          have hr : a.tmps.getD 4 undef = .bool (decide (needP B P S D U ≤ roomP B P S D U bad)) := hφ 20 4 (by kernel_rfl)
          go_wp2
          refine bodyPost_ret (v := .bool (decide (needP B P S D U ≤ roomP B P S D U bad))) ?_ hde ⟨ret_bool ?_, HB0.out.trans (hG.mono hWs.out)⟩
          · rw [results_tmp (t := 4) rfl, hr]
          · exact fits_dec bad HM.out
      · go_enter Try.func15, Try.ntmps15
        go_upto_region 1 with fail
        generalize w.alloc (.cells #[.int .i64 B, .int .i64 P, .int .i64 S, .int .i64 D, .int .i64 U] 23) = W at HB0 BX0 ⊢
        have BX := BX0
        have hWs : Hid (w.heap.size ≤ W.heap.size) := HB0.out.size
        refine region_inv (fun j v _ => v = (match j with | 0 => .agg #[.int .i64 B, .int .i64 P, .int .i64 S, .int .i64 D, .int .i64 U] | 1 => .bool true | 2 => .bool true | 3 => .int .i64 bad | 4 => .bool true | 5 => .bool true | 6 => .bool true | 7 => .int .i64 bad | 8 => .pointer (some ⟨w.heap.size, 0, none⟩) | 9 => .int .i64 B | 10 => .bool false | 11 => .bool false | 12 => .bool false | 13 => undef | 14 => undef | 15 => undef | 16 => undef | 17 => undef | 18 => undef | 19 => .bool false | 20 => .bool false | _ => undef)) (fun w' => Below W.heap.size W w') (fun _ _ => True) (by kernel_rfl) (by kernel_rfl) (by kernel_rfl) (fun _ _ _ _ h _ => h) (Below.refl _ _).drew ?_ ?_
        · refine OpsOk.cons ?o0 (OpsOk.cons ?o1 (OpsOk.cons ?o2 (OpsOk.cons ?o3 (OpsOk.cons ?o4 (OpsOk.cons ?o5 (OpsOk.cons ?o6 (OpsOk.cons ?o7 (OpsOk.cons ?o8 (OpsOk.cons ?o9 (OpsOk.cons ?o10 (OpsOk.cons ?o11 (OpsOk.cons ?o12 (OpsOk.cons ?o13 (OpsOk.cons ?o14 (OpsOk.cons ?o15 (OpsOk.cons ?o16 (OpsOk.cons ?o17 (OpsOk.cons ?o18 (OpsOk.cons ?o19 (OpsOk.cons ?o20 OpsOk.nil))))))))))))))))))))
          case o0 =>
            intro a w1 K hG need old hsz hK
            have e0 : a.tmps[2]?.getD undef = .pointer (some ⟨w.heap.size, 0, none⟩) := by rw [← Array.getD_eq_getD_getElem?]; exact old 2 (by kernel_rfl)
            obtain ⟨k0, k1, k2, k3, k4⟩ := cells5 ((hG.block w.heap.size (lt_size BX.out)).trans BX.out)
            refine op_value (v := .agg #[.int .i64 B, .int .i64 P, .int .i64 S, .int .i64 D, .int .i64 U]) (wanted_none rfl) ?_ (hK _ w1 rfl hG trivial)
            simp [execOp, go_sem, e0, k0, k1, k2, k3, k4]
          case o1 =>
            intro a w1 K hG need old hsz hK
            have e0 : a.tmps[5]?.getD undef = .agg #[.int .i64 B, .int .i64 P, .int .i64 S, .int .i64 D, .int .i64 U] := by rw [← Array.getD_eq_getD_getElem?]; exact need 0 5 (by kernel_rfl) (by kernel_rfl)
            refine op_call (wanted_none rfl) (f := 9) (args := #[.agg #[.int .i64 B, .int .i64 P, .int .i64 S, .int .i64 D, .int .i64 U]]) ?run ((mayr_any B P S D U w1).mono ?post)
            case run => simp [go_sem, e0]
            case post =>
              rintro e w2 ⟨rfl, hb2⟩
              rw [decide_eq_true HM.out]
              exact ⟨_, rfl, hK _ w2 rfl (hG.trans (hb2.mono hG.size)) trivial⟩
          case o2 =>
            intro a w1 K hG need old hsz hK
            have e0 : a.tmps[6]?.getD undef = .bool true := by rw [← Array.getD_eq_getD_getElem?]; exact need 1 6 (by kernel_rfl) (by kernel_rfl)
            refine op_value (v := .bool true) (wanted_none rfl) ?_ (hK _ w1 rfl hG trivial)
            simp [execOp, go_sem, e0]
          case o3 =>
            intro a w1 K hG need old hsz hK
            have e0 : a.tmps[1]?.getD undef = .int .i64 bad := by rw [← Array.getD_eq_getD_getElem?]; exact old 1 (by kernel_rfl)
            refine op_value (v := .int .i64 bad) (wanted_of (j := 2) rfl (need 2 7 (by kernel_rfl) (by kernel_rfl))) ?_ (hK _ w1 rfl hG trivial)
            simp [execOp, go_sem, e0]
          case o4 =>
            intro a w1 K hG need old hsz hK
            have e0 : a.tmps[8]?.getD undef = .int .i64 bad := by rw [← Array.getD_eq_getD_getElem?]; exact need 3 8 (by kernel_rfl) (by kernel_rfl)
            refine op_value (v := .bool true) (wanted_of (j := 2) rfl (need 2 7 (by kernel_rfl) (by kernel_rfl))) ?_ (hK _ w1 rfl hG trivial)
            simp [execOp, go_sem, e0]; omega
          case o5 =>
            intro a w1 K hG need old hsz hK
            have e0 : a.tmps[7]?.getD undef = .bool true := by rw [← Array.getD_eq_getD_getElem?]; exact need 2 7 (by kernel_rfl) (by kernel_rfl)
            have e1 : a.tmps[9]?.getD undef = .bool true := by rw [← Array.getD_eq_getD_getElem?]; exact need 4 9 (by kernel_rfl) (by kernel_rfl)
            refine op_value (v := .bool true) (wanted_none rfl) ?_ (hK _ w1 rfl hG trivial)
            simp [execOp, go_sem, asBool, e0, e1]
          case o6 =>
            intro a w1 K hG need old hsz hK
            have e0 : a.tmps[10]?.getD undef = .bool true := by rw [← Array.getD_eq_getD_getElem?]; exact need 5 10 (by kernel_rfl) (by kernel_rfl)
            refine op_value (v := .bool true) (wanted_none rfl) ?_ (hK _ w1 rfl hG trivial)
            simp [execOp, go_sem, e0]
          case o7 =>
            intro a w1 K hG need old hsz hK
            have e0 : a.tmps[1]?.getD undef = .int .i64 bad := by rw [← Array.getD_eq_getD_getElem?]; exact old 1 (by kernel_rfl)
            refine op_value (v := .int .i64 bad) (wanted_of (j := 6) rfl (need 6 11 (by kernel_rfl) (by kernel_rfl))) ?_ (hK _ w1 rfl hG trivial)
            simp [execOp, go_sem, e0]
          case o8 =>
            intro a w1 K hG need old hsz hK
            have e0 : a.tmps[2]?.getD undef = .pointer (some ⟨w.heap.size, 0, none⟩) := by rw [← Array.getD_eq_getD_getElem?]; exact old 2 (by kernel_rfl)
            refine op_value (v := .pointer (some ⟨w.heap.size, 0, none⟩)) (wanted_of (j := 6) rfl (need 6 11 (by kernel_rfl) (by kernel_rfl))) ?_ (hK _ w1 rfl hG trivial)
            simp [execOp, go_sem, e0]
          case o9 =>
            intro a w1 K hG need old hsz hK
            have e0 : a.tmps[13]?.getD undef = .pointer (some ⟨w.heap.size, 0, none⟩) := by rw [← Array.getD_eq_getD_getElem?]; exact need 8 13 (by kernel_rfl) (by kernel_rfl)
            have k0 := (cells5 ((hG.block w.heap.size (lt_size BX.out)).trans BX.out)).1
            refine op_value (v := .int .i64 B) (wanted_of (j := 6) rfl (need 6 11 (by kernel_rfl) (by kernel_rfl))) ?_ (hK _ w1 rfl hG trivial)
            simp [execOp, go_sem, e0, k0]
          case o10 =>
            intro a w1 K hG need old hsz hK
            have e0 : a.tmps[12]?.getD undef = .int .i64 bad := by rw [← Array.getD_eq_getD_getElem?]; exact need 7 12 (by kernel_rfl) (by kernel_rfl)
            have e1 : a.tmps[14]?.getD undef = .int .i64 B := by rw [← Array.getD_eq_getD_getElem?]; exact need 9 14 (by kernel_rfl) (by kernel_rfl)
            refine op_value (v := .bool false) (wanted_of (j := 6) rfl (need 6 11 (by kernel_rfl) (by kernel_rfl))) ?_ (hK _ w1 rfl hG trivial)
            simp [execOp, go_sem, e0, e1]; omega
          case o11 =>
            intro a w1 K hG need old hsz hK
            have e0 : a.tmps[11]?.getD undef = .bool true := by rw [← Array.getD_eq_getD_getElem?]; exact need 6 11 (by kernel_rfl) (by kernel_rfl)
            have e1 : a.tmps[15]?.getD undef = .bool false := by rw [← Array.getD_eq_getD_getElem?]; exact need 10 15 (by kernel_rfl) (by kernel_rfl)
            refine op_value (v := .bool false) (wanted_none rfl) ?_ (hK _ w1 rfl hG trivial)
            simp [execOp, go_sem, asBool, e0, e1]
          case o12 =>
            intro a w1 K hG need old hsz hK
            have e0 : a.tmps[16]?.getD undef = .bool false := by rw [← Array.getD_eq_getD_getElem?]; exact need 11 16 (by kernel_rfl) (by kernel_rfl)
            refine op_value (v := .bool false) (wanted_none rfl) ?_ (hK _ w1 rfl hG trivial)
            simp [execOp, go_sem, e0]
          case o13 =>
            intro a w1 K hG need old hsz hK
            exact skip_op (j := 12) rfl (need 12 17 (by kernel_rfl) (by kernel_rfl)) (by decide) (hK _ w1 rfl hG trivial)
          case o14 =>
            intro a w1 K hG need old hsz hK
            exact skip_op (j := 12) rfl (need 12 17 (by kernel_rfl) (by kernel_rfl)) (by decide) (hK _ w1 rfl hG trivial)
          case o15 =>
            intro a w1 K hG need old hsz hK
            exact skip_op (j := 12) rfl (need 12 17 (by kernel_rfl) (by kernel_rfl)) (by decide) (hK _ w1 rfl hG trivial)
          case o16 =>
            intro a w1 K hG need old hsz hK
            exact skip_op (j := 12) rfl (need 12 17 (by kernel_rfl) (by kernel_rfl)) (by decide) (hK _ w1 rfl hG trivial)
          case o17 =>
            intro a w1 K hG need old hsz hK
            exact skip_op (j := 12) rfl (need 12 17 (by kernel_rfl) (by kernel_rfl)) (by decide) (hK _ w1 rfl hG trivial)
          case o18 =>
            intro a w1 K hG need old hsz hK
            exact skip_op (j := 12) rfl (need 12 17 (by kernel_rfl) (by kernel_rfl)) (by decide) (hK _ w1 rfl hG trivial)
          case o19 =>
            intro a w1 K hG need old hsz hK
            have e0 : a.tmps[17]?.getD undef = .bool false := by rw [← Array.getD_eq_getD_getElem?]; exact need 12 17 (by kernel_rfl) (by kernel_rfl)
            refine op_value (v := .bool false) (wanted_none rfl) ?_ (hK _ w1 rfl hG trivial)
            simp [execOp, go_sem, asBool, e0]
          case o20 =>
            intro a w1 K hG need old hsz hK
            have e0 : a.tmps[24]?.getD undef = .bool false := by rw [← Array.getD_eq_getD_getElem?]; exact need 19 24 (by kernel_rfl) (by kernel_rfl)
            refine op_value (v := .bool false) (wanted_none rfl) ?_ (hK _ w1 rfl hG trivial)
            simp [execOp, go_sem, e0]
        · intro a w' hG hde hsz hφ hold
          have hr : a.tmps.getD 4 undef = .bool false := hφ 20 4 (by kernel_rfl)
          go_wp2
          refine bodyPost_ret (v := .bool false) ?_ hde ⟨ret_bool ?_, HB0.out.trans (hG.mono hWs.out)⟩
          · rw [results_tmp (t := 4) rfl, hr]
          · exact (decide_eq_false fun h => by have := h.2.1; omega).symm
    · go_enter Try.func15, Try.ntmps15
      go_upto_region 1 with fail
      generalize w.alloc (.cells #[.int .i64 B, .int .i64 P, .int .i64 S, .int .i64 D, .int .i64 U] 23) = W at HB0 BX0 ⊢
      have BX := BX0
      have hWs : Hid (w.heap.size ≤ W.heap.size) := HB0.out.size
      refine region_inv (fun j v _ => v = (match j with | 0 => .agg #[.int .i64 B, .int .i64 P, .int .i64 S, .int .i64 D, .int .i64 U] | 1 => .bool true | 2 => .bool true | 3 => .int .i64 bad | 4 => .bool false | 5 => .bool false | 6 => .bool false | 7 => undef | 8 => undef | 9 => undef | 10 => undef | 11 => .bool false | 12 => .bool false | 13 => undef | 14 => undef | 15 => undef | 16 => undef | 17 => undef | 18 => undef | 19 => .bool false | 20 => .bool false | _ => undef)) (fun w' => Below W.heap.size W w') (fun _ _ => True) (by kernel_rfl) (by kernel_rfl) (by kernel_rfl) (fun _ _ _ _ h _ => h) (Below.refl _ _).drew ?_ ?_
      · refine OpsOk.cons ?o0 (OpsOk.cons ?o1 (OpsOk.cons ?o2 (OpsOk.cons ?o3 (OpsOk.cons ?o4 (OpsOk.cons ?o5 (OpsOk.cons ?o6 (OpsOk.cons ?o7 (OpsOk.cons ?o8 (OpsOk.cons ?o9 (OpsOk.cons ?o10 (OpsOk.cons ?o11 (OpsOk.cons ?o12 (OpsOk.cons ?o13 (OpsOk.cons ?o14 (OpsOk.cons ?o15 (OpsOk.cons ?o16 (OpsOk.cons ?o17 (OpsOk.cons ?o18 (OpsOk.cons ?o19 (OpsOk.cons ?o20 OpsOk.nil))))))))))))))))))))
        case o0 =>
          intro a w1 K hG need old hsz hK
          have e0 : a.tmps[2]?.getD undef = .pointer (some ⟨w.heap.size, 0, none⟩) := by rw [← Array.getD_eq_getD_getElem?]; exact old 2 (by kernel_rfl)
          obtain ⟨k0, k1, k2, k3, k4⟩ := cells5 ((hG.block w.heap.size (lt_size BX.out)).trans BX.out)
          refine op_value (v := .agg #[.int .i64 B, .int .i64 P, .int .i64 S, .int .i64 D, .int .i64 U]) (wanted_none rfl) ?_ (hK _ w1 rfl hG trivial)
          simp [execOp, go_sem, e0, k0, k1, k2, k3, k4]
        case o1 =>
          intro a w1 K hG need old hsz hK
          have e0 : a.tmps[5]?.getD undef = .agg #[.int .i64 B, .int .i64 P, .int .i64 S, .int .i64 D, .int .i64 U] := by rw [← Array.getD_eq_getD_getElem?]; exact need 0 5 (by kernel_rfl) (by kernel_rfl)
          refine op_call (wanted_none rfl) (f := 9) (args := #[.agg #[.int .i64 B, .int .i64 P, .int .i64 S, .int .i64 D, .int .i64 U]]) ?run ((mayr_any B P S D U w1).mono ?post)
          case run => simp [go_sem, e0]
          case post =>
            rintro e w2 ⟨rfl, hb2⟩
            rw [decide_eq_true HM.out]
            exact ⟨_, rfl, hK _ w2 rfl (hG.trans (hb2.mono hG.size)) trivial⟩
        case o2 =>
          intro a w1 K hG need old hsz hK
          have e0 : a.tmps[6]?.getD undef = .bool true := by rw [← Array.getD_eq_getD_getElem?]; exact need 1 6 (by kernel_rfl) (by kernel_rfl)
          refine op_value (v := .bool true) (wanted_none rfl) ?_ (hK _ w1 rfl hG trivial)
          simp [execOp, go_sem, e0]
        case o3 =>
          intro a w1 K hG need old hsz hK
          have e0 : a.tmps[1]?.getD undef = .int .i64 bad := by rw [← Array.getD_eq_getD_getElem?]; exact old 1 (by kernel_rfl)
          refine op_value (v := .int .i64 bad) (wanted_of (j := 2) rfl (need 2 7 (by kernel_rfl) (by kernel_rfl))) ?_ (hK _ w1 rfl hG trivial)
          simp [execOp, go_sem, e0]
        case o4 =>
          intro a w1 K hG need old hsz hK
          have e0 : a.tmps[8]?.getD undef = .int .i64 bad := by rw [← Array.getD_eq_getD_getElem?]; exact need 3 8 (by kernel_rfl) (by kernel_rfl)
          refine op_value (v := .bool false) (wanted_of (j := 2) rfl (need 2 7 (by kernel_rfl) (by kernel_rfl))) ?_ (hK _ w1 rfl hG trivial)
          simp [execOp, go_sem, e0]; omega
        case o5 =>
          intro a w1 K hG need old hsz hK
          have e0 : a.tmps[7]?.getD undef = .bool true := by rw [← Array.getD_eq_getD_getElem?]; exact need 2 7 (by kernel_rfl) (by kernel_rfl)
          have e1 : a.tmps[9]?.getD undef = .bool false := by rw [← Array.getD_eq_getD_getElem?]; exact need 4 9 (by kernel_rfl) (by kernel_rfl)
          refine op_value (v := .bool false) (wanted_none rfl) ?_ (hK _ w1 rfl hG trivial)
          simp [execOp, go_sem, asBool, e0, e1]
        case o6 =>
          intro a w1 K hG need old hsz hK
          have e0 : a.tmps[10]?.getD undef = .bool false := by rw [← Array.getD_eq_getD_getElem?]; exact need 5 10 (by kernel_rfl) (by kernel_rfl)
          refine op_value (v := .bool false) (wanted_none rfl) ?_ (hK _ w1 rfl hG trivial)
          simp [execOp, go_sem, e0]
        case o7 =>
          intro a w1 K hG need old hsz hK
          exact skip_op (j := 6) rfl (need 6 11 (by kernel_rfl) (by kernel_rfl)) (by decide) (hK _ w1 rfl hG trivial)
        case o8 =>
          intro a w1 K hG need old hsz hK
          exact skip_op (j := 6) rfl (need 6 11 (by kernel_rfl) (by kernel_rfl)) (by decide) (hK _ w1 rfl hG trivial)
        case o9 =>
          intro a w1 K hG need old hsz hK
          exact skip_op (j := 6) rfl (need 6 11 (by kernel_rfl) (by kernel_rfl)) (by decide) (hK _ w1 rfl hG trivial)
        case o10 =>
          intro a w1 K hG need old hsz hK
          exact skip_op (j := 6) rfl (need 6 11 (by kernel_rfl) (by kernel_rfl)) (by decide) (hK _ w1 rfl hG trivial)
        case o11 =>
          intro a w1 K hG need old hsz hK
          have e0 : a.tmps[11]?.getD undef = .bool false := by rw [← Array.getD_eq_getD_getElem?]; exact need 6 11 (by kernel_rfl) (by kernel_rfl)
          refine op_value (v := .bool false) (wanted_none rfl) ?_ (hK _ w1 rfl hG trivial)
          simp [execOp, go_sem, asBool, e0]
        case o12 =>
          intro a w1 K hG need old hsz hK
          have e0 : a.tmps[16]?.getD undef = .bool false := by rw [← Array.getD_eq_getD_getElem?]; exact need 11 16 (by kernel_rfl) (by kernel_rfl)
          refine op_value (v := .bool false) (wanted_none rfl) ?_ (hK _ w1 rfl hG trivial)
          simp [execOp, go_sem, e0]
        case o13 =>
          intro a w1 K hG need old hsz hK
          exact skip_op (j := 12) rfl (need 12 17 (by kernel_rfl) (by kernel_rfl)) (by decide) (hK _ w1 rfl hG trivial)
        case o14 =>
          intro a w1 K hG need old hsz hK
          exact skip_op (j := 12) rfl (need 12 17 (by kernel_rfl) (by kernel_rfl)) (by decide) (hK _ w1 rfl hG trivial)
        case o15 =>
          intro a w1 K hG need old hsz hK
          exact skip_op (j := 12) rfl (need 12 17 (by kernel_rfl) (by kernel_rfl)) (by decide) (hK _ w1 rfl hG trivial)
        case o16 =>
          intro a w1 K hG need old hsz hK
          exact skip_op (j := 12) rfl (need 12 17 (by kernel_rfl) (by kernel_rfl)) (by decide) (hK _ w1 rfl hG trivial)
        case o17 =>
          intro a w1 K hG need old hsz hK
          exact skip_op (j := 12) rfl (need 12 17 (by kernel_rfl) (by kernel_rfl)) (by decide) (hK _ w1 rfl hG trivial)
        case o18 =>
          intro a w1 K hG need old hsz hK
          exact skip_op (j := 12) rfl (need 12 17 (by kernel_rfl) (by kernel_rfl)) (by decide) (hK _ w1 rfl hG trivial)
        case o19 =>
          intro a w1 K hG need old hsz hK
          have e0 : a.tmps[17]?.getD undef = .bool false := by rw [← Array.getD_eq_getD_getElem?]; exact need 12 17 (by kernel_rfl) (by kernel_rfl)
          refine op_value (v := .bool false) (wanted_none rfl) ?_ (hK _ w1 rfl hG trivial)
          simp [execOp, go_sem, asBool, e0]
        case o20 =>
          intro a w1 K hG need old hsz hK
          have e0 : a.tmps[24]?.getD undef = .bool false := by rw [← Array.getD_eq_getD_getElem?]; exact need 19 24 (by kernel_rfl) (by kernel_rfl)
          refine op_value (v := .bool false) (wanted_none rfl) ?_ (hK _ w1 rfl hG trivial)
          simp [execOp, go_sem, e0]
      · intro a w' hG hde hsz hφ hold
        have hr : a.tmps.getD 4 undef = .bool false := hφ 20 4 (by kernel_rfl)
        go_wp2
        refine bodyPost_ret (v := .bool false) ?_ hde ⟨ret_bool ?_, HB0.out.trans (hG.mono hWs.out)⟩
        · rw [results_tmp (t := 4) rfl, hr]
        · exact (decide_eq_false fun h => by have := h.2.1; omega).symm
  · have HM := Lib.hid hM
    clear hM
    go_enter Try.func15, Try.ntmps15
    go_upto_region 1 with fail
    generalize w.alloc (.cells #[.int .i64 B, .int .i64 P, .int .i64 S, .int .i64 D, .int .i64 U] 23) = W at HB0 BX0 ⊢
    have BX := BX0
    have hWs : Hid (w.heap.size ≤ W.heap.size) := HB0.out.size
    refine region_inv (fun j v _ => v = (match j with | 0 => .agg #[.int .i64 B, .int .i64 P, .int .i64 S, .int .i64 D, .int .i64 U] | 1 => .bool false | 2 => .bool false | 3 => undef | 4 => undef | 5 => .bool false | 6 => .bool false | 7 => undef | 8 => undef | 9 => undef | 10 => undef | 11 => .bool false | 12 => .bool false | 13 => undef | 14 => undef | 15 => undef | 16 => undef | 17 => undef | 18 => undef | 19 => .bool false | 20 => .bool false | _ => undef)) (fun w' => Below W.heap.size W w') (fun _ _ => True) (by kernel_rfl) (by kernel_rfl) (by kernel_rfl) (fun _ _ _ _ h _ => h) (Below.refl _ _).drew ?_ ?_
    · refine OpsOk.cons ?o0 (OpsOk.cons ?o1 (OpsOk.cons ?o2 (OpsOk.cons ?o3 (OpsOk.cons ?o4 (OpsOk.cons ?o5 (OpsOk.cons ?o6 (OpsOk.cons ?o7 (OpsOk.cons ?o8 (OpsOk.cons ?o9 (OpsOk.cons ?o10 (OpsOk.cons ?o11 (OpsOk.cons ?o12 (OpsOk.cons ?o13 (OpsOk.cons ?o14 (OpsOk.cons ?o15 (OpsOk.cons ?o16 (OpsOk.cons ?o17 (OpsOk.cons ?o18 (OpsOk.cons ?o19 (OpsOk.cons ?o20 OpsOk.nil))))))))))))))))))))
      case o0 =>
        intro a w1 K hG need old hsz hK
        have e0 : a.tmps[2]?.getD undef = .pointer (some ⟨w.heap.size, 0, none⟩) := by rw [← Array.getD_eq_getD_getElem?]; exact old 2 (by kernel_rfl)
        obtain ⟨k0, k1, k2, k3, k4⟩ := cells5 ((hG.block w.heap.size (lt_size BX.out)).trans BX.out)
        refine op_value (v := .agg #[.int .i64 B, .int .i64 P, .int .i64 S, .int .i64 D, .int .i64 U]) (wanted_none rfl) ?_ (hK _ w1 rfl hG trivial)
        simp [execOp, go_sem, e0, k0, k1, k2, k3, k4]
      case o1 =>
        intro a w1 K hG need old hsz hK
        have e0 : a.tmps[5]?.getD undef = .agg #[.int .i64 B, .int .i64 P, .int .i64 S, .int .i64 D, .int .i64 U] := by rw [← Array.getD_eq_getD_getElem?]; exact need 0 5 (by kernel_rfl) (by kernel_rfl)
        refine op_call (wanted_none rfl) (f := 9) (args := #[.agg #[.int .i64 B, .int .i64 P, .int .i64 S, .int .i64 D, .int .i64 U]]) ?run ((mayr_any B P S D U w1).mono ?post)
        case run => simp [go_sem, e0]
        case post =>
          rintro e w2 ⟨rfl, hb2⟩
          rw [decide_eq_false HM.out]
          exact ⟨_, rfl, hK _ w2 rfl (hG.trans (hb2.mono hG.size)) trivial⟩
      case o2 =>
        intro a w1 K hG need old hsz hK
        have e0 : a.tmps[6]?.getD undef = .bool false := by rw [← Array.getD_eq_getD_getElem?]; exact need 1 6 (by kernel_rfl) (by kernel_rfl)
        refine op_value (v := .bool false) (wanted_none rfl) ?_ (hK _ w1 rfl hG trivial)
        simp [execOp, go_sem, e0]
      case o3 =>
        intro a w1 K hG need old hsz hK
        exact skip_op (j := 2) rfl (need 2 7 (by kernel_rfl) (by kernel_rfl)) (by decide) (hK _ w1 rfl hG trivial)
      case o4 =>
        intro a w1 K hG need old hsz hK
        exact skip_op (j := 2) rfl (need 2 7 (by kernel_rfl) (by kernel_rfl)) (by decide) (hK _ w1 rfl hG trivial)
      case o5 =>
        intro a w1 K hG need old hsz hK
        have e0 : a.tmps[7]?.getD undef = .bool false := by rw [← Array.getD_eq_getD_getElem?]; exact need 2 7 (by kernel_rfl) (by kernel_rfl)
        refine op_value (v := .bool false) (wanted_none rfl) ?_ (hK _ w1 rfl hG trivial)
        simp [execOp, go_sem, asBool, e0]
      case o6 =>
        intro a w1 K hG need old hsz hK
        have e0 : a.tmps[10]?.getD undef = .bool false := by rw [← Array.getD_eq_getD_getElem?]; exact need 5 10 (by kernel_rfl) (by kernel_rfl)
        refine op_value (v := .bool false) (wanted_none rfl) ?_ (hK _ w1 rfl hG trivial)
        simp [execOp, go_sem, e0]
      case o7 =>
        intro a w1 K hG need old hsz hK
        exact skip_op (j := 6) rfl (need 6 11 (by kernel_rfl) (by kernel_rfl)) (by decide) (hK _ w1 rfl hG trivial)
      case o8 =>
        intro a w1 K hG need old hsz hK
        exact skip_op (j := 6) rfl (need 6 11 (by kernel_rfl) (by kernel_rfl)) (by decide) (hK _ w1 rfl hG trivial)
      case o9 =>
        intro a w1 K hG need old hsz hK
        exact skip_op (j := 6) rfl (need 6 11 (by kernel_rfl) (by kernel_rfl)) (by decide) (hK _ w1 rfl hG trivial)
      case o10 =>
        intro a w1 K hG need old hsz hK
        exact skip_op (j := 6) rfl (need 6 11 (by kernel_rfl) (by kernel_rfl)) (by decide) (hK _ w1 rfl hG trivial)
      case o11 =>
        intro a w1 K hG need old hsz hK
        have e0 : a.tmps[11]?.getD undef = .bool false := by rw [← Array.getD_eq_getD_getElem?]; exact need 6 11 (by kernel_rfl) (by kernel_rfl)
        refine op_value (v := .bool false) (wanted_none rfl) ?_ (hK _ w1 rfl hG trivial)
        simp [execOp, go_sem, asBool, e0]
      case o12 =>
        intro a w1 K hG need old hsz hK
        have e0 : a.tmps[16]?.getD undef = .bool false := by rw [← Array.getD_eq_getD_getElem?]; exact need 11 16 (by kernel_rfl) (by kernel_rfl)
        refine op_value (v := .bool false) (wanted_none rfl) ?_ (hK _ w1 rfl hG trivial)
        simp [execOp, go_sem, e0]
      case o13 =>
        intro a w1 K hG need old hsz hK
        exact skip_op (j := 12) rfl (need 12 17 (by kernel_rfl) (by kernel_rfl)) (by decide) (hK _ w1 rfl hG trivial)
      case o14 =>
        intro a w1 K hG need old hsz hK
        exact skip_op (j := 12) rfl (need 12 17 (by kernel_rfl) (by kernel_rfl)) (by decide) (hK _ w1 rfl hG trivial)
      case o15 =>
        intro a w1 K hG need old hsz hK
        exact skip_op (j := 12) rfl (need 12 17 (by kernel_rfl) (by kernel_rfl)) (by decide) (hK _ w1 rfl hG trivial)
      case o16 =>
        intro a w1 K hG need old hsz hK
        exact skip_op (j := 12) rfl (need 12 17 (by kernel_rfl) (by kernel_rfl)) (by decide) (hK _ w1 rfl hG trivial)
      case o17 =>
        intro a w1 K hG need old hsz hK
        exact skip_op (j := 12) rfl (need 12 17 (by kernel_rfl) (by kernel_rfl)) (by decide) (hK _ w1 rfl hG trivial)
      case o18 =>
        intro a w1 K hG need old hsz hK
        exact skip_op (j := 12) rfl (need 12 17 (by kernel_rfl) (by kernel_rfl)) (by decide) (hK _ w1 rfl hG trivial)
      case o19 =>
        intro a w1 K hG need old hsz hK
        have e0 : a.tmps[17]?.getD undef = .bool false := by rw [← Array.getD_eq_getD_getElem?]; exact need 12 17 (by kernel_rfl) (by kernel_rfl)
        refine op_value (v := .bool false) (wanted_none rfl) ?_ (hK _ w1 rfl hG trivial)
        simp [execOp, go_sem, asBool, e0]
      case o20 =>
        intro a w1 K hG need old hsz hK
        have e0 : a.tmps[24]?.getD undef = .bool false := by rw [← Array.getD_eq_getD_getElem?]; exact need 19 24 (by kernel_rfl) (by kernel_rfl)
        refine op_value (v := .bool false) (wanted_none rfl) ?_ (hK _ w1 rfl hG trivial)
        simp [execOp, go_sem, e0]
    · intro a w' hG hde hsz hφ hold
      have hr : a.tmps.getD 4 undef = .bool false := hφ 20 4 (by kernel_rfl)
      go_wp2
      refine bodyPost_ret (v := .bool false) ?_ hde ⟨ret_bool ?_, HB0.out.trans (hG.mono hWs.out)⟩
      · rw [results_tmp (t := 4) rfl, hr]
      · exact (decide_eq_false fun h => HM.out h.1).symm
theorem mayp_aw : MayP 6 8 1 10 3 := by decide
set_option maxRecDepth 100000 in
set_option maxHeartbeats 1000000 in
theorem awake_any (w : World) : Calls Try.prog 18 #[] w (Holds w) := by
  have HB0 := Lib.hid ((Below.refl w.heap.size w).alloc (Nat.le_refl _) (.cells #[.int .i64 6, .int .i64 8, .int .i64 1, .int .i64 10, .int .i64 3] 23))
  have BX := Lib.hid (heap_alloc_new w (.cells #[.int .i64 6, .int .i64 8, .int .i64 1, .int .i64 10, .int .i64 3] 23))
  go_enter Try.func18, Try.ntmps18
  go_wp2_with fail
  refine (mayp_any _ _ _ _ _ _).mono ?_
  rintro e w1 ⟨rfl, h1⟩
  rw [decide_eq_true mayp_aw]
  have hb1 := Lib.hid h1
  clear h1
  obtain ⟨k0, k1, k2, k3, k4⟩ := cells5 ((hb1.out.block w.heap.size (lt_size BX.out)).trans BX.out)
  go_wp2_with fail
  refine (needp_any _ _ _ _ _ _).mono ?_
  rintro e w2 ⟨rfl, h1⟩
  rw [show needP 6 8 1 10 3 = 18 by decide]
  have hb2 := Lib.hid (hb1.out.trans (h1.mono hb1.out.size))
  clear h1 k0 k1 k2 k3 k4
  obtain ⟨k0, k1, k2, k3, k4⟩ := cells5 ((hb2.out.block w.heap.size (lt_size BX.out)).trans BX.out)
  go_wp2_with fail
  refine (roomp_any _ _ _ _ _ _ _ (by decide)).mono ?_
  rintro e w3 ⟨rfl, h1⟩
  rw [show roomP 6 8 1 10 3 0 = 32 by decide]
  have hb3 := Lib.hid (hb2.out.trans (h1.mono hb2.out.size))
  clear h1 k0 k1 k2 k3 k4
  obtain ⟨k0, k1, k2, k3, k4⟩ := cells5 ((hb3.out.block w.heap.size (lt_size BX.out)).trans BX.out)
  go_wp2_with fail
  refine (fitsp_any _ _ _ _ _ _ _ (by decide)).mono ?_
  rintro e w4 ⟨rfl, h1⟩
  rw [show decide (FitsP 6 8 1 10 3 1) = true by decide]
  have hb4 := Lib.hid (hb3.out.trans (h1.mono hb3.out.size))
  clear h1 k0 k1 k2 k3 k4
  obtain ⟨k0, k1, k2, k3, k4⟩ := cells5 ((hb4.out.block w.heap.size (lt_size BX.out)).trans BX.out)
  go_wp2_with fail
  refine (floorp_any _ _ _ _ _ _ _ (by decide)).mono ?_
  rintro e w5 ⟨rfl, h1⟩
  rw [show floorP 6 8 1 10 3 0 = 2 by decide]
  have hb5 := Lib.hid (hb4.out.trans (h1.mono hb4.out.size))
  clear h1 k0 k1 k2 k3 k4
  go_wp2_with fail
  go_ret
  exact ⟨rfl, HB0.out.trans (hb5.out.mono (by simp))⟩
end Go.Proofs.Ytfnhmnfhkhjojaa
