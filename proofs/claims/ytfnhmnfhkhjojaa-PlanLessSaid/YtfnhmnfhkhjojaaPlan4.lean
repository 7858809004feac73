/- PlanForms, PlanFloor, PlanStays: the laws' walks (drawn regions written by plan4.py). -/
import Derived.Test.YtfnhmnfhkhjojaaPlan3
namespace Go.Proofs.Ytfnhmnfhkhjojaa
open Go.RowKit

theorem i64w_id (n : Int) (h : -9223372036854775808 ≤ n ∧ n ≤ 9223372036854775807) : IntKind.i64.wrap n = n := by rw [IntKind.wrap_i64]; omega
theorem bool_eql (w : World) (a b : Bool) : (binOp .eql 4 (.bool a) (.bool b)).run Try.prog w = .ok (.bool (a == b)) w := by cases a <;> cases b <;> rfl

set_option maxRecDepth 100000 in
set_option maxHeartbeats 4000000 in
theorem forms_any (B P S D U bad : Int) (w : World) (hbd : (Lit.int .i64 bad).wf = true) :
    Calls Try.prog 3 #[.agg #[.int .i64 B, .int .i64 P, .int .i64 S, .int .i64 D, .int .i64 U], .int .i64 bad] w (Holds w) := by
  have HB0 := Lib.hid ((Below.refl w.heap.size w).alloc (Nat.le_refl _) (.cells #[.int .i64 B, .int .i64 P, .int .i64 S, .int .i64 D, .int .i64 U] 23))
  have BX0 := Lib.hid (heap_alloc_new w (.cells #[.int .i64 B, .int .i64 P, .int .i64 S, .int .i64 D, .int .i64 U] 23))
  have HBD := Lib.hid hbd
  clear hbd
  go_enter Try.func3, Try.ntmps3
  go_upto_region 1 with fail
  generalize w.alloc (.cells #[.int .i64 B, .int .i64 P, .int .i64 S, .int .i64 D, .int .i64 U] 23) = W at HB0 BX0 ⊢
  have BX := BX0
  have hWs : Hid (w.heap.size ≤ W.heap.size) := HB0.out.size
  refine region_inv (fun j v _ => v = (match j with | 0 => .agg #[.int .i64 B, .int .i64 P, .int .i64 S, .int .i64 D, .int .i64 U] | 1 => .bool (decide (MayP B P S D U)) | 2 => .agg #[.int .i64 B, .int .i64 P, .int .i64 S, .int .i64 D, .int .i64 U] | 3 => .bool (decide (MayP B P S D U)) | 4 => .bool true | 5 => .bool true | 6 => .agg #[.int .i64 B, .int .i64 P, .int .i64 S, .int .i64 D, .int .i64 U] | 7 => .int .i64 (needP B P S D U) | 8 => .agg #[.int .i64 B, .int .i64 P, .int .i64 S, .int .i64 D, .int .i64 U] | 9 => .int .i64 (needP B P S D U) | 10 => .bool true | 11 => .bool true | 12 => .bool true | 13 => .agg #[.int .i64 B, .int .i64 P, .int .i64 S, .int .i64 D, .int .i64 U] | 14 => .int .i64 bad | 15 => .int .i64 (roomP B P S D U bad) | 16 => .agg #[.int .i64 B, .int .i64 P, .int .i64 S, .int .i64 D, .int .i64 U] | 17 => .int .i64 bad | 18 => .int .i64 (roomP B P S D U bad) | 19 => .bool true | 20 => .bool true | 21 => .bool true | 22 => .agg #[.int .i64 B, .int .i64 P, .int .i64 S, .int .i64 D, .int .i64 U] | 23 => .int .i64 bad | 24 => .bool (decide (FitsP B P S D U bad)) | 25 => .agg #[.int .i64 B, .int .i64 P, .int .i64 S, .int .i64 D, .int .i64 U] | 26 => .int .i64 bad | 27 => .bool (decide (FitsP B P S D U bad)) | 28 => .bool true | 29 => .bool true | 30 => .bool true | 31 => .agg #[.int .i64 B, .int .i64 P, .int .i64 S, .int .i64 D, .int .i64 U] | 32 => .int .i64 bad | 33 => .int .i64 (floorP B P S D U bad) | 34 => .agg #[.int .i64 B, .int .i64 P, .int .i64 S, .int .i64 D, .int .i64 U] | 35 => .int .i64 bad | 36 => .int .i64 (floorP B P S D U bad) | 37 => .bool true | 38 => .bool true | 39 => .bool true | 40 => .bool true | 41 => .bool true | 42 => .bool true | _ => undef)) (fun w' => Below W.heap.size W w') (fun _ _ => True) (by kernel_rfl) (by kernel_rfl) (by kernel_rfl) (fun _ _ _ _ h _ => h) (Below.refl _ _).drew ?_ ?_
  · refine OpsOk.cons ?o0 (OpsOk.cons ?o1 (OpsOk.cons ?o2 (OpsOk.cons ?o3 (OpsOk.cons ?o4 (OpsOk.cons ?o5 (OpsOk.cons ?o6 (OpsOk.cons ?o7 (OpsOk.cons ?o8 (OpsOk.cons ?o9 (OpsOk.cons ?o10 (OpsOk.cons ?o11 (OpsOk.cons ?o12 (OpsOk.cons ?o13 (OpsOk.cons ?o14 (OpsOk.cons ?o15 (OpsOk.cons ?o16 (OpsOk.cons ?o17 (OpsOk.cons ?o18 (OpsOk.cons ?o19 (OpsOk.cons ?o20 (OpsOk.cons ?o21 (OpsOk.cons ?o22 (OpsOk.cons ?o23 (OpsOk.cons ?o24 (OpsOk.cons ?o25 (OpsOk.cons ?o26 (OpsOk.cons ?o27 (OpsOk.cons ?o28 (OpsOk.cons ?o29 (OpsOk.cons ?o30 (OpsOk.cons ?o31 (OpsOk.cons ?o32 (OpsOk.cons ?o33 (OpsOk.cons ?o34 (OpsOk.cons ?o35 (OpsOk.cons ?o36 (OpsOk.cons ?o37 (OpsOk.cons ?o38 (OpsOk.cons ?o39 (OpsOk.cons ?o40 (OpsOk.cons ?o41 (OpsOk.cons ?o42 OpsOk.nil))))))))))))))))))))))))))))))))))))))))))
    case o0 =>
      intro a w1 Kx hG need old hsz hK
      have e0 : a.tmps[2]?.getD undef = .pointer (some ⟨w.heap.size, 0, none⟩) := by rw [← Array.getD_eq_getD_getElem?]; exact old 2 (by kernel_rfl)
      obtain ⟨k0, k1, k2, k3, k4⟩ := cells5 ((hG.block w.heap.size (lt_size BX.out)).trans BX.out)
      refine op_value (v := .agg #[.int .i64 B, .int .i64 P, .int .i64 S, .int .i64 D, .int .i64 U]) (wanted_none rfl) ?_ (hK _ w1 rfl hG trivial)
      simp [execOp, go_sem, e0, k0, k1, k2, k3, k4]
    case o1 =>
      intro a w1 Kx hG need old hsz hK
      have e0 : a.tmps[5]?.getD undef = .agg #[.int .i64 B, .int .i64 P, .int .i64 S, .int .i64 D, .int .i64 U] := by rw [← Array.getD_eq_getD_getElem?]; exact need 0 5 (by kernel_rfl) (by kernel_rfl)
      refine op_call (wanted_none rfl) (f := 8) (args := #[.agg #[.int .i64 B, .int .i64 P, .int .i64 S, .int .i64 D, .int .i64 U]]) ?run ((mayp_any B P S D U w1).mono ?post)
      case run => simp [go_sem, e0]
      case post =>
        rintro e w2 ⟨rfl, hb2⟩
        exact ⟨_, rfl, hK _ w2 rfl (hG.trans (hb2.mono hG.size)) trivial⟩
    case o2 =>
      intro a w1 Kx hG need old hsz hK
      have e0 : a.tmps[2]?.getD undef = .pointer (some ⟨w.heap.size, 0, none⟩) := by rw [← Array.getD_eq_getD_getElem?]; exact old 2 (by kernel_rfl)
      obtain ⟨k0, k1, k2, k3, k4⟩ := cells5 ((hG.block w.heap.size (lt_size BX.out)).trans BX.out)
      refine op_value (v := .agg #[.int .i64 B, .int .i64 P, .int .i64 S, .int .i64 D, .int .i64 U]) (wanted_none rfl) ?_ (hK _ w1 rfl hG trivial)
      simp [execOp, go_sem, e0, k0, k1, k2, k3, k4]
    case o3 =>
      intro a w1 Kx hG need old hsz hK
      have e0 : a.tmps[7]?.getD undef = .agg #[.int .i64 B, .int .i64 P, .int .i64 S, .int .i64 D, .int .i64 U] := by rw [← Array.getD_eq_getD_getElem?]; exact need 2 7 (by kernel_rfl) (by kernel_rfl)
      refine op_call (wanted_none rfl) (f := 9) (args := #[.agg #[.int .i64 B, .int .i64 P, .int .i64 S, .int .i64 D, .int .i64 U]]) ?run ((mayr_any B P S D U w1).mono ?post)
      case run => simp [go_sem, e0]
      case post =>
        rintro e w2 ⟨rfl, hb2⟩
        exact ⟨_, rfl, hK _ w2 rfl (hG.trans (hb2.mono hG.size)) trivial⟩
    case o4 =>
      intro a w1 Kx hG need old hsz hK
      have e0 : a.tmps[6]?.getD undef = .bool (decide (MayP B P S D U)) := by rw [← Array.getD_eq_getD_getElem?]; exact need 1 6 (by kernel_rfl) (by kernel_rfl)
      have e1 : a.tmps[8]?.getD undef = .bool (decide (MayP B P S D U)) := by rw [← Array.getD_eq_getD_getElem?]; exact need 3 8 (by kernel_rfl) (by kernel_rfl)
      refine op_value (v := .bool true) (wanted_none rfl) ?_ (hK _ w1 rfl hG trivial)
      simp [execOp, go_sem, bool_eql, e0, e1]
    case o5 =>
      intro a w1 Kx hG need old hsz hK
      have e0 : a.tmps[9]?.getD undef = .bool true := by rw [← Array.getD_eq_getD_getElem?]; exact need 4 9 (by kernel_rfl) (by kernel_rfl)
      refine op_value (v := .bool true) (wanted_none rfl) ?_ (hK _ w1 rfl hG trivial)
      simp [execOp, go_sem, e0]
    case o6 =>
      intro a w1 Kx hG need old hsz hK
      have e0 : a.tmps[2]?.getD undef = .pointer (some ⟨w.heap.size, 0, none⟩) := by rw [← Array.getD_eq_getD_getElem?]; exact old 2 (by kernel_rfl)
      obtain ⟨k0, k1, k2, k3, k4⟩ := cells5 ((hG.block w.heap.size (lt_size BX.out)).trans BX.out)
      refine op_value (v := .agg #[.int .i64 B, .int .i64 P, .int .i64 S, .int .i64 D, .int .i64 U]) (wanted_of (j := 5) rfl (need 5 10 (by kernel_rfl) (by kernel_rfl))) ?_ (hK _ w1 rfl hG trivial)
      simp [execOp, go_sem, e0, k0, k1, k2, k3, k4]
    case o7 =>
      intro a w1 Kx hG need old hsz hK
      have e0 : a.tmps[11]?.getD undef = .agg #[.int .i64 B, .int .i64 P, .int .i64 S, .int .i64 D, .int .i64 U] := by rw [← Array.getD_eq_getD_getElem?]; exact need 6 11 (by kernel_rfl) (by kernel_rfl)
      refine op_call (wanted_of (j := 5) rfl (need 5 10 (by kernel_rfl) (by kernel_rfl))) (f := 10) (args := #[.agg #[.int .i64 B, .int .i64 P, .int .i64 S, .int .i64 D, .int .i64 U]]) ?run ((needp_any B P S D U w1).mono ?post)
      case run => simp [go_sem, e0]
      case post =>
        rintro e w2 ⟨rfl, hb2⟩
        exact ⟨_, rfl, hK _ w2 rfl (hG.trans (hb2.mono hG.size)) trivial⟩
    case o8 =>
      intro a w1 Kx hG need old hsz hK
      have e0 : a.tmps[2]?.getD undef = .pointer (some ⟨w.heap.size, 0, none⟩) := by rw [← Array.getD_eq_getD_getElem?]; exact old 2 (by kernel_rfl)
      obtain ⟨k0, k1, k2, k3, k4⟩ := cells5 ((hG.block w.heap.size (lt_size BX.out)).trans BX.out)
      refine op_value (v := .agg #[.int .i64 B, .int .i64 P, .int .i64 S, .int .i64 D, .int .i64 U]) (wanted_of (j := 5) rfl (need 5 10 (by kernel_rfl) (by kernel_rfl))) ?_ (hK _ w1 rfl hG trivial)
      simp [execOp, go_sem, e0, k0, k1, k2, k3, k4]
    case o9 =>
      intro a w1 Kx hG need old hsz hK
      have e0 : a.tmps[13]?.getD undef = .agg #[.int .i64 B, .int .i64 P, .int .i64 S, .int .i64 D, .int .i64 U] := by rw [← Array.getD_eq_getD_getElem?]; exact need 8 13 (by kernel_rfl) (by kernel_rfl)
      refine op_call (wanted_of (j := 5) rfl (need 5 10 (by kernel_rfl) (by kernel_rfl))) (f := 11) (args := #[.agg #[.int .i64 B, .int .i64 P, .int .i64 S, .int .i64 D, .int .i64 U]]) ?run ((needr_any B P S D U w1).mono ?post)
      case run => simp [go_sem, e0]
      case post =>
        rintro e w2 ⟨rfl, hb2⟩
        exact ⟨_, rfl, hK _ w2 rfl (hG.trans (hb2.mono hG.size)) trivial⟩
    case o10 =>
      intro a w1 Kx hG need old hsz hK
      have e0 : a.tmps[12]?.getD undef = .int .i64 (needP B P S D U) := by rw [← Array.getD_eq_getD_getElem?]; exact need 7 12 (by kernel_rfl) (by kernel_rfl)
      have e1 : a.tmps[14]?.getD undef = .int .i64 (needP B P S D U) := by rw [← Array.getD_eq_getD_getElem?]; exact need 9 14 (by kernel_rfl) (by kernel_rfl)
      refine op_value (v := .bool true) (wanted_of (j := 5) rfl (need 5 10 (by kernel_rfl) (by kernel_rfl))) ?_ (hK _ w1 rfl hG trivial)
      simp [execOp, go_sem, e0, e1]
    case o11 =>
      intro a w1 Kx hG need old hsz hK
      have e0 : a.tmps[10]?.getD undef = .bool true := by rw [← Array.getD_eq_getD_getElem?]; exact need 5 10 (by kernel_rfl) (by kernel_rfl)
      have e1 : a.tmps[15]?.getD undef = .bool true := by rw [← Array.getD_eq_getD_getElem?]; exact need 10 15 (by kernel_rfl) (by kernel_rfl)
      refine op_value (v := .bool true) (wanted_none rfl) ?_ (hK _ w1 rfl hG trivial)
      simp [execOp, go_sem, asBool, e0, e1]
    case o12 =>
      intro a w1 Kx hG need old hsz hK
      have e0 : a.tmps[16]?.getD undef = .bool true := by rw [← Array.getD_eq_getD_getElem?]; exact need 11 16 (by kernel_rfl) (by kernel_rfl)
      refine op_value (v := .bool true) (wanted_none rfl) ?_ (hK _ w1 rfl hG trivial)
      simp [execOp, go_sem, e0]
    case o13 =>
      intro a w1 Kx hG need old hsz hK
      have e0 : a.tmps[2]?.getD undef = .pointer (some ⟨w.heap.size, 0, none⟩) := by rw [← Array.getD_eq_getD_getElem?]; exact old 2 (by kernel_rfl)
      obtain ⟨k0, k1, k2, k3, k4⟩ := cells5 ((hG.block w.heap.size (lt_size BX.out)).trans BX.out)
      refine op_value (v := .agg #[.int .i64 B, .int .i64 P, .int .i64 S, .int .i64 D, .int .i64 U]) (wanted_of (j := 12) rfl (need 12 17 (by kernel_rfl) (by kernel_rfl))) ?_ (hK _ w1 rfl hG trivial)
      simp [execOp, go_sem, e0, k0, k1, k2, k3, k4]
    case o14 =>
      intro a w1 Kx hG need old hsz hK
      have e0 : a.tmps[1]?.getD undef = .int .i64 bad := by rw [← Array.getD_eq_getD_getElem?]; exact old 1 (by kernel_rfl)
      refine op_value (v := .int .i64 bad) (wanted_of (j := 12) rfl (need 12 17 (by kernel_rfl) (by kernel_rfl))) ?_ (hK _ w1 rfl hG trivial)
      simp [execOp, go_sem, e0]
    case o15 =>
      intro a w1 Kx hG need old hsz hK
      have e0 : a.tmps[18]?.getD undef = .agg #[.int .i64 B, .int .i64 P, .int .i64 S, .int .i64 D, .int .i64 U] := by rw [← Array.getD_eq_getD_getElem?]; exact need 13 18 (by kernel_rfl) (by kernel_rfl)
      have e1 : a.tmps[19]?.getD undef = .int .i64 bad := by rw [← Array.getD_eq_getD_getElem?]; exact need 14 19 (by kernel_rfl) (by kernel_rfl)
      refine op_call (wanted_of (j := 12) rfl (need 12 17 (by kernel_rfl) (by kernel_rfl))) (f := 12) (args := #[.agg #[.int .i64 B, .int .i64 P, .int .i64 S, .int .i64 D, .int .i64 U], .int .i64 bad]) ?run ((roomp_any B P S D U bad w1 HBD.out).mono ?post)
      case run => simp [go_sem, e0, e1]
      case post =>
        rintro e w2 ⟨rfl, hb2⟩
        exact ⟨_, rfl, hK _ w2 rfl (hG.trans (hb2.mono hG.size)) trivial⟩
    case o16 =>
      intro a w1 Kx hG need old hsz hK
      have e0 : a.tmps[2]?.getD undef = .pointer (some ⟨w.heap.size, 0, none⟩) := by rw [← Array.getD_eq_getD_getElem?]; exact old 2 (by kernel_rfl)
      obtain ⟨k0, k1, k2, k3, k4⟩ := cells5 ((hG.block w.heap.size (lt_size BX.out)).trans BX.out)
      refine op_value (v := .agg #[.int .i64 B, .int .i64 P, .int .i64 S, .int .i64 D, .int .i64 U]) (wanted_of (j := 12) rfl (need 12 17 (by kernel_rfl) (by kernel_rfl))) ?_ (hK _ w1 rfl hG trivial)
      simp [execOp, go_sem, e0, k0, k1, k2, k3, k4]
    case o17 =>
      intro a w1 Kx hG need old hsz hK
      have e0 : a.tmps[1]?.getD undef = .int .i64 bad := by rw [← Array.getD_eq_getD_getElem?]; exact old 1 (by kernel_rfl)
      refine op_value (v := .int .i64 bad) (wanted_of (j := 12) rfl (need 12 17 (by kernel_rfl) (by kernel_rfl))) ?_ (hK _ w1 rfl hG trivial)
      simp [execOp, go_sem, e0]
    case o18 =>
      intro a w1 Kx hG need old hsz hK
      have e0 : a.tmps[21]?.getD undef = .agg #[.int .i64 B, .int .i64 P, .int .i64 S, .int .i64 D, .int .i64 U] := by rw [← Array.getD_eq_getD_getElem?]; exact need 16 21 (by kernel_rfl) (by kernel_rfl)
      have e1 : a.tmps[22]?.getD undef = .int .i64 bad := by rw [← Array.getD_eq_getD_getElem?]; exact need 17 22 (by kernel_rfl) (by kernel_rfl)
      refine op_call (wanted_of (j := 12) rfl (need 12 17 (by kernel_rfl) (by kernel_rfl))) (f := 13) (args := #[.agg #[.int .i64 B, .int .i64 P, .int .i64 S, .int .i64 D, .int .i64 U], .int .i64 bad]) ?run ((roomr_any B P S D U bad w1 HBD.out).mono ?post)
      case run => simp [go_sem, e0, e1]
      case post =>
        rintro e w2 ⟨rfl, hb2⟩
        exact ⟨_, rfl, hK _ w2 rfl (hG.trans (hb2.mono hG.size)) trivial⟩
    case o19 =>
      intro a w1 Kx hG need old hsz hK
      have e0 : a.tmps[20]?.getD undef = .int .i64 (roomP B P S D U bad) := by rw [← Array.getD_eq_getD_getElem?]; exact need 15 20 (by kernel_rfl) (by kernel_rfl)
      have e1 : a.tmps[23]?.getD undef = .int .i64 (roomP B P S D U bad) := by rw [← Array.getD_eq_getD_getElem?]; exact need 18 23 (by kernel_rfl) (by kernel_rfl)
      refine op_value (v := .bool true) (wanted_of (j := 12) rfl (need 12 17 (by kernel_rfl) (by kernel_rfl))) ?_ (hK _ w1 rfl hG trivial)
      simp [execOp, go_sem, e0, e1]
    case o20 =>
      intro a w1 Kx hG need old hsz hK
      have e0 : a.tmps[17]?.getD undef = .bool true := by rw [← Array.getD_eq_getD_getElem?]; exact need 12 17 (by kernel_rfl) (by kernel_rfl)
      have e1 : a.tmps[24]?.getD undef = .bool true := by rw [← Array.getD_eq_getD_getElem?]; exact need 19 24 (by kernel_rfl) (by kernel_rfl)
      refine op_value (v := .bool true) (wanted_none rfl) ?_ (hK _ w1 rfl hG trivial)
      simp [execOp, go_sem, asBool, e0, e1]
    case o21 =>
      intro a w1 Kx hG need old hsz hK
      have e0 : a.tmps[25]?.getD undef = .bool true := by rw [← Array.getD_eq_getD_getElem?]; exact need 20 25 (by kernel_rfl) (by kernel_rfl)
      refine op_value (v := .bool true) (wanted_none rfl) ?_ (hK _ w1 rfl hG trivial)
      simp [execOp, go_sem, e0]
    case o22 =>
      intro a w1 Kx hG need old hsz hK
      have e0 : a.tmps[2]?.getD undef = .pointer (some ⟨w.heap.size, 0, none⟩) := by rw [← Array.getD_eq_getD_getElem?]; exact old 2 (by kernel_rfl)
      obtain ⟨k0, k1, k2, k3, k4⟩ := cells5 ((hG.block w.heap.size (lt_size BX.out)).trans BX.out)
      refine op_value (v := .agg #[.int .i64 B, .int .i64 P, .int .i64 S, .int .i64 D, .int .i64 U]) (wanted_of (j := 21) rfl (need 21 26 (by kernel_rfl) (by kernel_rfl))) ?_ (hK _ w1 rfl hG trivial)
      simp [execOp, go_sem, e0, k0, k1, k2, k3, k4]
    case o23 =>
      intro a w1 Kx hG need old hsz hK
      have e0 : a.tmps[1]?.getD undef = .int .i64 bad := by rw [← Array.getD_eq_getD_getElem?]; exact old 1 (by kernel_rfl)
      refine op_value (v := .int .i64 bad) (wanted_of (j := 21) rfl (need 21 26 (by kernel_rfl) (by kernel_rfl))) ?_ (hK _ w1 rfl hG trivial)
      simp [execOp, go_sem, e0]
    case o24 =>
      intro a w1 Kx hG need old hsz hK
      have e0 : a.tmps[27]?.getD undef = .agg #[.int .i64 B, .int .i64 P, .int .i64 S, .int .i64 D, .int .i64 U] := by rw [← Array.getD_eq_getD_getElem?]; exact need 22 27 (by kernel_rfl) (by kernel_rfl)
      have e1 : a.tmps[28]?.getD undef = .int .i64 bad := by rw [← Array.getD_eq_getD_getElem?]; exact need 23 28 (by kernel_rfl) (by kernel_rfl)
      refine op_call (wanted_of (j := 21) rfl (need 21 26 (by kernel_rfl) (by kernel_rfl))) (f := 14) (args := #[.agg #[.int .i64 B, .int .i64 P, .int .i64 S, .int .i64 D, .int .i64 U], .int .i64 bad]) ?run ((fitsp_any B P S D U bad w1 HBD.out).mono ?post)
      case run => simp [go_sem, e0, e1]
      case post =>
        rintro e w2 ⟨rfl, hb2⟩
        exact ⟨_, rfl, hK _ w2 rfl (hG.trans (hb2.mono hG.size)) trivial⟩
    case o25 =>
      intro a w1 Kx hG need old hsz hK
      have e0 : a.tmps[2]?.getD undef = .pointer (some ⟨w.heap.size, 0, none⟩) := by rw [← Array.getD_eq_getD_getElem?]; exact old 2 (by kernel_rfl)
      obtain ⟨k0, k1, k2, k3, k4⟩ := cells5 ((hG.block w.heap.size (lt_size BX.out)).trans BX.out)
      refine op_value (v := .agg #[.int .i64 B, .int .i64 P, .int .i64 S, .int .i64 D, .int .i64 U]) (wanted_of (j := 21) rfl (need 21 26 (by kernel_rfl) (by kernel_rfl))) ?_ (hK _ w1 rfl hG trivial)
      simp [execOp, go_sem, e0, k0, k1, k2, k3, k4]
    case o26 =>
      intro a w1 Kx hG need old hsz hK
      have e0 : a.tmps[1]?.getD undef = .int .i64 bad := by rw [← Array.getD_eq_getD_getElem?]; exact old 1 (by kernel_rfl)
      refine op_value (v := .int .i64 bad) (wanted_of (j := 21) rfl (need 21 26 (by kernel_rfl) (by kernel_rfl))) ?_ (hK _ w1 rfl hG trivial)
      simp [execOp, go_sem, e0]
    case o27 =>
      intro a w1 Kx hG need old hsz hK
      have e0 : a.tmps[30]?.getD undef = .agg #[.int .i64 B, .int .i64 P, .int .i64 S, .int .i64 D, .int .i64 U] := by rw [← Array.getD_eq_getD_getElem?]; exact need 25 30 (by kernel_rfl) (by kernel_rfl)
      have e1 : a.tmps[31]?.getD undef = .int .i64 bad := by rw [← Array.getD_eq_getD_getElem?]; exact need 26 31 (by kernel_rfl) (by kernel_rfl)
      refine op_call (wanted_of (j := 21) rfl (need 21 26 (by kernel_rfl) (by kernel_rfl))) (f := 15) (args := #[.agg #[.int .i64 B, .int .i64 P, .int .i64 S, .int .i64 D, .int .i64 U], .int .i64 bad]) ?run ((fitsr_any B P S D U bad w1 HBD.out).mono ?post)
      case run => simp [go_sem, e0, e1]
      case post =>
        rintro e w2 ⟨rfl, hb2⟩
        exact ⟨_, rfl, hK _ w2 rfl (hG.trans (hb2.mono hG.size)) trivial⟩
    case o28 =>
      intro a w1 Kx hG need old hsz hK
      have e0 : a.tmps[29]?.getD undef = .bool (decide (FitsP B P S D U bad)) := by rw [← Array.getD_eq_getD_getElem?]; exact need 24 29 (by kernel_rfl) (by kernel_rfl)
      have e1 : a.tmps[32]?.getD undef = .bool (decide (FitsP B P S D U bad)) := by rw [← Array.getD_eq_getD_getElem?]; exact need 27 32 (by kernel_rfl) (by kernel_rfl)
      refine op_value (v := .bool true) (wanted_of (j := 21) rfl (need 21 26 (by kernel_rfl) (by kernel_rfl))) ?_ (hK _ w1 rfl hG trivial)
      simp [execOp, go_sem, bool_eql, e0, e1]
    case o29 =>
      intro a w1 Kx hG need old hsz hK
      have e0 : a.tmps[26]?.getD undef = .bool true := by rw [← Array.getD_eq_getD_getElem?]; exact need 21 26 (by kernel_rfl) (by kernel_rfl)
      have e1 : a.tmps[33]?.getD undef = .bool true := by rw [← Array.getD_eq_getD_getElem?]; exact need 28 33 (by kernel_rfl) (by kernel_rfl)
      refine op_value (v := .bool true) (wanted_none rfl) ?_ (hK _ w1 rfl hG trivial)
      simp [execOp, go_sem, asBool, e0, e1]
    case o30 =>
      intro a w1 Kx hG need old hsz hK
      have e0 : a.tmps[34]?.getD undef = .bool true := by rw [← Array.getD_eq_getD_getElem?]; exact need 29 34 (by kernel_rfl) (by kernel_rfl)
      refine op_value (v := .bool true) (wanted_none rfl) ?_ (hK _ w1 rfl hG trivial)
      simp [execOp, go_sem, e0]
    case o31 =>
      intro a w1 Kx hG need old hsz hK
      have e0 : a.tmps[2]?.getD undef = .pointer (some ⟨w.heap.size, 0, none⟩) := by rw [← Array.getD_eq_getD_getElem?]; exact old 2 (by kernel_rfl)
      obtain ⟨k0, k1, k2, k3, k4⟩ := cells5 ((hG.block w.heap.size (lt_size BX.out)).trans BX.out)
      refine op_value (v := .agg #[.int .i64 B, .int .i64 P, .int .i64 S, .int .i64 D, .int .i64 U]) (wanted_of (j := 30) rfl (need 30 35 (by kernel_rfl) (by kernel_rfl))) ?_ (hK _ w1 rfl hG trivial)
      simp [execOp, go_sem, e0, k0, k1, k2, k3, k4]
    case o32 =>
      intro a w1 Kx hG need old hsz hK
      have e0 : a.tmps[1]?.getD undef = .int .i64 bad := by rw [← Array.getD_eq_getD_getElem?]; exact old 1 (by kernel_rfl)
      refine op_value (v := .int .i64 bad) (wanted_of (j := 30) rfl (need 30 35 (by kernel_rfl) (by kernel_rfl))) ?_ (hK _ w1 rfl hG trivial)
      simp [execOp, go_sem, e0]
    case o33 =>
      intro a w1 Kx hG need old hsz hK
      have e0 : a.tmps[36]?.getD undef = .agg #[.int .i64 B, .int .i64 P, .int .i64 S, .int .i64 D, .int .i64 U] := by rw [← Array.getD_eq_getD_getElem?]; exact need 31 36 (by kernel_rfl) (by kernel_rfl)
      have e1 : a.tmps[37]?.getD undef = .int .i64 bad := by rw [← Array.getD_eq_getD_getElem?]; exact need 32 37 (by kernel_rfl) (by kernel_rfl)
      refine op_call (wanted_of (j := 30) rfl (need 30 35 (by kernel_rfl) (by kernel_rfl))) (f := 16) (args := #[.agg #[.int .i64 B, .int .i64 P, .int .i64 S, .int .i64 D, .int .i64 U], .int .i64 bad]) ?run ((floorp_any B P S D U bad w1 HBD.out).mono ?post)
      case run => simp [go_sem, e0, e1]
      case post =>
        rintro e w2 ⟨rfl, hb2⟩
        exact ⟨_, rfl, hK _ w2 rfl (hG.trans (hb2.mono hG.size)) trivial⟩
    case o34 =>
      intro a w1 Kx hG need old hsz hK
      have e0 : a.tmps[2]?.getD undef = .pointer (some ⟨w.heap.size, 0, none⟩) := by rw [← Array.getD_eq_getD_getElem?]; exact old 2 (by kernel_rfl)
      obtain ⟨k0, k1, k2, k3, k4⟩ := cells5 ((hG.block w.heap.size (lt_size BX.out)).trans BX.out)
      refine op_value (v := .agg #[.int .i64 B, .int .i64 P, .int .i64 S, .int .i64 D, .int .i64 U]) (wanted_of (j := 30) rfl (need 30 35 (by kernel_rfl) (by kernel_rfl))) ?_ (hK _ w1 rfl hG trivial)
      simp [execOp, go_sem, e0, k0, k1, k2, k3, k4]
    case o35 =>
      intro a w1 Kx hG need old hsz hK
      have e0 : a.tmps[1]?.getD undef = .int .i64 bad := by rw [← Array.getD_eq_getD_getElem?]; exact old 1 (by kernel_rfl)
      refine op_value (v := .int .i64 bad) (wanted_of (j := 30) rfl (need 30 35 (by kernel_rfl) (by kernel_rfl))) ?_ (hK _ w1 rfl hG trivial)
      simp [execOp, go_sem, e0]
    case o36 =>
      intro a w1 Kx hG need old hsz hK
      have e0 : a.tmps[39]?.getD undef = .agg #[.int .i64 B, .int .i64 P, .int .i64 S, .int .i64 D, .int .i64 U] := by rw [← Array.getD_eq_getD_getElem?]; exact need 34 39 (by kernel_rfl) (by kernel_rfl)
      have e1 : a.tmps[40]?.getD undef = .int .i64 bad := by rw [← Array.getD_eq_getD_getElem?]; exact need 35 40 (by kernel_rfl) (by kernel_rfl)
      refine op_call (wanted_of (j := 30) rfl (need 30 35 (by kernel_rfl) (by kernel_rfl))) (f := 17) (args := #[.agg #[.int .i64 B, .int .i64 P, .int .i64 S, .int .i64 D, .int .i64 U], .int .i64 bad]) ?run ((floorr_any B P S D U bad w1 HBD.out).mono ?post)
      case run => simp [go_sem, e0, e1]
      case post =>
        rintro e w2 ⟨rfl, hb2⟩
        exact ⟨_, rfl, hK _ w2 rfl (hG.trans (hb2.mono hG.size)) trivial⟩
    case o37 =>
      intro a w1 Kx hG need old hsz hK
      have e0 : a.tmps[38]?.getD undef = .int .i64 (floorP B P S D U bad) := by rw [← Array.getD_eq_getD_getElem?]; exact need 33 38 (by kernel_rfl) (by kernel_rfl)
      have e1 : a.tmps[41]?.getD undef = .int .i64 (floorP B P S D U bad) := by rw [← Array.getD_eq_getD_getElem?]; exact need 36 41 (by kernel_rfl) (by kernel_rfl)
      refine op_value (v := .bool true) (wanted_of (j := 30) rfl (need 30 35 (by kernel_rfl) (by kernel_rfl))) ?_ (hK _ w1 rfl hG trivial)
      simp [execOp, go_sem, e0, e1]
    case o38 =>
      intro a w1 Kx hG need old hsz hK
      have e0 : a.tmps[35]?.getD undef = .bool true := by rw [← Array.getD_eq_getD_getElem?]; exact need 30 35 (by kernel_rfl) (by kernel_rfl)
      have e1 : a.tmps[42]?.getD undef = .bool true := by rw [← Array.getD_eq_getD_getElem?]; exact need 37 42 (by kernel_rfl) (by kernel_rfl)
      refine op_value (v := .bool true) (wanted_none rfl) ?_ (hK _ w1 rfl hG trivial)
      simp [execOp, go_sem, asBool, e0, e1]
    case o39 =>
      intro a w1 Kx hG need old hsz hK
      have e0 : a.tmps[43]?.getD undef = .bool true := by rw [← Array.getD_eq_getD_getElem?]; exact need 38 43 (by kernel_rfl) (by kernel_rfl)
      refine op_value (v := .bool true) (wanted_none rfl) ?_ (hK _ w1 rfl hG trivial)
      simp [execOp, go_sem, e0]
    case o40 =>
      intro a w1 Kx hG need old hsz hK
      refine op_call (wanted_of (j := 39) rfl (need 39 44 (by kernel_rfl) (by kernel_rfl))) (f := 18) (args := #[]) ?run ((awake_any w1).mono ?post)
      case run => simp [go_sem]
      case post =>
        rintro e w2 ⟨rfl, hb2⟩
        exact ⟨_, rfl, hK _ w2 rfl (hG.trans (hb2.mono hG.size)) trivial⟩
    case o41 =>
      intro a w1 Kx hG need old hsz hK
      have e0 : a.tmps[44]?.getD undef = .bool true := by rw [← Array.getD_eq_getD_getElem?]; exact need 39 44 (by kernel_rfl) (by kernel_rfl)
      have e1 : a.tmps[45]?.getD undef = .bool true := by rw [← Array.getD_eq_getD_getElem?]; exact need 40 45 (by kernel_rfl) (by kernel_rfl)
      refine op_value (v := .bool true) (wanted_none rfl) ?_ (hK _ w1 rfl hG trivial)
      simp [execOp, go_sem, asBool, e0, e1]
    case o42 =>
      intro a w1 Kx hG need old hsz hK
      have e0 : a.tmps[46]?.getD undef = .bool true := by rw [← Array.getD_eq_getD_getElem?]; exact need 41 46 (by kernel_rfl) (by kernel_rfl)
      refine op_value (v := .bool true) (wanted_none rfl) ?_ (hK _ w1 rfl hG trivial)
      simp [execOp, go_sem, e0]
  · intro a w' hG hde hsz hφ hold
    have hr : a.tmps.getD 4 undef = .bool true := hφ 42 4 (by kernel_rfl)
    go_wp2
    refine bodyPost_ret (v := .bool true) ?_ hde ⟨rfl, HB0.out.trans (hG.mono hWs.out)⟩
    rw [results_tmp (t := 4) rfl, hr]
theorem wf_of {x : Int} (h : -9223372036854775808 ≤ x ∧ x ≤ 9223372036854775807) : (Lit.int .i64 x).wf = true := by
  have h0 : IntKind.min .i64 = -9223372036854775808 := by decide
  have h1 : IntKind.max .i64 = 9223372036854775807 := by decide
  simpa [Lit.wf, h0, h1] using h
theorem u64_rngp (x : Int) : 0 ≤ IntKind.u64.wrap x ∧ IntKind.u64.wrap x ≤ 18446744073709551615 := by
  have e : IntKind.u64.wrap x = x % 18446744073709551616 := by unfold IntKind.wrap; rfl
  rw [e]; omega
theorem u64_20 (x : Int) : ∃ K : Nat, K < 20 ∧ IntKind.u64.wrap x % 20 = (K : Int) := by
  have h0 := u64_rngp x
  exact ⟨(IntKind.u64.wrap x % 20).toNat, by omega, by omega⟩
theorem floorP_yes {B P S D U : Int} (h : MayP B P S D U) (K : Nat) : floorP B P S D U (K : Int) = if (K : Int) ≤ S then S - K + 1 else 0 := by
  unfold floorP
  rw [if_pos ⟨h, by omega⟩]
set_option maxRecDepth 100000 in
set_option maxHeartbeats 4000000 in
theorem floorlaw_any (B P S D U b : Int) (w : World) (hbd : (Lit.int .i64 b).wf = true) :
    Calls Try.prog 7 #[.agg #[.int .i64 B, .int .i64 P, .int .i64 S, .int .i64 D, .int .i64 U], .int .i64 b] w (Holds w) := by
  have HB0 := Lib.hid ((Below.refl w.heap.size w).alloc (Nat.le_refl _) (.cells #[.int .i64 B, .int .i64 P, .int .i64 S, .int .i64 D, .int .i64 U] 23))
  have BX0 := Lib.hid (heap_alloc_new w (.cells #[.int .i64 B, .int .i64 P, .int .i64 S, .int .i64 D, .int .i64 U] 23))
  by_cases hM : MayP B P S D U
  · have HM := Lib.hid hM
    have hS := hM.2.2.1
    clear hM
    obtain ⟨K, hK20, hK⟩ := u64_20 b
    have E0 : Hid (floorP B P S D U 0 = S + 1) := Lib.hid ((floorP_yes HM.out 0).trans ((if_pos (by omega)).trans (by omega)))
    have r0 := u64_rngp b
    by_cases hKS : (K : Int) ≤ S
    · have EF := Lib.hid ((floorP_yes HM.out K).trans (if_pos hKS))
      have EG : Hid (floorP B P S D U ((K : Int) + 1) = S - K) := by
        have := floorP_yes HM.out (K + 1)
        rw [show ((K + 1 : Nat) : Int) = (K : Int) + 1 by omega] at this
        refine Lib.hid (this.trans ?_)
        split <;> omega
      go_enter Try.func7, Try.ntmps7
      go_wp2_with (go_at_call 9; refine (mayr_any _ _ _ _ _ _).mono ?_; rintro e w1 ⟨rfl, hb⟩; rw [decide_eq_true HM.out]; have BX := Lib.hid ((hb.block w.heap.size (by simp)).trans BX0.out); have HB := Lib.hid (HB0.out.trans (hb.mono (by simp))); clear hb)
      rw [hK]
      obtain ⟨W, rfl⟩ : ∃ W : World, W = w1 := ⟨_, rfl⟩
      have hWs : Hid (w.heap.size ≤ W.heap.size) := HB.out.size
      go_upto_region 4 with fail
      refine region_inv (fun j v _ => v = (match j with | 0 => .agg #[.int .i64 B, .int .i64 P, .int .i64 S, .int .i64 D, .int .i64 U] | 1 => .int .i64 (K : Int) | 2 => .int .i64 (S - (K : Int) + 1) | 3 => .agg #[.int .i64 B, .int .i64 P, .int .i64 S, .int .i64 D, .int .i64 U] | 4 => .int .i64 (K : Int) | 5 => .int .i64 ((K : Int) + 1) | 6 => .int .i64 (S - (K : Int)) | 7 => .int .i64 (S - (K : Int) + 1) | 8 => .int .i64 (S - (K : Int)) | _ => undef)) (fun w' => Below W.heap.size W w') (fun _ _ => True) (by kernel_rfl) (by kernel_rfl) (by kernel_rfl) (fun _ _ _ _ h _ => h) (Below.refl _ _).drew ?_ ?_
      · refine OpsOk.cons ?o0 (OpsOk.cons ?o1 (OpsOk.cons ?o2 (OpsOk.cons ?o3 (OpsOk.cons ?o4 (OpsOk.cons ?o5 (OpsOk.cons ?o6 (OpsOk.cons ?o7 (OpsOk.cons ?o8 OpsOk.nil))))))))
        case o0 =>
          intro a w1 Kx hG need old hsz hK
          have e0 : a.tmps[2]?.getD undef = .pointer (some ⟨w.heap.size, 0, none⟩) := by rw [← Array.getD_eq_getD_getElem?]; exact old 2 (by kernel_rfl)
          obtain ⟨k0, k1, k2, k3, k4⟩ := cells5 ((hG.block w.heap.size (lt_size BX.out)).trans BX.out)
          refine op_value (v := .agg #[.int .i64 B, .int .i64 P, .int .i64 S, .int .i64 D, .int .i64 U]) (wanted_none rfl) ?_ (hK _ w1 rfl hG trivial)
          simp [execOp, go_sem, e0, k0, k1, k2, k3, k4]
        case o1 =>
          intro a w1 Kx hG need old hsz hK
          have e0 : a.tmps[1]?.getD undef = .int .i64 (K : Int) := by rw [← Array.getD_eq_getD_getElem?]; exact old 1 (by kernel_rfl)
          refine op_value (v := .int .i64 (K : Int)) (wanted_none rfl) ?_ (hK _ w1 rfl hG trivial)
          simp [execOp, go_sem, e0]
        case o2 =>
          intro a w1 Kx hG need old hsz hK
          have e0 : a.tmps[21]?.getD undef = .agg #[.int .i64 B, .int .i64 P, .int .i64 S, .int .i64 D, .int .i64 U] := by rw [← Array.getD_eq_getD_getElem?]; exact need 0 21 (by kernel_rfl) (by kernel_rfl)
          have e1 : a.tmps[22]?.getD undef = .int .i64 (K : Int) := by rw [← Array.getD_eq_getD_getElem?]; exact need 1 22 (by kernel_rfl) (by kernel_rfl)
          refine op_call (wanted_none rfl) (f := 16) (args := #[.agg #[.int .i64 B, .int .i64 P, .int .i64 S, .int .i64 D, .int .i64 U], .int .i64 (K : Int)]) ?run ((floorp_any B P S D U (K : Int) w1 (wf_of (by omega))).mono ?post)
          case run => simp [go_sem, e0, e1]
          case post =>
            rintro e w2 ⟨rfl, hb2⟩
            rw [EF.out]
            exact ⟨_, rfl, hK _ w2 rfl (hG.trans (hb2.mono hG.size)) trivial⟩
        case o3 =>
          intro a w1 Kx hG need old hsz hK
          have e0 : a.tmps[2]?.getD undef = .pointer (some ⟨w.heap.size, 0, none⟩) := by rw [← Array.getD_eq_getD_getElem?]; exact old 2 (by kernel_rfl)
          obtain ⟨k0, k1, k2, k3, k4⟩ := cells5 ((hG.block w.heap.size (lt_size BX.out)).trans BX.out)
          refine op_value (v := .agg #[.int .i64 B, .int .i64 P, .int .i64 S, .int .i64 D, .int .i64 U]) (wanted_none rfl) ?_ (hK _ w1 rfl hG trivial)
          simp [execOp, go_sem, e0, k0, k1, k2, k3, k4]
        case o4 =>
          intro a w1 Kx hG need old hsz hK
          have e0 : a.tmps[1]?.getD undef = .int .i64 (K : Int) := by rw [← Array.getD_eq_getD_getElem?]; exact old 1 (by kernel_rfl)
          refine op_value (v := .int .i64 (K : Int)) (wanted_none rfl) ?_ (hK _ w1 rfl hG trivial)
          simp [execOp, go_sem, e0]
        case o5 =>
          intro a w1 Kx hG need old hsz hK
          have e0 : a.tmps[25]?.getD undef = .int .i64 (K : Int) := by rw [← Array.getD_eq_getD_getElem?]; exact need 4 25 (by kernel_rfl) (by kernel_rfl)
          refine op_value (v := .int .i64 ((K : Int) + 1)) (wanted_none rfl) ?_ (hK _ w1 rfl hG trivial)
          simp [execOp, go_sem, e0] <;> first | omega | (rw [i64w_id _ (by omega)] <;> omega)
        case o6 =>
          intro a w1 Kx hG need old hsz hK
          have e0 : a.tmps[24]?.getD undef = .agg #[.int .i64 B, .int .i64 P, .int .i64 S, .int .i64 D, .int .i64 U] := by rw [← Array.getD_eq_getD_getElem?]; exact need 3 24 (by kernel_rfl) (by kernel_rfl)
          have e1 : a.tmps[26]?.getD undef = .int .i64 ((K : Int) + 1) := by rw [← Array.getD_eq_getD_getElem?]; exact need 5 26 (by kernel_rfl) (by kernel_rfl)
          refine op_call (wanted_none rfl) (f := 16) (args := #[.agg #[.int .i64 B, .int .i64 P, .int .i64 S, .int .i64 D, .int .i64 U], .int .i64 ((K : Int) + 1)]) ?run ((floorp_any B P S D U ((K : Int) + 1) w1 (wf_of (by omega))).mono ?post)
          case run => simp [go_sem, e0, e1]
          case post =>
            rintro e w2 ⟨rfl, hb2⟩
            rw [EG.out]
            exact ⟨_, rfl, hK _ w2 rfl (hG.trans (hb2.mono hG.size)) trivial⟩
        case o7 =>
          intro a w1 Kx hG need old hsz hK
          have e0 : a.tmps[23]?.getD undef = .int .i64 (S - (K : Int) + 1) := by rw [← Array.getD_eq_getD_getElem?]; exact need 2 23 (by kernel_rfl) (by kernel_rfl)
          refine op_value (v := .int .i64 (S - (K : Int) + 1)) (wanted_none rfl) ?_ (hK _ w1 rfl hG trivial)
          simp [execOp, go_sem, e0]
        case o8 =>
          intro a w1 Kx hG need old hsz hK
          have e0 : a.tmps[27]?.getD undef = .int .i64 (S - (K : Int)) := by rw [← Array.getD_eq_getD_getElem?]; exact need 6 27 (by kernel_rfl) (by kernel_rfl)
          refine op_value (v := .int .i64 (S - (K : Int))) (wanted_none rfl) ?_ (hK _ w1 rfl hG trivial)
          simp [execOp, go_sem, e0]
      · intro a W2 hG hde hsz hφ hold
        have s1 : a.tmps.getD 1 undef = .int .i64 (K : Int) := hold 1 (by kernel_rfl)
        have s2 : a.tmps.getD 2 undef = .pointer (some ⟨w.heap.size, 0, none⟩) := hold 2 (by kernel_rfl)
        have s5 : a.tmps.getD 5 undef = .int .i64 (S - (K : Int) + 1) := hφ 7 5 (by kernel_rfl)
        have s6 : a.tmps.getD 6 undef = .int .i64 (S - (K : Int)) := hφ 8 6 (by kernel_rfl)
        go_upto_region 5 with fail
        clear hold hφ
        have HB2 := Lib.hid (HB.out.trans (hG.mono hWs.out))
        have hWs2 : Hid (w.heap.size ≤ W2.heap.size) := HB2.out.size
        replace BX := Lib.hid ((hG.block w.heap.size (lt_size BX.out)).trans BX.out)
        clear hG
        refine region_inv (fun j v _ => v = (match j with | 0 => .agg #[.int .i64 B, .int .i64 P, .int .i64 S, .int .i64 D, .int .i64 U] | 1 => .int .i64 (S + 1) | 2 => .pointer (some ⟨w.heap.size, 2, none⟩) | 3 => .int .i64 S | 4 => .int .i64 (S + 1) | 5 => .bool true | 6 => .bool true | 7 => .int .i64 (S - (K : Int)) | 8 => .int .i64 (S - (K : Int) + 1) | 9 => .int .i64 (S - (K : Int)) | 10 => .bool true | 11 => .bool true | 12 => undef | 13 => undef | 14 => undef | 15 => undef | 16 => undef | 17 => undef | 18 => .bool true | 19 => .bool true | 20 => .bool true | 21 => .int .i64 (S - (K : Int) + 1) | 22 => .bool false | 23 => .int .i64 (K : Int) | 24 => .pointer (some ⟨w.heap.size, 2, none⟩) | 25 => .int .i64 S | 26 => .bool false | 27 => .bool true | 28 => .bool true | 29 => .bool true | 30 => .bool true | 31 => .bool true | 32 => .bool true | _ => undef)) (fun w' => Below W2.heap.size W2 w') (fun _ _ => True) (by kernel_rfl) (by kernel_rfl) (by rw [hsz]; kernel_rfl) (fun _ _ _ _ h _ => h) (Below.refl _ _).drew ?_ ?_
        · refine OpsOk.cons ?o0 (OpsOk.cons ?o1 (OpsOk.cons ?o2 (OpsOk.cons ?o3 (OpsOk.cons ?o4 (OpsOk.cons ?o5 (OpsOk.cons ?o6 (OpsOk.cons ?o7 (OpsOk.cons ?o8 (OpsOk.cons ?o9 (OpsOk.cons ?o10 (OpsOk.cons ?o11 (OpsOk.cons ?o12 (OpsOk.cons ?o13 (OpsOk.cons ?o14 (OpsOk.cons ?o15 (OpsOk.cons ?o16 (OpsOk.cons ?o17 (OpsOk.cons ?o18 (OpsOk.cons ?o19 (OpsOk.cons ?o20 (OpsOk.cons ?o21 (OpsOk.cons ?o22 (OpsOk.cons ?o23 (OpsOk.cons ?o24 (OpsOk.cons ?o25 (OpsOk.cons ?o26 (OpsOk.cons ?o27 (OpsOk.cons ?o28 (OpsOk.cons ?o29 (OpsOk.cons ?o30 (OpsOk.cons ?o31 (OpsOk.cons ?o32 OpsOk.nil))))))))))))))))))))))))))))))))
          case o0 =>
            intro a w1 Kx hG need old hsz hK
            have e0 : a.tmps[2]?.getD undef = .pointer (some ⟨w.heap.size, 0, none⟩) := by rw [← Array.getD_eq_getD_getElem?]; exact (old 2 (by kernel_rfl)).trans s2
            obtain ⟨k0, k1, k2, k3, k4⟩ := cells5 ((hG.block w.heap.size (lt_size BX.out)).trans BX.out)
            refine op_value (v := .agg #[.int .i64 B, .int .i64 P, .int .i64 S, .int .i64 D, .int .i64 U]) (wanted_none rfl) ?_ (hK _ w1 rfl hG trivial)
            simp [execOp, go_sem, e0, k0, k1, k2, k3, k4]
          case o1 =>
            intro a w1 Kx hG need old hsz hK
            have e0 : a.tmps[28]?.getD undef = .agg #[.int .i64 B, .int .i64 P, .int .i64 S, .int .i64 D, .int .i64 U] := by rw [← Array.getD_eq_getD_getElem?]; exact need 0 28 (by kernel_rfl) (by kernel_rfl)
            refine op_call (wanted_none rfl) (f := 16) (args := #[.agg #[.int .i64 B, .int .i64 P, .int .i64 S, .int .i64 D, .int .i64 U], .int .i64 0]) ?run ((floorp_any B P S D U 0 w1 (by decide)).mono ?post)
            case run => simp [go_sem, e0]
            case post =>
              rintro e w2 ⟨rfl, hb2⟩
              rw [E0.out]
              exact ⟨_, rfl, hK _ w2 rfl (hG.trans (hb2.mono hG.size)) trivial⟩
          case o2 =>
            intro a w1 Kx hG need old hsz hK
            have e0 : a.tmps[2]?.getD undef = .pointer (some ⟨w.heap.size, 0, none⟩) := by rw [← Array.getD_eq_getD_getElem?]; exact (old 2 (by kernel_rfl)).trans s2
            refine op_value (v := .pointer (some ⟨w.heap.size, 2, none⟩)) (wanted_none rfl) ?_ (hK _ w1 rfl hG trivial)
            simp [execOp, go_sem, e0]
          case o3 =>
            intro a w1 Kx hG need old hsz hK
            have e0 : a.tmps[30]?.getD undef = .pointer (some ⟨w.heap.size, 2, none⟩) := by rw [← Array.getD_eq_getD_getElem?]; exact need 2 30 (by kernel_rfl) (by kernel_rfl)
            have k0 := (cells5 ((hG.block w.heap.size (lt_size BX.out)).trans BX.out)).2.2.1
            refine op_value (v := .int .i64 S) (wanted_none rfl) ?_ (hK _ w1 rfl hG trivial)
            simp [execOp, go_sem, e0, k0]
          case o4 =>
            intro a w1 Kx hG need old hsz hK
            have e0 : a.tmps[31]?.getD undef = .int .i64 S := by rw [← Array.getD_eq_getD_getElem?]; exact need 3 31 (by kernel_rfl) (by kernel_rfl)
            refine op_value (v := .int .i64 (S + 1)) (wanted_none rfl) ?_ (hK _ w1 rfl hG trivial)
            simp [execOp, go_sem, e0] <;> first | omega | (rw [i64w_id _ (by omega)] <;> omega)
          case o5 =>
            intro a w1 Kx hG need old hsz hK
            have e0 : a.tmps[29]?.getD undef = .int .i64 (S + 1) := by rw [← Array.getD_eq_getD_getElem?]; exact need 1 29 (by kernel_rfl) (by kernel_rfl)
            have e1 : a.tmps[32]?.getD undef = .int .i64 (S + 1) := by rw [← Array.getD_eq_getD_getElem?]; exact need 4 32 (by kernel_rfl) (by kernel_rfl)
            refine op_value (v := .bool true) (wanted_none rfl) ?_ (hK _ w1 rfl hG trivial)
            simp [execOp, go_sem, e0, e1]
          case o6 =>
            intro a w1 Kx hG need old hsz hK
            have e0 : a.tmps[33]?.getD undef = .bool true := by rw [← Array.getD_eq_getD_getElem?]; exact need 5 33 (by kernel_rfl) (by kernel_rfl)
            refine op_value (v := .bool true) (wanted_none rfl) ?_ (hK _ w1 rfl hG trivial)
            simp [execOp, go_sem, e0]
          case o7 =>
            intro a w1 Kx hG need old hsz hK
            have e0 : a.tmps[6]?.getD undef = .int .i64 (S - (K : Int)) := by rw [← Array.getD_eq_getD_getElem?]; exact (old 6 (by kernel_rfl)).trans s6
            refine op_value (v := .int .i64 (S - (K : Int))) (wanted_of (j := 6) rfl (need 6 34 (by kernel_rfl) (by kernel_rfl))) ?_ (hK _ w1 rfl hG trivial)
            simp [execOp, go_sem, e0]
          case o8 =>
            intro a w1 Kx hG need old hsz hK
            have e0 : a.tmps[5]?.getD undef = .int .i64 (S - (K : Int) + 1) := by rw [← Array.getD_eq_getD_getElem?]; exact (old 5 (by kernel_rfl)).trans s5
            refine op_value (v := .int .i64 (S - (K : Int) + 1)) (wanted_of (j := 6) rfl (need 6 34 (by kernel_rfl) (by kernel_rfl))) ?_ (hK _ w1 rfl hG trivial)
            simp [execOp, go_sem, e0]
          case o9 =>
            intro a w1 Kx hG need old hsz hK
            have e0 : a.tmps[36]?.getD undef = .int .i64 (S - (K : Int) + 1) := by rw [← Array.getD_eq_getD_getElem?]; exact need 8 36 (by kernel_rfl) (by kernel_rfl)
            refine op_value (v := .int .i64 (S - (K : Int))) (wanted_of (j := 6) rfl (need 6 34 (by kernel_rfl) (by kernel_rfl))) ?_ (hK _ w1 rfl hG trivial)
            simp [execOp, go_sem, e0] <;> first | omega | (rw [i64w_id _ (by omega)] <;> omega)
          case o10 =>
            intro a w1 Kx hG need old hsz hK
            have e0 : a.tmps[35]?.getD undef = .int .i64 (S - (K : Int)) := by rw [← Array.getD_eq_getD_getElem?]; exact need 7 35 (by kernel_rfl) (by kernel_rfl)
            have e1 : a.tmps[37]?.getD undef = .int .i64 (S - (K : Int)) := by rw [← Array.getD_eq_getD_getElem?]; exact need 9 37 (by kernel_rfl) (by kernel_rfl)
            refine op_value (v := .bool true) (wanted_of (j := 6) rfl (need 6 34 (by kernel_rfl) (by kernel_rfl))) ?_ (hK _ w1 rfl hG trivial)
            simp [execOp, go_sem, e0, e1]
          case o11 =>
            intro a w1 Kx hG need old hsz hK
            have e0 : a.tmps[38]?.getD undef = .bool true := by rw [← Array.getD_eq_getD_getElem?]; exact need 10 38 (by kernel_rfl) (by kernel_rfl)
            refine op_value (v := .bool true) (wanted_of (j := 6) rfl (need 6 34 (by kernel_rfl) (by kernel_rfl))) ?_ (hK _ w1 rfl hG trivial)
            simp [execOp, go_sem, e0]
          case o12 =>
            intro a w1 Kx hG need old hsz hK
            exact skip_op (j := 11) rfl (need 11 39 (by kernel_rfl) (by kernel_rfl)) (by decide) (hK _ w1 rfl hG trivial)
          case o13 =>
            intro a w1 Kx hG need old hsz hK
            exact skip_op (j := 11) rfl (need 11 39 (by kernel_rfl) (by kernel_rfl)) (by decide) (hK _ w1 rfl hG trivial)
          case o14 =>
            intro a w1 Kx hG need old hsz hK
            exact skip_op (j := 11) rfl (need 11 39 (by kernel_rfl) (by kernel_rfl)) (by decide) (hK _ w1 rfl hG trivial)
          case o15 =>
            intro a w1 Kx hG need old hsz hK
            exact skip_undef (j := 14) rfl (need 14 42 (by kernel_rfl) (by kernel_rfl)) (hK _ w1 rfl hG trivial)
          case o16 =>
            intro a w1 Kx hG need old hsz hK
            exact skip_undef (j := 14) rfl (need 14 42 (by kernel_rfl) (by kernel_rfl)) (hK _ w1 rfl hG trivial)
          case o17 =>
            intro a w1 Kx hG need old hsz hK
            exact skip_op (j := 11) rfl (need 11 39 (by kernel_rfl) (by kernel_rfl)) (by decide) (hK _ w1 rfl hG trivial)
          case o18 =>
            intro a w1 Kx hG need old hsz hK
            have e0 : a.tmps[39]?.getD undef = .bool true := by rw [← Array.getD_eq_getD_getElem?]; exact need 11 39 (by kernel_rfl) (by kernel_rfl)
            refine op_value (v := .bool true) (wanted_of (j := 6) rfl (need 6 34 (by kernel_rfl) (by kernel_rfl))) ?_ (hK _ w1 rfl hG trivial)
            simp [execOp, go_sem, asBool, e0]
          case o19 =>
            intro a w1 Kx hG need old hsz hK
            have e0 : a.tmps[34]?.getD undef = .bool true := by rw [← Array.getD_eq_getD_getElem?]; exact need 6 34 (by kernel_rfl) (by kernel_rfl)
            have e1 : a.tmps[46]?.getD undef = .bool true := by rw [← Array.getD_eq_getD_getElem?]; exact need 18 46 (by kernel_rfl) (by kernel_rfl)
            refine op_value (v := .bool true) (wanted_none rfl) ?_ (hK _ w1 rfl hG trivial)
            simp [execOp, go_sem, asBool, e0, e1]
          case o20 =>
            intro a w1 Kx hG need old hsz hK
            have e0 : a.tmps[47]?.getD undef = .bool true := by rw [← Array.getD_eq_getD_getElem?]; exact need 19 47 (by kernel_rfl) (by kernel_rfl)
            refine op_value (v := .bool true) (wanted_none rfl) ?_ (hK _ w1 rfl hG trivial)
            simp [execOp, go_sem, e0]
          case o21 =>
            intro a w1 Kx hG need old hsz hK
            have e0 : a.tmps[5]?.getD undef = .int .i64 (S - (K : Int) + 1) := by rw [← Array.getD_eq_getD_getElem?]; exact (old 5 (by kernel_rfl)).trans s5
            refine op_value (v := .int .i64 (S - (K : Int) + 1)) (wanted_of (j := 20) rfl (need 20 48 (by kernel_rfl) (by kernel_rfl))) ?_ (hK _ w1 rfl hG trivial)
            simp [execOp, go_sem, e0]
          case o22 =>
            intro a w1 Kx hG need old hsz hK
            have e0 : a.tmps[49]?.getD undef = .int .i64 (S - (K : Int) + 1) := by rw [← Array.getD_eq_getD_getElem?]; exact need 21 49 (by kernel_rfl) (by kernel_rfl)
            refine op_value (v := .bool false) (wanted_of (j := 20) rfl (need 20 48 (by kernel_rfl) (by kernel_rfl))) ?_ (hK _ w1 rfl hG trivial)
            simp [execOp, go_sem, e0] <;> first | omega | (rw [i64w_id _ (by omega)] <;> omega)
          case o23 =>
            intro a w1 Kx hG need old hsz hK
            have e0 : a.tmps[1]?.getD undef = .int .i64 (K : Int) := by rw [← Array.getD_eq_getD_getElem?]; exact (old 1 (by kernel_rfl)).trans s1
            refine op_value (v := .int .i64 (K : Int)) (wanted_of (j := 20) rfl (need 20 48 (by kernel_rfl) (by kernel_rfl))) ?_ (hK _ w1 rfl hG trivial)
            simp [execOp, go_sem, e0]
          case o24 =>
            intro a w1 Kx hG need old hsz hK
            have e0 : a.tmps[2]?.getD undef = .pointer (some ⟨w.heap.size, 0, none⟩) := by rw [← Array.getD_eq_getD_getElem?]; exact (old 2 (by kernel_rfl)).trans s2
            refine op_value (v := .pointer (some ⟨w.heap.size, 2, none⟩)) (wanted_of (j := 20) rfl (need 20 48 (by kernel_rfl) (by kernel_rfl))) ?_ (hK _ w1 rfl hG trivial)
            simp [execOp, go_sem, e0]
          case o25 =>
            intro a w1 Kx hG need old hsz hK
            have e0 : a.tmps[52]?.getD undef = .pointer (some ⟨w.heap.size, 2, none⟩) := by rw [← Array.getD_eq_getD_getElem?]; exact need 24 52 (by kernel_rfl) (by kernel_rfl)
            have k0 := (cells5 ((hG.block w.heap.size (lt_size BX.out)).trans BX.out)).2.2.1
            refine op_value (v := .int .i64 S) (wanted_of (j := 20) rfl (need 20 48 (by kernel_rfl) (by kernel_rfl))) ?_ (hK _ w1 rfl hG trivial)
            simp [execOp, go_sem, e0, k0]
          case o26 =>
            intro a w1 Kx hG need old hsz hK
            have e0 : a.tmps[51]?.getD undef = .int .i64 (K : Int) := by rw [← Array.getD_eq_getD_getElem?]; exact need 23 51 (by kernel_rfl) (by kernel_rfl)
            have e1 : a.tmps[53]?.getD undef = .int .i64 S := by rw [← Array.getD_eq_getD_getElem?]; exact need 25 53 (by kernel_rfl) (by kernel_rfl)
            refine op_value (v := .bool false) (wanted_of (j := 20) rfl (need 20 48 (by kernel_rfl) (by kernel_rfl))) ?_ (hK _ w1 rfl hG trivial)
            simp [execOp, go_sem, e0, e1] <;> first | omega | (rw [i64w_id _ (by omega)] <;> omega)
          case o27 =>
            intro a w1 Kx hG need old hsz hK
            have e0 : a.tmps[50]?.getD undef = .bool false := by rw [← Array.getD_eq_getD_getElem?]; exact need 22 50 (by kernel_rfl) (by kernel_rfl)
            have e1 : a.tmps[54]?.getD undef = .bool false := by rw [← Array.getD_eq_getD_getElem?]; exact need 26 54 (by kernel_rfl) (by kernel_rfl)
            refine op_value (v := .bool true) (wanted_of (j := 20) rfl (need 20 48 (by kernel_rfl) (by kernel_rfl))) ?_ (hK _ w1 rfl hG trivial)
            simp [execOp, go_sem, bool_eql, e0, e1]
          case o28 =>
            intro a w1 Kx hG need old hsz hK
            have e0 : a.tmps[48]?.getD undef = .bool true := by rw [← Array.getD_eq_getD_getElem?]; exact need 20 48 (by kernel_rfl) (by kernel_rfl)
            have e1 : a.tmps[55]?.getD undef = .bool true := by rw [← Array.getD_eq_getD_getElem?]; exact need 27 55 (by kernel_rfl) (by kernel_rfl)
            refine op_value (v := .bool true) (wanted_none rfl) ?_ (hK _ w1 rfl hG trivial)
            simp [execOp, go_sem, asBool, e0, e1]
          case o29 =>
            intro a w1 Kx hG need old hsz hK
            have e0 : a.tmps[56]?.getD undef = .bool true := by rw [← Array.getD_eq_getD_getElem?]; exact need 28 56 (by kernel_rfl) (by kernel_rfl)
            refine op_value (v := .bool true) (wanted_none rfl) ?_ (hK _ w1 rfl hG trivial)
            simp [execOp, go_sem, e0]
          case o30 =>
            intro a w1 Kx hG need old hsz hK
            refine op_call (wanted_of (j := 29) rfl (need 29 57 (by kernel_rfl) (by kernel_rfl))) (f := 18) (args := #[]) ?run ((awake_any w1).mono ?post)
            case run => simp [go_sem]
            case post =>
              rintro e w2 ⟨rfl, hb2⟩
              exact ⟨_, rfl, hK _ w2 rfl (hG.trans (hb2.mono hG.size)) trivial⟩
          case o31 =>
            intro a w1 Kx hG need old hsz hK
            have e0 : a.tmps[57]?.getD undef = .bool true := by rw [← Array.getD_eq_getD_getElem?]; exact need 29 57 (by kernel_rfl) (by kernel_rfl)
            have e1 : a.tmps[58]?.getD undef = .bool true := by rw [← Array.getD_eq_getD_getElem?]; exact need 30 58 (by kernel_rfl) (by kernel_rfl)
            refine op_value (v := .bool true) (wanted_none rfl) ?_ (hK _ w1 rfl hG trivial)
            simp [execOp, go_sem, asBool, e0, e1]
          case o32 =>
            intro a w1 Kx hG need old hsz hK
            have e0 : a.tmps[59]?.getD undef = .bool true := by rw [← Array.getD_eq_getD_getElem?]; exact need 31 59 (by kernel_rfl) (by kernel_rfl)
            refine op_value (v := .bool true) (wanted_none rfl) ?_ (hK _ w1 rfl hG trivial)
            simp [execOp, go_sem, e0]
        · intro a' w' hG hde' hsz' hφ hold
          have hr : a'.tmps.getD 4 undef = .bool true := hφ 32 4 (by kernel_rfl)
          go_wp2
          refine bodyPost_ret (v := .bool true) ?_ (hde'.trans hde) ⟨rfl, HB2.out.trans (hG.mono hWs2.out)⟩
          rw [results_tmp (t := 4) rfl, hr]
    · have EF := Lib.hid ((floorP_yes HM.out K).trans (if_neg hKS))
      have EG : Hid (floorP B P S D U ((K : Int) + 1) = 0) := by
        have := floorP_yes HM.out (K + 1)
        rw [show ((K + 1 : Nat) : Int) = (K : Int) + 1 by omega] at this
        exact Lib.hid (this.trans (if_neg (by omega)))
      go_enter Try.func7, Try.ntmps7
      go_wp2_with (go_at_call 9; refine (mayr_any _ _ _ _ _ _).mono ?_; rintro e w1 ⟨rfl, hb⟩; rw [decide_eq_true HM.out]; have BX := Lib.hid ((hb.block w.heap.size (by simp)).trans BX0.out); have HB := Lib.hid (HB0.out.trans (hb.mono (by simp))); clear hb)
      rw [hK]
      obtain ⟨W, rfl⟩ : ∃ W : World, W = w1 := ⟨_, rfl⟩
      have hWs : Hid (w.heap.size ≤ W.heap.size) := HB.out.size
      go_upto_region 4 with fail
      refine region_inv (fun j v _ => v = (match j with | 0 => .agg #[.int .i64 B, .int .i64 P, .int .i64 S, .int .i64 D, .int .i64 U] | 1 => .int .i64 (K : Int) | 2 => .int .i64 0 | 3 => .agg #[.int .i64 B, .int .i64 P, .int .i64 S, .int .i64 D, .int .i64 U] | 4 => .int .i64 (K : Int) | 5 => .int .i64 ((K : Int) + 1) | 6 => .int .i64 0 | 7 => .int .i64 0 | 8 => .int .i64 0 | _ => undef)) (fun w' => Below W.heap.size W w') (fun _ _ => True) (by kernel_rfl) (by kernel_rfl) (by kernel_rfl) (fun _ _ _ _ h _ => h) (Below.refl _ _).drew ?_ ?_
      · refine OpsOk.cons ?o0 (OpsOk.cons ?o1 (OpsOk.cons ?o2 (OpsOk.cons ?o3 (OpsOk.cons ?o4 (OpsOk.cons ?o5 (OpsOk.cons ?o6 (OpsOk.cons ?o7 (OpsOk.cons ?o8 OpsOk.nil))))))))
        case o0 =>
          intro a w1 Kx hG need old hsz hK
          have e0 : a.tmps[2]?.getD undef = .pointer (some ⟨w.heap.size, 0, none⟩) := by rw [← Array.getD_eq_getD_getElem?]; exact old 2 (by kernel_rfl)
          obtain ⟨k0, k1, k2, k3, k4⟩ := cells5 ((hG.block w.heap.size (lt_size BX.out)).trans BX.out)
          refine op_value (v := .agg #[.int .i64 B, .int .i64 P, .int .i64 S, .int .i64 D, .int .i64 U]) (wanted_none rfl) ?_ (hK _ w1 rfl hG trivial)
          simp [execOp, go_sem, e0, k0, k1, k2, k3, k4]
        case o1 =>
          intro a w1 Kx hG need old hsz hK
          have e0 : a.tmps[1]?.getD undef = .int .i64 (K : Int) := by rw [← Array.getD_eq_getD_getElem?]; exact old 1 (by kernel_rfl)
          refine op_value (v := .int .i64 (K : Int)) (wanted_none rfl) ?_ (hK _ w1 rfl hG trivial)
          simp [execOp, go_sem, e0]
        case o2 =>
          intro a w1 Kx hG need old hsz hK
          have e0 : a.tmps[21]?.getD undef = .agg #[.int .i64 B, .int .i64 P, .int .i64 S, .int .i64 D, .int .i64 U] := by rw [← Array.getD_eq_getD_getElem?]; exact need 0 21 (by kernel_rfl) (by kernel_rfl)
          have e1 : a.tmps[22]?.getD undef = .int .i64 (K : Int) := by rw [← Array.getD_eq_getD_getElem?]; exact need 1 22 (by kernel_rfl) (by kernel_rfl)
          refine op_call (wanted_none rfl) (f := 16) (args := #[.agg #[.int .i64 B, .int .i64 P, .int .i64 S, .int .i64 D, .int .i64 U], .int .i64 (K : Int)]) ?run ((floorp_any B P S D U (K : Int) w1 (wf_of (by omega))).mono ?post)
          case run => simp [go_sem, e0, e1]
          case post =>
            rintro e w2 ⟨rfl, hb2⟩
            rw [EF.out]
            exact ⟨_, rfl, hK _ w2 rfl (hG.trans (hb2.mono hG.size)) trivial⟩
        case o3 =>
          intro a w1 Kx hG need old hsz hK
          have e0 : a.tmps[2]?.getD undef = .pointer (some ⟨w.heap.size, 0, none⟩) := by rw [← Array.getD_eq_getD_getElem?]; exact old 2 (by kernel_rfl)
          obtain ⟨k0, k1, k2, k3, k4⟩ := cells5 ((hG.block w.heap.size (lt_size BX.out)).trans BX.out)
          refine op_value (v := .agg #[.int .i64 B, .int .i64 P, .int .i64 S, .int .i64 D, .int .i64 U]) (wanted_none rfl) ?_ (hK _ w1 rfl hG trivial)
          simp [execOp, go_sem, e0, k0, k1, k2, k3, k4]
        case o4 =>
          intro a w1 Kx hG need old hsz hK
          have e0 : a.tmps[1]?.getD undef = .int .i64 (K : Int) := by rw [← Array.getD_eq_getD_getElem?]; exact old 1 (by kernel_rfl)
          refine op_value (v := .int .i64 (K : Int)) (wanted_none rfl) ?_ (hK _ w1 rfl hG trivial)
          simp [execOp, go_sem, e0]
        case o5 =>
          intro a w1 Kx hG need old hsz hK
          have e0 : a.tmps[25]?.getD undef = .int .i64 (K : Int) := by rw [← Array.getD_eq_getD_getElem?]; exact need 4 25 (by kernel_rfl) (by kernel_rfl)
          refine op_value (v := .int .i64 ((K : Int) + 1)) (wanted_none rfl) ?_ (hK _ w1 rfl hG trivial)
          simp [execOp, go_sem, e0] <;> first | omega | (rw [i64w_id _ (by omega)] <;> omega)
        case o6 =>
          intro a w1 Kx hG need old hsz hK
          have e0 : a.tmps[24]?.getD undef = .agg #[.int .i64 B, .int .i64 P, .int .i64 S, .int .i64 D, .int .i64 U] := by rw [← Array.getD_eq_getD_getElem?]; exact need 3 24 (by kernel_rfl) (by kernel_rfl)
          have e1 : a.tmps[26]?.getD undef = .int .i64 ((K : Int) + 1) := by rw [← Array.getD_eq_getD_getElem?]; exact need 5 26 (by kernel_rfl) (by kernel_rfl)
          refine op_call (wanted_none rfl) (f := 16) (args := #[.agg #[.int .i64 B, .int .i64 P, .int .i64 S, .int .i64 D, .int .i64 U], .int .i64 ((K : Int) + 1)]) ?run ((floorp_any B P S D U ((K : Int) + 1) w1 (wf_of (by omega))).mono ?post)
          case run => simp [go_sem, e0, e1]
          case post =>
            rintro e w2 ⟨rfl, hb2⟩
            rw [EG.out]
            exact ⟨_, rfl, hK _ w2 rfl (hG.trans (hb2.mono hG.size)) trivial⟩
        case o7 =>
          intro a w1 Kx hG need old hsz hK
          have e0 : a.tmps[23]?.getD undef = .int .i64 0 := by rw [← Array.getD_eq_getD_getElem?]; exact need 2 23 (by kernel_rfl) (by kernel_rfl)
          refine op_value (v := .int .i64 0) (wanted_none rfl) ?_ (hK _ w1 rfl hG trivial)
          simp [execOp, go_sem, e0]
        case o8 =>
          intro a w1 Kx hG need old hsz hK
          have e0 : a.tmps[27]?.getD undef = .int .i64 0 := by rw [← Array.getD_eq_getD_getElem?]; exact need 6 27 (by kernel_rfl) (by kernel_rfl)
          refine op_value (v := .int .i64 0) (wanted_none rfl) ?_ (hK _ w1 rfl hG trivial)
          simp [execOp, go_sem, e0]
      · intro a W2 hG hde hsz hφ hold
        have s1 : a.tmps.getD 1 undef = .int .i64 (K : Int) := hold 1 (by kernel_rfl)
        have s2 : a.tmps.getD 2 undef = .pointer (some ⟨w.heap.size, 0, none⟩) := hold 2 (by kernel_rfl)
        have s5 : a.tmps.getD 5 undef = .int .i64 0 := hφ 7 5 (by kernel_rfl)
        have s6 : a.tmps.getD 6 undef = .int .i64 0 := hφ 8 6 (by kernel_rfl)
        go_upto_region 5 with fail
        clear hold hφ
        have HB2 := Lib.hid (HB.out.trans (hG.mono hWs.out))
        have hWs2 : Hid (w.heap.size ≤ W2.heap.size) := HB2.out.size
        replace BX := Lib.hid ((hG.block w.heap.size (lt_size BX.out)).trans BX.out)
        clear hG
        refine region_inv (fun j v _ => v = (match j with | 0 => .agg #[.int .i64 B, .int .i64 P, .int .i64 S, .int .i64 D, .int .i64 U] | 1 => .int .i64 (S + 1) | 2 => .pointer (some ⟨w.heap.size, 2, none⟩) | 3 => .int .i64 S | 4 => .int .i64 (S + 1) | 5 => .bool true | 6 => .bool true | 7 => .int .i64 0 | 8 => .int .i64 0 | 9 => .int .i64 (-1) | 10 => .bool false | 11 => .bool false | 12 => .int .i64 0 | 13 => .bool true | 14 => .bool true | 15 => .int .i64 0 | 16 => .bool true | 17 => .bool true | 18 => .bool true | 19 => .bool true | 20 => .bool true | 21 => .int .i64 0 | 22 => .bool true | 23 => .int .i64 (K : Int) | 24 => .pointer (some ⟨w.heap.size, 2, none⟩) | 25 => .int .i64 S | 26 => .bool true | 27 => .bool true | 28 => .bool true | 29 => .bool true | 30 => .bool true | 31 => .bool true | 32 => .bool true | _ => undef)) (fun w' => Below W2.heap.size W2 w') (fun _ _ => True) (by kernel_rfl) (by kernel_rfl) (by rw [hsz]; kernel_rfl) (fun _ _ _ _ h _ => h) (Below.refl _ _).drew ?_ ?_
        · refine OpsOk.cons ?o0 (OpsOk.cons ?o1 (OpsOk.cons ?o2 (OpsOk.cons ?o3 (OpsOk.cons ?o4 (OpsOk.cons ?o5 (OpsOk.cons ?o6 (OpsOk.cons ?o7 (OpsOk.cons ?o8 (OpsOk.cons ?o9 (OpsOk.cons ?o10 (OpsOk.cons ?o11 (OpsOk.cons ?o12 (OpsOk.cons ?o13 (OpsOk.cons ?o14 (OpsOk.cons ?o15 (OpsOk.cons ?o16 (OpsOk.cons ?o17 (OpsOk.cons ?o18 (OpsOk.cons ?o19 (OpsOk.cons ?o20 (OpsOk.cons ?o21 (OpsOk.cons ?o22 (OpsOk.cons ?o23 (OpsOk.cons ?o24 (OpsOk.cons ?o25 (OpsOk.cons ?o26 (OpsOk.cons ?o27 (OpsOk.cons ?o28 (OpsOk.cons ?o29 (OpsOk.cons ?o30 (OpsOk.cons ?o31 (OpsOk.cons ?o32 OpsOk.nil))))))))))))))))))))))))))))))))
          case o0 =>
            intro a w1 Kx hG need old hsz hK
            have e0 : a.tmps[2]?.getD undef = .pointer (some ⟨w.heap.size, 0, none⟩) := by rw [← Array.getD_eq_getD_getElem?]; exact (old 2 (by kernel_rfl)).trans s2
            obtain ⟨k0, k1, k2, k3, k4⟩ := cells5 ((hG.block w.heap.size (lt_size BX.out)).trans BX.out)
            refine op_value (v := .agg #[.int .i64 B, .int .i64 P, .int .i64 S, .int .i64 D, .int .i64 U]) (wanted_none rfl) ?_ (hK _ w1 rfl hG trivial)
            simp [execOp, go_sem, e0, k0, k1, k2, k3, k4]
          case o1 =>
            intro a w1 Kx hG need old hsz hK
            have e0 : a.tmps[28]?.getD undef = .agg #[.int .i64 B, .int .i64 P, .int .i64 S, .int .i64 D, .int .i64 U] := by rw [← Array.getD_eq_getD_getElem?]; exact need 0 28 (by kernel_rfl) (by kernel_rfl)
            refine op_call (wanted_none rfl) (f := 16) (args := #[.agg #[.int .i64 B, .int .i64 P, .int .i64 S, .int .i64 D, .int .i64 U], .int .i64 0]) ?run ((floorp_any B P S D U 0 w1 (by decide)).mono ?post)
            case run => simp [go_sem, e0]
            case post =>
              rintro e w2 ⟨rfl, hb2⟩
              rw [E0.out]
              exact ⟨_, rfl, hK _ w2 rfl (hG.trans (hb2.mono hG.size)) trivial⟩
          case o2 =>
            intro a w1 Kx hG need old hsz hK
            have e0 : a.tmps[2]?.getD undef = .pointer (some ⟨w.heap.size, 0, none⟩) := by rw [← Array.getD_eq_getD_getElem?]; exact (old 2 (by kernel_rfl)).trans s2
            refine op_value (v := .pointer (some ⟨w.heap.size, 2, none⟩)) (wanted_none rfl) ?_ (hK _ w1 rfl hG trivial)
            simp [execOp, go_sem, e0]
          case o3 =>
            intro a w1 Kx hG need old hsz hK
            have e0 : a.tmps[30]?.getD undef = .pointer (some ⟨w.heap.size, 2, none⟩) := by rw [← Array.getD_eq_getD_getElem?]; exact need 2 30 (by kernel_rfl) (by kernel_rfl)
            have k0 := (cells5 ((hG.block w.heap.size (lt_size BX.out)).trans BX.out)).2.2.1
            refine op_value (v := .int .i64 S) (wanted_none rfl) ?_ (hK _ w1 rfl hG trivial)
            simp [execOp, go_sem, e0, k0]
          case o4 =>
            intro a w1 Kx hG need old hsz hK
            have e0 : a.tmps[31]?.getD undef = .int .i64 S := by rw [← Array.getD_eq_getD_getElem?]; exact need 3 31 (by kernel_rfl) (by kernel_rfl)
            refine op_value (v := .int .i64 (S + 1)) (wanted_none rfl) ?_ (hK _ w1 rfl hG trivial)
            simp [execOp, go_sem, e0] <;> first | omega | (rw [i64w_id _ (by omega)] <;> omega)
          case o5 =>
            intro a w1 Kx hG need old hsz hK
            have e0 : a.tmps[29]?.getD undef = .int .i64 (S + 1) := by rw [← Array.getD_eq_getD_getElem?]; exact need 1 29 (by kernel_rfl) (by kernel_rfl)
            have e1 : a.tmps[32]?.getD undef = .int .i64 (S + 1) := by rw [← Array.getD_eq_getD_getElem?]; exact need 4 32 (by kernel_rfl) (by kernel_rfl)
            refine op_value (v := .bool true) (wanted_none rfl) ?_ (hK _ w1 rfl hG trivial)
            simp [execOp, go_sem, e0, e1]
          case o6 =>
            intro a w1 Kx hG need old hsz hK
            have e0 : a.tmps[33]?.getD undef = .bool true := by rw [← Array.getD_eq_getD_getElem?]; exact need 5 33 (by kernel_rfl) (by kernel_rfl)
            refine op_value (v := .bool true) (wanted_none rfl) ?_ (hK _ w1 rfl hG trivial)
            simp [execOp, go_sem, e0]
          case o7 =>
            intro a w1 Kx hG need old hsz hK
            have e0 : a.tmps[6]?.getD undef = .int .i64 0 := by rw [← Array.getD_eq_getD_getElem?]; exact (old 6 (by kernel_rfl)).trans s6
            refine op_value (v := .int .i64 0) (wanted_of (j := 6) rfl (need 6 34 (by kernel_rfl) (by kernel_rfl))) ?_ (hK _ w1 rfl hG trivial)
            simp [execOp, go_sem, e0]
          case o8 =>
            intro a w1 Kx hG need old hsz hK
            have e0 : a.tmps[5]?.getD undef = .int .i64 0 := by rw [← Array.getD_eq_getD_getElem?]; exact (old 5 (by kernel_rfl)).trans s5
            refine op_value (v := .int .i64 0) (wanted_of (j := 6) rfl (need 6 34 (by kernel_rfl) (by kernel_rfl))) ?_ (hK _ w1 rfl hG trivial)
            simp [execOp, go_sem, e0]
          case o9 =>
            intro a w1 Kx hG need old hsz hK
            have e0 : a.tmps[36]?.getD undef = .int .i64 0 := by rw [← Array.getD_eq_getD_getElem?]; exact need 8 36 (by kernel_rfl) (by kernel_rfl)
            refine op_value (v := .int .i64 (-1)) (wanted_of (j := 6) rfl (need 6 34 (by kernel_rfl) (by kernel_rfl))) ?_ (hK _ w1 rfl hG trivial)
            simp [execOp, go_sem, e0] <;> first | omega | (rw [i64w_id _ (by omega)] <;> omega)
          case o10 =>
            intro a w1 Kx hG need old hsz hK
            have e0 : a.tmps[35]?.getD undef = .int .i64 0 := by rw [← Array.getD_eq_getD_getElem?]; exact need 7 35 (by kernel_rfl) (by kernel_rfl)
            have e1 : a.tmps[37]?.getD undef = .int .i64 (-1) := by rw [← Array.getD_eq_getD_getElem?]; exact need 9 37 (by kernel_rfl) (by kernel_rfl)
            refine op_value (v := .bool false) (wanted_of (j := 6) rfl (need 6 34 (by kernel_rfl) (by kernel_rfl))) ?_ (hK _ w1 rfl hG trivial)
            simp [execOp, go_sem, e0, e1]
          case o11 =>
            intro a w1 Kx hG need old hsz hK
            have e0 : a.tmps[38]?.getD undef = .bool false := by rw [← Array.getD_eq_getD_getElem?]; exact need 10 38 (by kernel_rfl) (by kernel_rfl)
            refine op_value (v := .bool false) (wanted_of (j := 6) rfl (need 6 34 (by kernel_rfl) (by kernel_rfl))) ?_ (hK _ w1 rfl hG trivial)
            simp [execOp, go_sem, e0]
          case o12 =>
            intro a w1 Kx hG need old hsz hK
            have e0 : a.tmps[5]?.getD undef = .int .i64 0 := by rw [← Array.getD_eq_getD_getElem?]; exact (old 5 (by kernel_rfl)).trans s5
            refine op_value (v := .int .i64 0) (wanted_of (j := 11) rfl (need 11 39 (by kernel_rfl) (by kernel_rfl))) ?_ (hK _ w1 rfl hG trivial)
            simp [execOp, go_sem, e0]
          case o13 =>
            intro a w1 Kx hG need old hsz hK
            have e0 : a.tmps[40]?.getD undef = .int .i64 0 := by rw [← Array.getD_eq_getD_getElem?]; exact need 12 40 (by kernel_rfl) (by kernel_rfl)
            refine op_value (v := .bool true) (wanted_of (j := 11) rfl (need 11 39 (by kernel_rfl) (by kernel_rfl))) ?_ (hK _ w1 rfl hG trivial)
            simp [execOp, go_sem, e0]
          case o14 =>
            intro a w1 Kx hG need old hsz hK
            have e0 : a.tmps[41]?.getD undef = .bool true := by rw [← Array.getD_eq_getD_getElem?]; exact need 13 41 (by kernel_rfl) (by kernel_rfl)
            refine op_value (v := .bool true) (wanted_of (j := 11) rfl (need 11 39 (by kernel_rfl) (by kernel_rfl))) ?_ (hK _ w1 rfl hG trivial)
            simp [execOp, go_sem, e0]
          case o15 =>
            intro a w1 Kx hG need old hsz hK
            have e0 : a.tmps[6]?.getD undef = .int .i64 0 := by rw [← Array.getD_eq_getD_getElem?]; exact (old 6 (by kernel_rfl)).trans s6
            refine op_value (v := .int .i64 0) (wanted_of (j := 14) rfl (need 14 42 (by kernel_rfl) (by kernel_rfl))) ?_ (hK _ w1 rfl hG trivial)
            simp [execOp, go_sem, e0]
          case o16 =>
            intro a w1 Kx hG need old hsz hK
            have e0 : a.tmps[43]?.getD undef = .int .i64 0 := by rw [← Array.getD_eq_getD_getElem?]; exact need 15 43 (by kernel_rfl) (by kernel_rfl)
            refine op_value (v := .bool true) (wanted_of (j := 14) rfl (need 14 42 (by kernel_rfl) (by kernel_rfl))) ?_ (hK _ w1 rfl hG trivial)
            simp [execOp, go_sem, e0]
          case o17 =>
            intro a w1 Kx hG need old hsz hK
            have e0 : a.tmps[42]?.getD undef = .bool true := by rw [← Array.getD_eq_getD_getElem?]; exact need 14 42 (by kernel_rfl) (by kernel_rfl)
            have e1 : a.tmps[44]?.getD undef = .bool true := by rw [← Array.getD_eq_getD_getElem?]; exact need 16 44 (by kernel_rfl) (by kernel_rfl)
            refine op_value (v := .bool true) (wanted_of (j := 11) rfl (need 11 39 (by kernel_rfl) (by kernel_rfl))) ?_ (hK _ w1 rfl hG trivial)
            simp [execOp, go_sem, asBool, e0, e1]
          case o18 =>
            intro a w1 Kx hG need old hsz hK
            have e0 : a.tmps[39]?.getD undef = .bool false := by rw [← Array.getD_eq_getD_getElem?]; exact need 11 39 (by kernel_rfl) (by kernel_rfl)
            have e1 : a.tmps[45]?.getD undef = .bool true := by rw [← Array.getD_eq_getD_getElem?]; exact need 17 45 (by kernel_rfl) (by kernel_rfl)
            refine op_value (v := .bool true) (wanted_of (j := 6) rfl (need 6 34 (by kernel_rfl) (by kernel_rfl))) ?_ (hK _ w1 rfl hG trivial)
            simp [execOp, go_sem, asBool, e0, e1]
          case o19 =>
            intro a w1 Kx hG need old hsz hK
            have e0 : a.tmps[34]?.getD undef = .bool true := by rw [← Array.getD_eq_getD_getElem?]; exact need 6 34 (by kernel_rfl) (by kernel_rfl)
            have e1 : a.tmps[46]?.getD undef = .bool true := by rw [← Array.getD_eq_getD_getElem?]; exact need 18 46 (by kernel_rfl) (by kernel_rfl)
            refine op_value (v := .bool true) (wanted_none rfl) ?_ (hK _ w1 rfl hG trivial)
            simp [execOp, go_sem, asBool, e0, e1]
          case o20 =>
            intro a w1 Kx hG need old hsz hK
            have e0 : a.tmps[47]?.getD undef = .bool true := by rw [← Array.getD_eq_getD_getElem?]; exact need 19 47 (by kernel_rfl) (by kernel_rfl)
            refine op_value (v := .bool true) (wanted_none rfl) ?_ (hK _ w1 rfl hG trivial)
            simp [execOp, go_sem, e0]
          case o21 =>
            intro a w1 Kx hG need old hsz hK
            have e0 : a.tmps[5]?.getD undef = .int .i64 0 := by rw [← Array.getD_eq_getD_getElem?]; exact (old 5 (by kernel_rfl)).trans s5
            refine op_value (v := .int .i64 0) (wanted_of (j := 20) rfl (need 20 48 (by kernel_rfl) (by kernel_rfl))) ?_ (hK _ w1 rfl hG trivial)
            simp [execOp, go_sem, e0]
          case o22 =>
            intro a w1 Kx hG need old hsz hK
            have e0 : a.tmps[49]?.getD undef = .int .i64 0 := by rw [← Array.getD_eq_getD_getElem?]; exact need 21 49 (by kernel_rfl) (by kernel_rfl)
            refine op_value (v := .bool true) (wanted_of (j := 20) rfl (need 20 48 (by kernel_rfl) (by kernel_rfl))) ?_ (hK _ w1 rfl hG trivial)
            simp [execOp, go_sem, e0]
          case o23 =>
            intro a w1 Kx hG need old hsz hK
            have e0 : a.tmps[1]?.getD undef = .int .i64 (K : Int) := by rw [← Array.getD_eq_getD_getElem?]; exact (old 1 (by kernel_rfl)).trans s1
            refine op_value (v := .int .i64 (K : Int)) (wanted_of (j := 20) rfl (need 20 48 (by kernel_rfl) (by kernel_rfl))) ?_ (hK _ w1 rfl hG trivial)
            simp [execOp, go_sem, e0]
          case o24 =>
            intro a w1 Kx hG need old hsz hK
            have e0 : a.tmps[2]?.getD undef = .pointer (some ⟨w.heap.size, 0, none⟩) := by rw [← Array.getD_eq_getD_getElem?]; exact (old 2 (by kernel_rfl)).trans s2
            refine op_value (v := .pointer (some ⟨w.heap.size, 2, none⟩)) (wanted_of (j := 20) rfl (need 20 48 (by kernel_rfl) (by kernel_rfl))) ?_ (hK _ w1 rfl hG trivial)
            simp [execOp, go_sem, e0]
          case o25 =>
            intro a w1 Kx hG need old hsz hK
            have e0 : a.tmps[52]?.getD undef = .pointer (some ⟨w.heap.size, 2, none⟩) := by rw [← Array.getD_eq_getD_getElem?]; exact need 24 52 (by kernel_rfl) (by kernel_rfl)
            have k0 := (cells5 ((hG.block w.heap.size (lt_size BX.out)).trans BX.out)).2.2.1
            refine op_value (v := .int .i64 S) (wanted_of (j := 20) rfl (need 20 48 (by kernel_rfl) (by kernel_rfl))) ?_ (hK _ w1 rfl hG trivial)
            simp [execOp, go_sem, e0, k0]
          case o26 =>
            intro a w1 Kx hG need old hsz hK
            have e0 : a.tmps[51]?.getD undef = .int .i64 (K : Int) := by rw [← Array.getD_eq_getD_getElem?]; exact need 23 51 (by kernel_rfl) (by kernel_rfl)
            have e1 : a.tmps[53]?.getD undef = .int .i64 S := by rw [← Array.getD_eq_getD_getElem?]; exact need 25 53 (by kernel_rfl) (by kernel_rfl)
            refine op_value (v := .bool true) (wanted_of (j := 20) rfl (need 20 48 (by kernel_rfl) (by kernel_rfl))) ?_ (hK _ w1 rfl hG trivial)
            simp [execOp, go_sem, e0, e1] <;> first | omega | (rw [i64w_id _ (by omega)] <;> omega)
          case o27 =>
            intro a w1 Kx hG need old hsz hK
            have e0 : a.tmps[50]?.getD undef = .bool true := by rw [← Array.getD_eq_getD_getElem?]; exact need 22 50 (by kernel_rfl) (by kernel_rfl)
            have e1 : a.tmps[54]?.getD undef = .bool true := by rw [← Array.getD_eq_getD_getElem?]; exact need 26 54 (by kernel_rfl) (by kernel_rfl)
            refine op_value (v := .bool true) (wanted_of (j := 20) rfl (need 20 48 (by kernel_rfl) (by kernel_rfl))) ?_ (hK _ w1 rfl hG trivial)
            simp [execOp, go_sem, bool_eql, e0, e1]
          case o28 =>
            intro a w1 Kx hG need old hsz hK
            have e0 : a.tmps[48]?.getD undef = .bool true := by rw [← Array.getD_eq_getD_getElem?]; exact need 20 48 (by kernel_rfl) (by kernel_rfl)
            have e1 : a.tmps[55]?.getD undef = .bool true := by rw [← Array.getD_eq_getD_getElem?]; exact need 27 55 (by kernel_rfl) (by kernel_rfl)
            refine op_value (v := .bool true) (wanted_none rfl) ?_ (hK _ w1 rfl hG trivial)
            simp [execOp, go_sem, asBool, e0, e1]
          case o29 =>
            intro a w1 Kx hG need old hsz hK
            have e0 : a.tmps[56]?.getD undef = .bool true := by rw [← Array.getD_eq_getD_getElem?]; exact need 28 56 (by kernel_rfl) (by kernel_rfl)
            refine op_value (v := .bool true) (wanted_none rfl) ?_ (hK _ w1 rfl hG trivial)
            simp [execOp, go_sem, e0]
          case o30 =>
            intro a w1 Kx hG need old hsz hK
            refine op_call (wanted_of (j := 29) rfl (need 29 57 (by kernel_rfl) (by kernel_rfl))) (f := 18) (args := #[]) ?run ((awake_any w1).mono ?post)
            case run => simp [go_sem]
            case post =>
              rintro e w2 ⟨rfl, hb2⟩
              exact ⟨_, rfl, hK _ w2 rfl (hG.trans (hb2.mono hG.size)) trivial⟩
          case o31 =>
            intro a w1 Kx hG need old hsz hK
            have e0 : a.tmps[57]?.getD undef = .bool true := by rw [← Array.getD_eq_getD_getElem?]; exact need 29 57 (by kernel_rfl) (by kernel_rfl)
            have e1 : a.tmps[58]?.getD undef = .bool true := by rw [← Array.getD_eq_getD_getElem?]; exact need 30 58 (by kernel_rfl) (by kernel_rfl)
            refine op_value (v := .bool true) (wanted_none rfl) ?_ (hK _ w1 rfl hG trivial)
            simp [execOp, go_sem, asBool, e0, e1]
          case o32 =>
            intro a w1 Kx hG need old hsz hK
            have e0 : a.tmps[59]?.getD undef = .bool true := by rw [← Array.getD_eq_getD_getElem?]; exact need 31 59 (by kernel_rfl) (by kernel_rfl)
            refine op_value (v := .bool true) (wanted_none rfl) ?_ (hK _ w1 rfl hG trivial)
            simp [execOp, go_sem, e0]
        · intro a' w' hG hde' hsz' hφ hold
          have hr : a'.tmps.getD 4 undef = .bool true := hφ 32 4 (by kernel_rfl)
          go_wp2
          refine bodyPost_ret (v := .bool true) ?_ (hde'.trans hde) ⟨rfl, HB2.out.trans (hG.mono hWs2.out)⟩
          rw [results_tmp (t := 4) rfl, hr]
  · have HM := Lib.hid hM
    have E := Lib.hid (show floorP B P S D U b = 0 by unfold floorP; rw [if_neg (fun h => hM h.1)])
    have HBD := Lib.hid hbd
    clear hM hbd
    go_enter Try.func7, Try.ntmps7
    go_wp2_with (first
      | (go_at_call 9; refine (mayr_any _ _ _ _ _ _).mono ?_; rintro e w1 ⟨rfl, hb⟩; rw [decide_eq_false HM.out]; have HB := Lib.hid (HB0.out.trans (hb.mono (by simp))); obtain ⟨k0, k1, k2, k3, k4⟩ := cells5 ((hb.block w.heap.size (by simp)).trans BX0.out); clear hb)
      | (go_at_call 16; refine (floorp_any _ _ _ _ _ _ _ HBD.out).mono ?_; rintro e w2 ⟨rfl, hb⟩; rw [E.out]; have HB2 := Lib.hid (HB.out.trans (hb.mono HB.out.size)); clear hb k0 k1 k2 k3 k4)
      | (go_at_call 18; refine (awake_any _).mono ?_; rintro e w3 ⟨rfl, hb3⟩))
    go_ret
    exact ⟨rfl, HB2.out.trans (hb3.mono HB2.out.size)⟩
end Go.Proofs.Ytfnhmnfhkhjojaa
