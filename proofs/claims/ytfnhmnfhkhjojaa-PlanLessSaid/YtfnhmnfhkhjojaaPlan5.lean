/- PlanStays: the law's walk (drawn regions written by plan5.py). -/
import Derived.Test.YtfnhmnfhkhjojaaPlan4
namespace Go.Proofs.Ytfnhmnfhkhjojaa
open Go.RowKit

theorem fits_room {B P S D U bad : Int} (h : FitsP B P S D U bad) : 0 < B - bad - S - 1 ∧ roomP B P S D U bad = (B - bad - S - 1) * P ∧ D + 8 ≤ (B - bad - S - 1) * P := by
  obtain ⟨hM, hb, hr⟩ := h
  rw [needP_yes hM] at hr
  have hD := hM.2.2.2.1
  have e : roomP B P S D U bad = if 0 < B - bad - S - 1 then (B - bad - S - 1) * P else 0 := if_pos ⟨hM, hb⟩
  by_cases h0 : 0 < B - bad - S - 1
  · rw [if_pos h0] at e
    exact ⟨h0, e, by omega⟩
  · rw [if_neg h0] at e
    omega
theorem u64_upto (x S : Int) (h0 : 0 ≤ S) : ∃ K : Nat, (K : Int) ≤ S ∧ IntKind.u64.wrap x % (S + 1) = (K : Int) := by
  have h1 := Int.emod_nonneg (IntKind.u64.wrap x) (show S + 1 ≠ 0 by omega)
  have h2 := Int.emod_lt_of_pos (IntKind.u64.wrap x) (show 0 < S + 1 by omega)
  exact ⟨(IntKind.u64.wrap x % (S + 1)).toNat, by omega, by omega⟩
set_option maxRecDepth 100000 in
set_option maxHeartbeats 4000000 in
theorem stays_any (B P S D U bad b : Int) (w : World) (hbd : (Lit.int .i64 bad).wf = true) (_hb : (Lit.int .i64 b).wf = true) :
    Calls Try.prog 5 #[.agg #[.int .i64 B, .int .i64 P, .int .i64 S, .int .i64 D, .int .i64 U], .int .i64 bad, .int .i64 b] w (Holds w) := by
  have HB0 := Lib.hid ((Below.refl w.heap.size w).alloc (Nat.le_refl _) (.cells #[.int .i64 B, .int .i64 P, .int .i64 S, .int .i64 D, .int .i64 U] 23))
  have BX0 := Lib.hid (heap_alloc_new w (.cells #[.int .i64 B, .int .i64 P, .int .i64 S, .int .i64 D, .int .i64 U] 23))
  have HBD := Lib.hid hbd
  clear hbd
  by_cases hF : FitsP B P S D U bad
  · have HF := Lib.hid hF
    obtain ⟨hx, hro, hne⟩ := fits_room hF
    have ER := Lib.hid hro
    have hB := hF.1.1
    have hP := hF.1.2.1
    have hS := hF.1.2.2.1
    have hD := hF.1.2.2.2.1
    have hbad := hF.2.1
    have hp1 : (B - bad - S - 1) * P ≤ 64 * 32 := Int.mul_le_mul (by omega) (by omega) (by omega) (by omega)
    obtain ⟨K, hKS, hK⟩ := u64_upto b S hS.1
    have EF := Lib.hid ((floorP_yes hF.1 K).trans (if_pos hKS))
    have r0 := u64_rngp b
    clear hF hro
    go_enter Try.func5, Try.ntmps5
    go_wp2_with (go_at_call 15; refine (fitsr_any _ _ _ _ _ _ _ HBD.out).mono ?_; rintro e w1 ⟨rfl, hb⟩; rw [decide_eq_true HF.out]; have BX := Lib.hid ((hb.block w.heap.size (by simp)).trans BX0.out); obtain ⟨_, _, k2, _, _⟩ := cells5 BX.out; have HB := Lib.hid (HB0.out.trans (hb.mono (by simp))); clear hb)
    rw [hK]
    obtain ⟨W, rfl⟩ : ∃ W : World, W = w1 := ⟨_, rfl⟩
    have hWs : Hid (w.heap.size ≤ W.heap.size) := HB.out.size
    clear k2
    go_upto_region 4 with fail
    refine region_inv (fun j v _ => v = (match j with | 0 => .pointer (some ⟨w.heap.size, 0, none⟩) | 1 => .int .i64 B | 2 => .int .i64 bad | 3 => .int .i64 (B - bad) | 4 => .int .i64 (K : Int) | 5 => .int .i64 (B - bad - (K : Int)) | 6 => .agg #[.int .i64 B, .int .i64 P, .int .i64 S, .int .i64 D, .int .i64 U] | 7 => .int .i64 (K : Int) | 8 => .int .i64 (S - (K : Int) + 1) | 9 => .int .i64 (B - bad - S - 1) | 10 => .int .i64 (B - bad - S - 1) | _ => undef)) (fun w' => Below W.heap.size W w') (fun _ _ => True) (by kernel_rfl) (by kernel_rfl) (by kernel_rfl) (fun _ _ _ _ h _ => h) (Below.refl _ _).drew ?_ ?_
    · refine OpsOk.cons ?o0 (OpsOk.cons ?o1 (OpsOk.cons ?o2 (OpsOk.cons ?o3 (OpsOk.cons ?o4 (OpsOk.cons ?o5 (OpsOk.cons ?o6 (OpsOk.cons ?o7 (OpsOk.cons ?o8 (OpsOk.cons ?o9 (OpsOk.cons ?o10 OpsOk.nil))))))))))
      case o0 =>
        intro a w1 Kx hG need old hsz hK
        have e0 : a.tmps[3]?.getD undef = .pointer (some ⟨w.heap.size, 0, none⟩) := by rw [← Array.getD_eq_getD_getElem?]; exact old 3 (by kernel_rfl)
        refine op_value (v := .pointer (some ⟨w.heap.size, 0, none⟩)) (wanted_none rfl) ?_ (hK _ w1 rfl hG trivial)
        simp [execOp, go_sem, e0]
      case o1 =>
        intro a w1 Kx hG need old hsz hK
        have e0 : a.tmps[27]?.getD undef = .pointer (some ⟨w.heap.size, 0, none⟩) := by rw [← Array.getD_eq_getD_getElem?]; exact need 0 27 (by kernel_rfl) (by kernel_rfl)
        have k0 := (cells5 ((hG.block w.heap.size (lt_size BX.out)).trans BX.out)).1
        refine op_value (v := .int .i64 B) (wanted_none rfl) ?_ (hK _ w1 rfl hG trivial)
        simp [execOp, go_sem, e0, k0]
      case o2 =>
        intro a w1 Kx hG need old hsz hK
        have e0 : a.tmps[1]?.getD undef = .int .i64 bad := by rw [← Array.getD_eq_getD_getElem?]; exact old 1 (by kernel_rfl)
        refine op_value (v := .int .i64 bad) (wanted_none rfl) ?_ (hK _ w1 rfl hG trivial)
        simp [execOp, go_sem, e0]
      case o3 =>
        intro a w1 Kx hG need old hsz hK
        have e0 : a.tmps[28]?.getD undef = .int .i64 B := by rw [← Array.getD_eq_getD_getElem?]; exact need 1 28 (by kernel_rfl) (by kernel_rfl)
        have e1 : a.tmps[29]?.getD undef = .int .i64 bad := by rw [← Array.getD_eq_getD_getElem?]; exact need 2 29 (by kernel_rfl) (by kernel_rfl)
        refine op_value (v := .int .i64 (B - bad)) (wanted_none rfl) ?_ (hK _ w1 rfl hG trivial)
        simp [execOp, go_sem, e0, e1] <;> first | omega | (rw [i64w_id _ (by omega)] <;> omega)
      case o4 =>
        intro a w1 Kx hG need old hsz hK
        have e0 : a.tmps[2]?.getD undef = .int .i64 (K : Int) := by rw [← Array.getD_eq_getD_getElem?]; exact old 2 (by kernel_rfl)
        refine op_value (v := .int .i64 (K : Int)) (wanted_none rfl) ?_ (hK _ w1 rfl hG trivial)
        simp [execOp, go_sem, e0]
      case o5 =>
        intro a w1 Kx hG need old hsz hK
        have e0 : a.tmps[30]?.getD undef = .int .i64 (B - bad) := by rw [← Array.getD_eq_getD_getElem?]; exact need 3 30 (by kernel_rfl) (by kernel_rfl)
        have e1 : a.tmps[31]?.getD undef = .int .i64 (K : Int) := by rw [← Array.getD_eq_getD_getElem?]; exact need 4 31 (by kernel_rfl) (by kernel_rfl)
        refine op_value (v := .int .i64 (B - bad - (K : Int))) (wanted_none rfl) ?_ (hK _ w1 rfl hG trivial)
        simp [execOp, go_sem, e0, e1] <;> first | omega | (rw [i64w_id _ (by omega)] <;> omega)
      case o6 =>
        intro a w1 Kx hG need old hsz hK
        have e0 : a.tmps[3]?.getD undef = .pointer (some ⟨w.heap.size, 0, none⟩) := by rw [← Array.getD_eq_getD_getElem?]; exact old 3 (by kernel_rfl)
        obtain ⟨k0, k1, k2, k3, k4⟩ := cells5 ((hG.block w.heap.size (lt_size BX.out)).trans BX.out)
        refine op_value (v := .agg #[.int .i64 B, .int .i64 P, .int .i64 S, .int .i64 D, .int .i64 U]) (wanted_none rfl) ?_ (hK _ w1 rfl hG trivial)
        simp [execOp, go_sem, e0, k0, k1, k2, k3, k4]
      case o7 =>
        intro a w1 Kx hG need old hsz hK
        have e0 : a.tmps[2]?.getD undef = .int .i64 (K : Int) := by rw [← Array.getD_eq_getD_getElem?]; exact old 2 (by kernel_rfl)
        refine op_value (v := .int .i64 (K : Int)) (wanted_none rfl) ?_ (hK _ w1 rfl hG trivial)
        simp [execOp, go_sem, e0]
      case o8 =>
        intro a w1 Kx hG need old hsz hK
        have e0 : a.tmps[33]?.getD undef = .agg #[.int .i64 B, .int .i64 P, .int .i64 S, .int .i64 D, .int .i64 U] := by rw [← Array.getD_eq_getD_getElem?]; exact need 6 33 (by kernel_rfl) (by kernel_rfl)
        have e1 : a.tmps[34]?.getD undef = .int .i64 (K : Int) := by rw [← Array.getD_eq_getD_getElem?]; exact need 7 34 (by kernel_rfl) (by kernel_rfl)
        refine op_call (wanted_none rfl) (f := 16) (args := #[.agg #[.int .i64 B, .int .i64 P, .int .i64 S, .int .i64 D, .int .i64 U], .int .i64 (K : Int)]) ?run ((floorp_any B P S D U (K : Int) w1 (wf_of (by omega))).mono ?post)
        case run => simp [go_sem, e0, e1]
        case post =>
          rintro e w2 ⟨rfl, hb2⟩
          rw [EF.out]
          exact ⟨_, rfl, hK _ w2 rfl (hG.trans (hb2.mono hG.size)) trivial⟩
      case o9 =>
        intro a w1 Kx hG need old hsz hK
        have e0 : a.tmps[32]?.getD undef = .int .i64 (B - bad - (K : Int)) := by rw [← Array.getD_eq_getD_getElem?]; exact need 5 32 (by kernel_rfl) (by kernel_rfl)
        have e1 : a.tmps[35]?.getD undef = .int .i64 (S - (K : Int) + 1) := by rw [← Array.getD_eq_getD_getElem?]; exact need 8 35 (by kernel_rfl) (by kernel_rfl)
        refine op_value (v := .int .i64 (B - bad - S - 1)) (wanted_none rfl) ?_ (hK _ w1 rfl hG trivial)
        simp [execOp, go_sem, e0, e1] <;> first | omega | (rw [i64w_id _ (by omega)] <;> omega)
      case o10 =>
        intro a w1 Kx hG need old hsz hK
        have e0 : a.tmps[36]?.getD undef = .int .i64 (B - bad - S - 1) := by rw [← Array.getD_eq_getD_getElem?]; exact need 9 36 (by kernel_rfl) (by kernel_rfl)
        refine op_value (v := .int .i64 (B - bad - S - 1)) (wanted_none rfl) ?_ (hK _ w1 rfl hG trivial)
        simp [execOp, go_sem, e0]
    · intro a W2 hG hde hsz hφ hold
      have s1 : a.tmps.getD 1 undef = .int .i64 bad := hold 1 (by kernel_rfl)
      have s3 : a.tmps.getD 3 undef = .pointer (some ⟨w.heap.size, 0, none⟩) := hold 3 (by kernel_rfl)
      have s7 : a.tmps.getD 7 undef = .int .i64 (B - bad - S - 1) := hφ 10 7 (by kernel_rfl)
      go_upto_region 5 with fail
      clear hold hφ
      have HB2 := Lib.hid (HB.out.trans (hG.mono hWs.out))
      have hWs2 : Hid (w.heap.size ≤ W2.heap.size) := HB2.out.size
      replace BX := Lib.hid ((hG.block w.heap.size (lt_size BX.out)).trans BX.out)
      clear hG
      refine region_inv (fun j v _ => v = (match j with | 0 => .int .i64 (B - bad - S - 1) | 1 => .pointer (some ⟨w.heap.size, 1, none⟩) | 2 => .int .i64 P | 3 => .int .i64 ((B - bad - S - 1) * P) | 4 => .agg #[.int .i64 B, .int .i64 P, .int .i64 S, .int .i64 D, .int .i64 U] | 5 => .int .i64 bad | 6 => .int .i64 ((B - bad - S - 1) * P) | 7 => .bool true | 8 => .bool true | 9 => .int .i64 (B - bad - S - 1) | 10 => .pointer (some ⟨w.heap.size, 1, none⟩) | 11 => .int .i64 P | 12 => .int .i64 ((B - bad - S - 1) * P) | 13 => .pointer (some ⟨w.heap.size, 3, none⟩) | 14 => .int .i64 D | 15 => .int .i64 (D + 1) | 16 => .int .i64 (D + 6) | 17 => .int .i64 (D + 7) | 18 => .bool true | 19 => .bool true | 20 => .bool true | 21 => .bool true | 22 => .bool true | 23 => .bool true | _ => undef)) (fun w' => Below W2.heap.size W2 w') (fun _ _ => True) (by kernel_rfl) (by kernel_rfl) (by rw [hsz]; kernel_rfl) (fun _ _ _ _ h _ => h) (Below.refl _ _).drew ?_ ?_
      · refine OpsOk.cons ?o0 (OpsOk.cons ?o1 (OpsOk.cons ?o2 (OpsOk.cons ?o3 (OpsOk.cons ?o4 (OpsOk.cons ?o5 (OpsOk.cons ?o6 (OpsOk.cons ?o7 (OpsOk.cons ?o8 (OpsOk.cons ?o9 (OpsOk.cons ?o10 (OpsOk.cons ?o11 (OpsOk.cons ?o12 (OpsOk.cons ?o13 (OpsOk.cons ?o14 (OpsOk.cons ?o15 (OpsOk.cons ?o16 (OpsOk.cons ?o17 (OpsOk.cons ?o18 (OpsOk.cons ?o19 (OpsOk.cons ?o20 (OpsOk.cons ?o21 (OpsOk.cons ?o22 (OpsOk.cons ?o23 OpsOk.nil)))))))))))))))))))))))
        case o0 =>
          intro a w1 Kx hG need old hsz hK
          have e0 : a.tmps[7]?.getD undef = .int .i64 (B - bad - S - 1) := by rw [← Array.getD_eq_getD_getElem?]; exact (old 7 (by kernel_rfl)).trans s7
          refine op_value (v := .int .i64 (B - bad - S - 1)) (wanted_none rfl) ?_ (hK _ w1 rfl hG trivial)
          simp [execOp, go_sem, e0]
        case o1 =>
          intro a w1 Kx hG need old hsz hK
          have e0 : a.tmps[3]?.getD undef = .pointer (some ⟨w.heap.size, 0, none⟩) := by rw [← Array.getD_eq_getD_getElem?]; exact (old 3 (by kernel_rfl)).trans s3
          refine op_value (v := .pointer (some ⟨w.heap.size, 1, none⟩)) (wanted_none rfl) ?_ (hK _ w1 rfl hG trivial)
          simp [execOp, go_sem, e0]
        case o2 =>
          intro a w1 Kx hG need old hsz hK
          have e0 : a.tmps[38]?.getD undef = .pointer (some ⟨w.heap.size, 1, none⟩) := by rw [← Array.getD_eq_getD_getElem?]; exact need 1 38 (by kernel_rfl) (by kernel_rfl)
          have k0 := (cells5 ((hG.block w.heap.size (lt_size BX.out)).trans BX.out)).2.1
          refine op_value (v := .int .i64 P) (wanted_none rfl) ?_ (hK _ w1 rfl hG trivial)
          simp [execOp, go_sem, e0, k0]
        case o3 =>
          intro a w1 Kx hG need old hsz hK
          have e0 : a.tmps[37]?.getD undef = .int .i64 (B - bad - S - 1) := by rw [← Array.getD_eq_getD_getElem?]; exact need 0 37 (by kernel_rfl) (by kernel_rfl)
          have e1 : a.tmps[39]?.getD undef = .int .i64 P := by rw [← Array.getD_eq_getD_getElem?]; exact need 2 39 (by kernel_rfl) (by kernel_rfl)
          refine op_value (v := .int .i64 ((B - bad - S - 1) * P)) (wanted_none rfl) ?_ (hK _ w1 rfl hG trivial)
          simp [execOp, go_sem, e0, e1] <;> first | omega | (rw [i64w_id _ (by omega)] <;> omega)
        case o4 =>
          intro a w1 Kx hG need old hsz hK
          have e0 : a.tmps[3]?.getD undef = .pointer (some ⟨w.heap.size, 0, none⟩) := by rw [← Array.getD_eq_getD_getElem?]; exact (old 3 (by kernel_rfl)).trans s3
          obtain ⟨k0, k1, k2, k3, k4⟩ := cells5 ((hG.block w.heap.size (lt_size BX.out)).trans BX.out)
          refine op_value (v := .agg #[.int .i64 B, .int .i64 P, .int .i64 S, .int .i64 D, .int .i64 U]) (wanted_none rfl) ?_ (hK _ w1 rfl hG trivial)
          simp [execOp, go_sem, e0, k0, k1, k2, k3, k4]
        case o5 =>
          intro a w1 Kx hG need old hsz hK
          have e0 : a.tmps[1]?.getD undef = .int .i64 bad := by rw [← Array.getD_eq_getD_getElem?]; exact (old 1 (by kernel_rfl)).trans s1
          refine op_value (v := .int .i64 bad) (wanted_none rfl) ?_ (hK _ w1 rfl hG trivial)
          simp [execOp, go_sem, e0]
        case o6 =>
          intro a w1 Kx hG need old hsz hK
          have e0 : a.tmps[41]?.getD undef = .agg #[.int .i64 B, .int .i64 P, .int .i64 S, .int .i64 D, .int .i64 U] := by rw [← Array.getD_eq_getD_getElem?]; exact need 4 41 (by kernel_rfl) (by kernel_rfl)
          have e1 : a.tmps[42]?.getD undef = .int .i64 bad := by rw [← Array.getD_eq_getD_getElem?]; exact need 5 42 (by kernel_rfl) (by kernel_rfl)
          refine op_call (wanted_none rfl) (f := 12) (args := #[.agg #[.int .i64 B, .int .i64 P, .int .i64 S, .int .i64 D, .int .i64 U], .int .i64 bad]) ?run ((roomp_any B P S D U bad w1 HBD.out).mono ?post)
          case run => simp [go_sem, e0, e1]
          case post =>
            rintro e w2 ⟨rfl, hb2⟩
            rw [ER.out]
            exact ⟨_, rfl, hK _ w2 rfl (hG.trans (hb2.mono hG.size)) trivial⟩
        case o7 =>
          intro a w1 Kx hG need old hsz hK
          have e0 : a.tmps[40]?.getD undef = .int .i64 ((B - bad - S - 1) * P) := by rw [← Array.getD_eq_getD_getElem?]; exact need 3 40 (by kernel_rfl) (by kernel_rfl)
          have e1 : a.tmps[43]?.getD undef = .int .i64 ((B - bad - S - 1) * P) := by rw [← Array.getD_eq_getD_getElem?]; exact need 6 43 (by kernel_rfl) (by kernel_rfl)
          refine op_value (v := .bool true) (wanted_none rfl) ?_ (hK _ w1 rfl hG trivial)
          simp [execOp, go_sem, e0, e1]
        case o8 =>
          intro a w1 Kx hG need old hsz hK
          have e0 : a.tmps[44]?.getD undef = .bool true := by rw [← Array.getD_eq_getD_getElem?]; exact need 7 44 (by kernel_rfl) (by kernel_rfl)
          refine op_value (v := .bool true) (wanted_none rfl) ?_ (hK _ w1 rfl hG trivial)
          simp [execOp, go_sem, e0]
        case o9 =>
          intro a w1 Kx hG need old hsz hK
          have e0 : a.tmps[7]?.getD undef = .int .i64 (B - bad - S - 1) := by rw [← Array.getD_eq_getD_getElem?]; exact (old 7 (by kernel_rfl)).trans s7
          refine op_value (v := .int .i64 (B - bad - S - 1)) (wanted_of (j := 8) rfl (need 8 45 (by kernel_rfl) (by kernel_rfl))) ?_ (hK _ w1 rfl hG trivial)
          simp [execOp, go_sem, e0]
        case o10 =>
          intro a w1 Kx hG need old hsz hK
          have e0 : a.tmps[3]?.getD undef = .pointer (some ⟨w.heap.size, 0, none⟩) := by rw [← Array.getD_eq_getD_getElem?]; exact (old 3 (by kernel_rfl)).trans s3
          refine op_value (v := .pointer (some ⟨w.heap.size, 1, none⟩)) (wanted_of (j := 8) rfl (need 8 45 (by kernel_rfl) (by kernel_rfl))) ?_ (hK _ w1 rfl hG trivial)
          simp [execOp, go_sem, e0]
        case o11 =>
          intro a w1 Kx hG need old hsz hK
          have e0 : a.tmps[47]?.getD undef = .pointer (some ⟨w.heap.size, 1, none⟩) := by rw [← Array.getD_eq_getD_getElem?]; exact need 10 47 (by kernel_rfl) (by kernel_rfl)
          have k0 := (cells5 ((hG.block w.heap.size (lt_size BX.out)).trans BX.out)).2.1
          refine op_value (v := .int .i64 P) (wanted_of (j := 8) rfl (need 8 45 (by kernel_rfl) (by kernel_rfl))) ?_ (hK _ w1 rfl hG trivial)
          simp [execOp, go_sem, e0, k0]
        case o12 =>
          intro a w1 Kx hG need old hsz hK
          have e0 : a.tmps[46]?.getD undef = .int .i64 (B - bad - S - 1) := by rw [← Array.getD_eq_getD_getElem?]; exact need 9 46 (by kernel_rfl) (by kernel_rfl)
          have e1 : a.tmps[48]?.getD undef = .int .i64 P := by rw [← Array.getD_eq_getD_getElem?]; exact need 11 48 (by kernel_rfl) (by kernel_rfl)
          refine op_value (v := .int .i64 ((B - bad - S - 1) * P)) (wanted_of (j := 8) rfl (need 8 45 (by kernel_rfl) (by kernel_rfl))) ?_ (hK _ w1 rfl hG trivial)
          simp [execOp, go_sem, e0, e1] <;> first | omega | (rw [i64w_id _ (by omega)] <;> omega)
        case o13 =>
          intro a w1 Kx hG need old hsz hK
          have e0 : a.tmps[3]?.getD undef = .pointer (some ⟨w.heap.size, 0, none⟩) := by rw [← Array.getD_eq_getD_getElem?]; exact (old 3 (by kernel_rfl)).trans s3
          refine op_value (v := .pointer (some ⟨w.heap.size, 3, none⟩)) (wanted_of (j := 8) rfl (need 8 45 (by kernel_rfl) (by kernel_rfl))) ?_ (hK _ w1 rfl hG trivial)
          simp [execOp, go_sem, e0]
        case o14 =>
          intro a w1 Kx hG need old hsz hK
          have e0 : a.tmps[50]?.getD undef = .pointer (some ⟨w.heap.size, 3, none⟩) := by rw [← Array.getD_eq_getD_getElem?]; exact need 13 50 (by kernel_rfl) (by kernel_rfl)
          have k0 := (cells5 ((hG.block w.heap.size (lt_size BX.out)).trans BX.out)).2.2.2.1
          refine op_value (v := .int .i64 D) (wanted_of (j := 8) rfl (need 8 45 (by kernel_rfl) (by kernel_rfl))) ?_ (hK _ w1 rfl hG trivial)
          simp [execOp, go_sem, e0, k0]
        case o15 =>
          intro a w1 Kx hG need old hsz hK
          have e0 : a.tmps[51]?.getD undef = .int .i64 D := by rw [← Array.getD_eq_getD_getElem?]; exact need 14 51 (by kernel_rfl) (by kernel_rfl)
          refine op_value (v := .int .i64 (D + 1)) (wanted_of (j := 8) rfl (need 8 45 (by kernel_rfl) (by kernel_rfl))) ?_ (hK _ w1 rfl hG trivial)
          simp [execOp, go_sem, e0] <;> first | omega | (rw [i64w_id _ (by omega)] <;> omega)
        case o16 =>
          intro a w1 Kx hG need old hsz hK
          have e0 : a.tmps[52]?.getD undef = .int .i64 (D + 1) := by rw [← Array.getD_eq_getD_getElem?]; exact need 15 52 (by kernel_rfl) (by kernel_rfl)
          refine op_value (v := .int .i64 (D + 6)) (wanted_of (j := 8) rfl (need 8 45 (by kernel_rfl) (by kernel_rfl))) ?_ (hK _ w1 rfl hG trivial)
          simp [execOp, go_sem, e0] <;> first | omega | (rw [i64w_id _ (by omega)] <;> omega)
        case o17 =>
          intro a w1 Kx hG need old hsz hK
          have e0 : a.tmps[53]?.getD undef = .int .i64 (D + 6) := by rw [← Array.getD_eq_getD_getElem?]; exact need 16 53 (by kernel_rfl) (by kernel_rfl)
          refine op_value (v := .int .i64 (D + 7)) (wanted_of (j := 8) rfl (need 8 45 (by kernel_rfl) (by kernel_rfl))) ?_ (hK _ w1 rfl hG trivial)
          simp [execOp, go_sem, e0] <;> first | omega | (rw [i64w_id _ (by omega)] <;> omega)
        case o18 =>
          intro a w1 Kx hG need old hsz hK
          have e0 : a.tmps[49]?.getD undef = .int .i64 ((B - bad - S - 1) * P) := by rw [← Array.getD_eq_getD_getElem?]; exact need 12 49 (by kernel_rfl) (by kernel_rfl)
          have e1 : a.tmps[54]?.getD undef = .int .i64 (D + 7) := by rw [← Array.getD_eq_getD_getElem?]; exact need 17 54 (by kernel_rfl) (by kernel_rfl)
          refine op_value (v := .bool true) (wanted_of (j := 8) rfl (need 8 45 (by kernel_rfl) (by kernel_rfl))) ?_ (hK _ w1 rfl hG trivial)
          simp [execOp, go_sem, e0, e1] <;> first | omega | (rw [i64w_id _ (by omega)] <;> omega)
        case o19 =>
          intro a w1 Kx hG need old hsz hK
          have e0 : a.tmps[45]?.getD undef = .bool true := by rw [← Array.getD_eq_getD_getElem?]; exact need 8 45 (by kernel_rfl) (by kernel_rfl)
          have e1 : a.tmps[55]?.getD undef = .bool true := by rw [← Array.getD_eq_getD_getElem?]; exact need 18 55 (by kernel_rfl) (by kernel_rfl)
          refine op_value (v := .bool true) (wanted_none rfl) ?_ (hK _ w1 rfl hG trivial)
          simp [execOp, go_sem, asBool, e0, e1]
        case o20 =>
          intro a w1 Kx hG need old hsz hK
          have e0 : a.tmps[56]?.getD undef = .bool true := by rw [← Array.getD_eq_getD_getElem?]; exact need 19 56 (by kernel_rfl) (by kernel_rfl)
          refine op_value (v := .bool true) (wanted_none rfl) ?_ (hK _ w1 rfl hG trivial)
          simp [execOp, go_sem, e0]
        case o21 =>
          intro a w1 Kx hG need old hsz hK
          refine op_call (wanted_of (j := 20) rfl (need 20 57 (by kernel_rfl) (by kernel_rfl))) (f := 18) (args := #[]) ?run ((awake_any w1).mono ?post)
          case run => simp [go_sem]
          case post =>
            rintro e w2 ⟨rfl, hb2⟩
            exact ⟨_, rfl, hK _ w2 rfl (hG.trans (hb2.mono hG.size)) trivial⟩
        case o22 =>
          intro a w1 Kx hG need old hsz hK
          have e0 : a.tmps[57]?.getD undef = .bool true := by rw [← Array.getD_eq_getD_getElem?]; exact need 20 57 (by kernel_rfl) (by kernel_rfl)
          have e1 : a.tmps[58]?.getD undef = .bool true := by rw [← Array.getD_eq_getD_getElem?]; exact need 21 58 (by kernel_rfl) (by kernel_rfl)
          refine op_value (v := .bool true) (wanted_none rfl) ?_ (hK _ w1 rfl hG trivial)
          simp [execOp, go_sem, asBool, e0, e1]
        case o23 =>
          intro a w1 Kx hG need old hsz hK
          have e0 : a.tmps[59]?.getD undef = .bool true := by rw [← Array.getD_eq_getD_getElem?]; exact need 22 59 (by kernel_rfl) (by kernel_rfl)
          refine op_value (v := .bool true) (wanted_none rfl) ?_ (hK _ w1 rfl hG trivial)
          simp [execOp, go_sem, e0]
      · intro a' w' hG hde' hsz' hφ hold
        have hr : a'.tmps.getD 6 undef = .bool true := hφ 23 6 (by kernel_rfl)
        go_wp2
        refine bodyPost_ret (v := .bool true) ?_ (hde'.trans hde) ⟨rfl, HB2.out.trans (hG.mono hWs2.out)⟩
        rw [results_tmp (t := 6) rfl, hr]
  · have HF := Lib.hid hF
    clear hF
    go_enter Try.func5, Try.ntmps5
    go_wp2_with (first
      | (go_at_call 15; refine (fitsr_any _ _ _ _ _ _ _ HBD.out).mono ?_; rintro e w1 ⟨rfl, hb⟩; rw [decide_eq_false HF.out]; have HB := Lib.hid (HB0.out.trans (hb.mono (by simp))); obtain ⟨k0, k1, k2, k3, k4⟩ := cells5 ((hb.block w.heap.size (by simp)).trans BX0.out); clear hb)
      | (go_at_call 14; refine (fitsp_any _ _ _ _ _ _ _ HBD.out).mono ?_; rintro e w2 ⟨rfl, hb⟩; rw [decide_eq_false HF.out]; have HB2 := Lib.hid (HB.out.trans (hb.mono HB.out.size)); clear hb k0 k1 k2 k3 k4)
      | (go_at_call 18; refine (awake_any _).mono ?_; rintro e w3 ⟨rfl, hb3⟩))
    go_ret
    exact ⟨rfl, HB2.out.trans (hb3.mono HB2.out.size)⟩
end Go.Proofs.Ytfnhmnfhkhjojaa
