/- A pool that there isn't; Open where it is refused. -/
import Derived.Test.YtnadcdgpfopcaaaGreatPoJ2
namespace Go.Proofs.YtnadcdgpfopcaaaGreat
open Go.RowKit

section
variable {w w' : World} {p c : Nat} {x : Nat → Prop} {S : LS}
set_option maxRecDepth 100000 in
theorem pput_nil (page : Int) (A : Option Addr) (n m : Nat) (w : World) : Calls Tryz.prog 25 #[.pointer none, .int .i64 page, .slice A n m] w fun e w' => e = .returned (.tuple #[P2V (0, 0), .int .i64 1]) ∧ Below w.heap.size w w' := by
  go_enter Tryz.func25, Tryz.ntmps25
  go_wp2_with (go_at_call 52; refine (q_is_nil _).mono ?_; rintro e w1 ⟨rfl, hw⟩; obtain rfl := hw)
  refine bodyPost_ret (by simp [results, Tryz.results25, go_sem]; try rfl) rfl ?_
  exact ⟨rfl, (Below.refl _ _).alloc (Nat.le_refl _) _⟩
set_option maxRecDepth 100000 in
theorem pread_nil (r : P2) (w : World) : Calls Tryz.prog 26 #[.pointer none, P2V r] w fun e w' => e = .returned (.tuple #[.slice none 0 0, .int .i64 1]) ∧ Below w.heap.size w w' := by
  go_enter Tryz.func26, Tryz.ntmps26
  go_wp2_with (go_at_call 52; refine (q_is_nil _).mono ?_; rintro e w1 ⟨rfl, hw⟩; obtain rfl := hw)
  go_ret2
  exact ⟨rfl, (Below.refl _ _).alloc (Nat.le_refl _) _⟩
set_option maxRecDepth 100000 in
theorem pseal_nil (A B : Option Addr) (n m k l : Nat) (w : World) : Calls Tryz.prog 28 #[.pointer none, .slice A n m, .slice B k l] w fun e w' => e = .returned (.int .i64 1) ∧ Below w.heap.size w w' := by
  go_enter Tryz.func28, Tryz.ntmps28
  go_wp2_with (go_at_call 52; refine (q_is_nil _).mono ?_; rintro e w1 ⟨rfl, hw⟩; obtain rfl := hw)
  go_ret
  exact ⟨rfl, Below.refl _ _⟩
set_option maxRecDepth 100000 in
theorem plive_nil (w : World) : Calls Tryz.prog 29 #[.pointer none] w fun e w' => e = .returned (.slice none 0 0) ∧ w = w' := by
  go_enter Tryz.func29, Tryz.ntmps29
  go_wp2
  go_ret
  exact ⟨rfl, rfl⟩
set_option maxRecDepth 100000 in
theorem pnew_nil (w : World) : Calls Tryz.prog 30 #[.pointer none] w fun e w' => e = .returned (.slice none 0 0) ∧ w = w' := by
  go_enter Tryz.func30, Tryz.ntmps30
  go_wp2
  go_ret
  exact ⟨rfl, rfl⟩
set_option maxRecDepth 100000 in
theorem pseq_nil (w : World) : Calls Tryz.prog 31 #[.pointer none] w fun e w' => e = .returned (.int .i64 0) ∧ w = w' := by
  go_enter Tryz.func31, Tryz.ntmps31
  go_wp2
  go_ret
  exact ⟨rfl, rfl⟩
set_option maxRecDepth 100000 in
theorem pbads_nil (w : World) : Calls Tryz.prog 32 #[.pointer none] w fun e w' => e = .returned (.int .i64 0) ∧ w = w' := by
  go_enter Tryz.func32, Tryz.ntmps32
  go_wp2_with (go_at_call 52; refine (q_is_nil _).mono ?_; rintro e w1 ⟨rfl, hw⟩; obtain rfl := hw)
  go_ret
  exact ⟨rfl, rfl⟩
set_option maxRecDepth 100000 in
theorem pover_nil (w : World) : Calls Tryz.prog 33 #[.pointer none] w fun e w' => e = .returned (.bool false) ∧ Below w.heap.size w w' := by
  have HI := fun w => (q_is_nil w).mono fun _ _ hh => And.intro hh.1 hh.2.symm
  go_enter Tryz.func33, Tryz.ntmps33
  go_upto_region 1 with fail
  go_quiet (first | (go_at_call 52; refine Calls.quiet_of_same (HI _)))
  all_goals go_wp2_with fail
  all_goals go_ret
  all_goals exact ⟨rfl, drewN_below (Below.refl _ _) _⟩
set_option maxRecDepth 100000 in
theorem blocks_none (w : World) : Calls Tryz.prog 21 #[.pointer none] w fun e w' => e = .returned (.slice none 0 0) ∧ Below w.heap.size w w' := by
  refine callsIn_wide.1 (callsIn_of_wp_marks (n := 3) Tryz.func21 rfl trivial ?_ rfl)
  simp only [Tryz.ntmps21, List.size_toArray, List.length_cons, List.length_nil, Nat.reduceAdd, Nat.reduceSub, Array.replicate_succ, Array.replicate_zero, List.push_toArray, List.append_toArray, List.nil_append, List.cons_append]
  gi_wp2_with fail
  refine ⟨.slice none 0 0, by simp [results, Tryz.results21, go_sem], rfl, ?_⟩
  exact (Below.refl _ _).alloc (Nat.le_refl _) _
theorem cfg5 {V : World} {q : Nat} {a b d e f : Value} {t : TypeId} (h : V.heap[q]? = some (.cells #[a, b, d, e, f] t (0, 0))) : V.cell? ⟨q, 0, none⟩ = some a ∧ V.cell? ⟨q, 1, none⟩ = some b ∧ V.cell? ⟨q, 2, none⟩ = some d ∧ V.cell? ⟨q, 3, none⟩ = some e ∧ V.cell? ⟨q, 4, none⟩ = some f := by
  simp [World.cell?, h]
set_option maxRecDepth 100000 in
set_option maxHeartbeats 4000000 in
/-- What does not fit suits no chip. -/
theorem suits_nofit (cv : Value) (B P Sp K U bad : Int) (w : World) (hbl : ∀ V, Below w.heap.size w V → Calls Tryz.prog 21 #[cv] V fun e w' => ∃ A n m, e = .returned (.slice A n m) ∧ Below V.heap.size V w') (hbd : (Lit.int .i64 bad).wf = true) (hf : ¬ FitsP B P Sp K U bad) : Calls Tryz.prog 61 #[cv, .agg #[.int .i64 B, .int .i64 P, .int .i64 Sp, .int .i64 K, .int .i64 U], .int .i64 bad] w fun e w' => e = .returned (.bool false) ∧ Below w.heap.size w w' := by
  obtain ⟨W, hW⟩ : ∃ W, w.alloc (.cells #[.int .i64 B, .int .i64 P, .int .i64 Sp, .int .i64 K, .int .i64 U] 23) = W := ⟨_, rfl⟩
  have HBW : Hid (Below w.heap.size w W) := Lib.hid (by rw [← hW]; exact (Below.refl _ _).alloc (Nat.le_refl _) _)
  have HX : Hid (W.heap[w.heap.size]? = some (.cells #[.int .i64 B, .int .i64 P, .int .i64 Sp, .int .i64 K, .int .i64 U] 23 (0, 0))) := Lib.hid (by rw [← hW]; exact heap_alloc_new _ _)
  have HLT := Lib.hid (lt_size HX.out)
  have HF : Hid (decide (FitsP B P Sp K U bad) = false) := Lib.hid (decide_eq_false hf)
  have HBL := Lib.hid hbl
  clear hf hbl
  go_enter Tryz.func61, Tryz.ntmps61
  go_upto_region 2 with (go_at_call 21; refine (HBL.out _ HBW.out).mono ?_; rintro e w2 ⟨A2, n2, m2, rfl, k3⟩; have HB2 := Lib.hid k3; clear k3)
  have HKC : Hid (∀ V, Below w2.heap.size w2 V → V.cell? ⟨w.heap.size, 0, none⟩ = some (.int .i64 B) ∧ V.cell? ⟨w.heap.size, 1, none⟩ = some (.int .i64 P) ∧ V.cell? ⟨w.heap.size, 2, none⟩ = some (.int .i64 Sp) ∧ V.cell? ⟨w.heap.size, 3, none⟩ = some (.int .i64 K) ∧ V.cell? ⟨w.heap.size, 4, none⟩ = some (.int .i64 U)) := Lib.hid fun V hV => cfg5 (((HB2.out.trans (hV.mono HB2.out.size)).block _ HLT.out).trans HX.out)
  clear hW
  refine region_st (fun j v w' => match j with | 0 => v = .agg #[.int .i64 B, .int .i64 P, .int .i64 Sp, .int .i64 K, .int .i64 U] | 1 => v = .int .i64 bad | 2 => v = .bool false | 3 => v = .bool false | 4 => v = undef | 5 => v = undef | 6 => v = undef | 7 => v = undef | 8 => v = undef | 9 => v = .bool false | 10 => v = .bool false | 11 => v = undef | 12 => v = undef | 13 => v = undef | 14 => v = undef | 15 => v = undef | 16 => v = undef | 17 => v = undef | 18 => v = undef | 19 => v = .bool false | 20 => v = .bool false | 21 => v = undef | 22 => v = undef | 23 => v = undef | 24 => v = undef | 25 => v = .bool false | 26 => v = .bool false | _ => True) (fun _ w' => Below w2.heap.size w2 w') (fun w1 w2 => Below w1.heap.size w1 w2) (by kernel_rfl) (by kernel_rfl) (by kernel_rfl) ?hR ?hG ?hops ?hend
  case hR =>
    intro j v w1 w2 hv hb
    match j, hv with
    | 0, hv => exact hv
    | 1, hv => exact hv
    | 2, hv => exact hv
    | 3, hv => exact hv
    | 4, hv => exact hv
    | 5, hv => exact hv
    | 6, hv => exact hv
    | 7, hv => exact hv
    | 8, hv => exact hv
    | 9, hv => exact hv
    | 10, hv => exact hv
    | 11, hv => exact hv
    | 12, hv => exact hv
    | 13, hv => exact hv
    | 14, hv => exact hv
    | 15, hv => exact hv
    | 16, hv => exact hv
    | 17, hv => exact hv
    | 18, hv => exact hv
    | 19, hv => exact hv
    | 20, hv => exact hv
    | 21, hv => exact hv
    | 22, hv => exact hv
    | 23, hv => exact hv
    | 24, hv => exact hv
    | 25, hv => exact hv
    | 26, hv => exact hv
    | _ + 27, _ => exact trivial
  case hG => exact (Below.refl _ _).drew
  case hops =>
    refine OpsOkS.cons ?o0 (OpsOkS.cons ?o1 (OpsOkS.cons ?o2 (OpsOkS.cons ?o3 (OpsOkS.cons ?o4 (OpsOkS.cons ?o5 (OpsOkS.cons ?o6 (OpsOkS.cons ?o7 (OpsOkS.cons ?o8 (OpsOkS.cons ?o9 (OpsOkS.cons ?o10 (OpsOkS.cons ?o11 (OpsOkS.cons ?o12 (OpsOkS.cons ?o13 (OpsOkS.cons ?o14 (OpsOkS.cons ?o15 (OpsOkS.cons ?o16 (OpsOkS.cons ?o17 (OpsOkS.cons ?o18 (OpsOkS.cons ?o19 (OpsOkS.cons ?o20 (OpsOkS.cons ?o21 (OpsOkS.cons ?o22 (OpsOkS.cons ?o23 (OpsOkS.cons ?o24 (OpsOkS.cons ?o25 (OpsOkS.cons ?o26 OpsOkS.nil))))))))))))))))))))))))))
    case o0 =>
      intro a w1 Kx hG need old hsz fresh hKx
      have e0 : a.tmps[4]?.getD undef = .pointer (some ⟨w.heap.size, 0, none⟩) := by rw [← Array.getD_eq_getD_getElem?]; exact old 4 (by kernel_rfl)
      obtain ⟨j0, j1, j2, j3, j4⟩ := HKC.out w1 hG
      refine op_value (v := .agg #[.int .i64 B, .int .i64 P, .int .i64 Sp, .int .i64 K, .int .i64 U]) (wanted_none rfl) ?_ (hKx _ w1 rfl hG (Below.refl _ _))
      simp [execOp, go_sem, e0, j0, j1, j2, j3, j4]
    case o1 =>
      intro a w1 Kx hG need old hsz fresh hKx
      have e0 : a.tmps[2]?.getD undef = .int .i64 bad := by rw [← Array.getD_eq_getD_getElem?]; exact old 2 (by kernel_rfl)
      refine op_value (v := .int .i64 bad) (wanted_none rfl) ?_ (hKx _ w1 rfl hG (Below.refl _ _))
      simp [execOp, go_sem, e0]
    case o2 =>
      intro a w1 Kx hG need old hsz fresh hKx
      have e0 : a.tmps[10]?.getD undef = .agg #[.int .i64 B, .int .i64 P, .int .i64 Sp, .int .i64 K, .int .i64 U] := by rw [← Array.getD_eq_getD_getElem?]; exact (need 0 (by kernel_rfl) (by kernel_rfl))
      have e1 : a.tmps[11]?.getD undef = .int .i64 bad := by rw [← Array.getD_eq_getD_getElem?]; exact (need 1 (by kernel_rfl) (by kernel_rfl))
      refine op_call (wanted_none rfl) (f := 100) (args := #[.agg #[.int .i64 B, .int .i64 P, .int .i64 Sp, .int .i64 K, .int .i64 U], .int .i64 bad]) ?run ((fitsp_any B P Sp K U bad w1 hbd).mono ?post)
      case run => simp [go_sem, e0, e1]
      case post =>
        rintro e w2 ⟨rfl, hb2⟩
        rw [HF.out]
        exact ⟨_, rfl, hKx _ w2 rfl (hG.trans (hb2.mono hG.size)) hb2⟩
    case o3 =>
      intro a w1 Kx hG need old hsz fresh hKx
      have e0 : a.tmps[12]?.getD undef = .bool false := by rw [← Array.getD_eq_getD_getElem?]; exact (need 2 (by kernel_rfl) (by kernel_rfl))
      refine op_value (v := .bool false) (wanted_none rfl) ?_ (hKx _ w1 rfl hG (Below.refl _ _))
      simp [execOp, go_sem, e0]
    case o4 =>
      intro a w1 Kx hG need old hsz fresh hKx
      exact skip_op (j := 3) rfl (need 3 (by kernel_rfl) (by kernel_rfl)) (by decide) (hKx undef w1 rfl hG (Below.refl _ _))
    case o5 =>
      intro a w1 Kx hG need old hsz fresh hKx
      exact skip_op (j := 3) rfl (need 3 (by kernel_rfl) (by kernel_rfl)) (by decide) (hKx undef w1 rfl hG (Below.refl _ _))
    case o6 =>
      intro a w1 Kx hG need old hsz fresh hKx
      exact skip_op (j := 3) rfl (need 3 (by kernel_rfl) (by kernel_rfl)) (by decide) (hKx undef w1 rfl hG (Below.refl _ _))
    case o7 =>
      intro a w1 Kx hG need old hsz fresh hKx
      exact skip_op (j := 3) rfl (need 3 (by kernel_rfl) (by kernel_rfl)) (by decide) (hKx undef w1 rfl hG (Below.refl _ _))
    case o8 =>
      intro a w1 Kx hG need old hsz fresh hKx
      exact skip_op (j := 3) rfl (need 3 (by kernel_rfl) (by kernel_rfl)) (by decide) (hKx undef w1 rfl hG (Below.refl _ _))
    case o9 =>
      intro a w1 Kx hG need old hsz fresh hKx
      have e0 : a.tmps[13]?.getD undef = .bool false := by rw [← Array.getD_eq_getD_getElem?]; exact (need 3 (by kernel_rfl) (by kernel_rfl))
      refine op_value (v := .bool false) (wanted_none rfl) ?_ (hKx _ w1 rfl hG (Below.refl _ _))
      simp [execOp, go_sem, asBool, e0]
    case o10 =>
      intro a w1 Kx hG need old hsz fresh hKx
      have e0 : a.tmps[19]?.getD undef = .bool false := by rw [← Array.getD_eq_getD_getElem?]; exact (need 9 (by kernel_rfl) (by kernel_rfl))
      refine op_value (v := .bool false) (wanted_none rfl) ?_ (hKx _ w1 rfl hG (Below.refl _ _))
      simp [execOp, go_sem, e0]
    case o11 =>
      intro a w1 Kx hG need old hsz fresh hKx
      exact skip_op (j := 10) rfl (need 10 (by kernel_rfl) (by kernel_rfl)) (by decide) (hKx undef w1 rfl hG (Below.refl _ _))
    case o12 =>
      intro a w1 Kx hG need old hsz fresh hKx
      exact skip_op (j := 10) rfl (need 10 (by kernel_rfl) (by kernel_rfl)) (by decide) (hKx undef w1 rfl hG (Below.refl _ _))
    case o13 =>
      intro a w1 Kx hG need old hsz fresh hKx
      exact skip_op (j := 10) rfl (need 10 (by kernel_rfl) (by kernel_rfl)) (by decide) (hKx undef w1 rfl hG (Below.refl _ _))
    case o14 =>
      intro a w1 Kx hG need old hsz fresh hKx
      exact skip_op (j := 10) rfl (need 10 (by kernel_rfl) (by kernel_rfl)) (by decide) (hKx undef w1 rfl hG (Below.refl _ _))
    case o15 =>
      intro a w1 Kx hG need old hsz fresh hKx
      exact skip_op (j := 10) rfl (need 10 (by kernel_rfl) (by kernel_rfl)) (by decide) (hKx undef w1 rfl hG (Below.refl _ _))
    case o16 =>
      intro a w1 Kx hG need old hsz fresh hKx
      exact skip_op (j := 10) rfl (need 10 (by kernel_rfl) (by kernel_rfl)) (by decide) (hKx undef w1 rfl hG (Below.refl _ _))
    case o17 =>
      intro a w1 Kx hG need old hsz fresh hKx
      exact skip_op (j := 10) rfl (need 10 (by kernel_rfl) (by kernel_rfl)) (by decide) (hKx undef w1 rfl hG (Below.refl _ _))
    case o18 =>
      intro a w1 Kx hG need old hsz fresh hKx
      exact skip_op (j := 10) rfl (need 10 (by kernel_rfl) (by kernel_rfl)) (by decide) (hKx undef w1 rfl hG (Below.refl _ _))
    case o19 =>
      intro a w1 Kx hG need old hsz fresh hKx
      have e0 : a.tmps[20]?.getD undef = .bool false := by rw [← Array.getD_eq_getD_getElem?]; exact (need 10 (by kernel_rfl) (by kernel_rfl))
      refine op_value (v := .bool false) (wanted_none rfl) ?_ (hKx _ w1 rfl hG (Below.refl _ _))
      simp [execOp, go_sem, asBool, e0]
    case o20 =>
      intro a w1 Kx hG need old hsz fresh hKx
      have e0 : a.tmps[29]?.getD undef = .bool false := by rw [← Array.getD_eq_getD_getElem?]; exact (need 19 (by kernel_rfl) (by kernel_rfl))
      refine op_value (v := .bool false) (wanted_none rfl) ?_ (hKx _ w1 rfl hG (Below.refl _ _))
      simp [execOp, go_sem, e0]
    case o21 =>
      intro a w1 Kx hG need old hsz fresh hKx
      exact skip_op (j := 20) rfl (need 20 (by kernel_rfl) (by kernel_rfl)) (by decide) (hKx undef w1 rfl hG (Below.refl _ _))
    case o22 =>
      intro a w1 Kx hG need old hsz fresh hKx
      exact skip_op (j := 20) rfl (need 20 (by kernel_rfl) (by kernel_rfl)) (by decide) (hKx undef w1 rfl hG (Below.refl _ _))
    case o23 =>
      intro a w1 Kx hG need old hsz fresh hKx
      exact skip_op (j := 20) rfl (need 20 (by kernel_rfl) (by kernel_rfl)) (by decide) (hKx undef w1 rfl hG (Below.refl _ _))
    case o24 =>
      intro a w1 Kx hG need old hsz fresh hKx
      exact skip_op (j := 20) rfl (need 20 (by kernel_rfl) (by kernel_rfl)) (by decide) (hKx undef w1 rfl hG (Below.refl _ _))
    case o25 =>
      intro a w1 Kx hG need old hsz fresh hKx
      have e0 : a.tmps[30]?.getD undef = .bool false := by rw [← Array.getD_eq_getD_getElem?]; exact (need 20 (by kernel_rfl) (by kernel_rfl))
      refine op_value (v := .bool false) (wanted_none rfl) ?_ (hKx _ w1 rfl hG (Below.refl _ _))
      simp [execOp, go_sem, asBool, e0]
    case o26 =>
      intro a w1 Kx hG need old hsz fresh hKx
      have e0 : a.tmps[35]?.getD undef = .bool false := by rw [← Array.getD_eq_getD_getElem?]; exact (need 25 (by kernel_rfl) (by kernel_rfl))
      refine op_value (v := .bool false) (wanted_none rfl) ?_ (hKx _ w1 rfl hG (Below.refl _ _))
      simp [execOp, go_sem, e0]
  case hend =>
    intro a w6 hG hde hsz hφ hold
    obtain rfl := act_puts [(10, .agg #[.int .i64 B, .int .i64 P, .int .i64 Sp, .int .i64 K, .int .i64 U]), (11, .int .i64 bad), (12, .bool false), (13, .bool false), (14, undef), (15, undef), (16, undef), (17, undef), (18, undef), (19, .bool false), (20, .bool false), (21, undef), (22, undef), (23, undef), (24, undef), (25, undef), (26, undef), (27, undef), (28, undef), (29, .bool false), (30, .bool false), (31, undef), (32, undef), (33, undef), (34, undef), (35, .bool false), (6, .bool false)] [10, 11, 12, 13, 14, 15, 16, 17, 18, 19, 20, 21, 22, 23, 24, 25, 26, 27, 28, 29, 30, 31, 32, 33, 34, 35, 6] rfl (by kernel_rfl) (by kernel_rfl) hde hsz (List.forall_mem_cons.2 ⟨(show a.tmps.getD 10 undef = .agg #[.int .i64 B, .int .i64 P, .int .i64 Sp, .int .i64 K, .int .i64 U] from (hφ 0 (by kernel_rfl))), (List.forall_mem_cons.2 ⟨(show a.tmps.getD 11 undef = .int .i64 bad from (hφ 1 (by kernel_rfl))), (List.forall_mem_cons.2 ⟨(show a.tmps.getD 12 undef = .bool false from (hφ 2 (by kernel_rfl))), (List.forall_mem_cons.2 ⟨(show a.tmps.getD 13 undef = .bool false from (hφ 3 (by kernel_rfl))), (List.forall_mem_cons.2 ⟨(show a.tmps.getD 14 undef = undef from (hφ 4 (by kernel_rfl))), (List.forall_mem_cons.2 ⟨(show a.tmps.getD 15 undef = undef from (hφ 5 (by kernel_rfl))), (List.forall_mem_cons.2 ⟨(show a.tmps.getD 16 undef = undef from (hφ 6 (by kernel_rfl))), (List.forall_mem_cons.2 ⟨(show a.tmps.getD 17 undef = undef from (hφ 7 (by kernel_rfl))), (List.forall_mem_cons.2 ⟨(show a.tmps.getD 18 undef = undef from (hφ 8 (by kernel_rfl))), (List.forall_mem_cons.2 ⟨(show a.tmps.getD 19 undef = .bool false from (hφ 9 (by kernel_rfl))), (List.forall_mem_cons.2 ⟨(show a.tmps.getD 20 undef = .bool false from (hφ 10 (by kernel_rfl))), (List.forall_mem_cons.2 ⟨(show a.tmps.getD 21 undef = undef from (hφ 11 (by kernel_rfl))), (List.forall_mem_cons.2 ⟨(show a.tmps.getD 22 undef = undef from (hφ 12 (by kernel_rfl))), (List.forall_mem_cons.2 ⟨(show a.tmps.getD 23 undef = undef from (hφ 13 (by kernel_rfl))), (List.forall_mem_cons.2 ⟨(show a.tmps.getD 24 undef = undef from (hφ 14 (by kernel_rfl))), (List.forall_mem_cons.2 ⟨(show a.tmps.getD 25 undef = undef from (hφ 15 (by kernel_rfl))), (List.forall_mem_cons.2 ⟨(show a.tmps.getD 26 undef = undef from (hφ 16 (by kernel_rfl))), (List.forall_mem_cons.2 ⟨(show a.tmps.getD 27 undef = undef from (hφ 17 (by kernel_rfl))), (List.forall_mem_cons.2 ⟨(show a.tmps.getD 28 undef = undef from (hφ 18 (by kernel_rfl))), (List.forall_mem_cons.2 ⟨(show a.tmps.getD 29 undef = .bool false from (hφ 19 (by kernel_rfl))), (List.forall_mem_cons.2 ⟨(show a.tmps.getD 30 undef = .bool false from (hφ 20 (by kernel_rfl))), (List.forall_mem_cons.2 ⟨(show a.tmps.getD 31 undef = undef from (hφ 21 (by kernel_rfl))), (List.forall_mem_cons.2 ⟨(show a.tmps.getD 32 undef = undef from (hφ 22 (by kernel_rfl))), (List.forall_mem_cons.2 ⟨(show a.tmps.getD 33 undef = undef from (hφ 23 (by kernel_rfl))), (List.forall_mem_cons.2 ⟨(show a.tmps.getD 34 undef = undef from (hφ 24 (by kernel_rfl))), (List.forall_mem_cons.2 ⟨(show a.tmps.getD 35 undef = .bool false from (hφ 25 (by kernel_rfl))), (List.forall_mem_cons.2 ⟨(show a.tmps.getD 6 undef = .bool false from (hφ 26 (by kernel_rfl))), (fun _ h => absurd h (by simp))⟩)⟩)⟩)⟩)⟩)⟩)⟩)⟩)⟩)⟩)⟩)⟩)⟩)⟩)⟩)⟩)⟩)⟩)⟩)⟩)⟩)⟩)⟩)⟩)⟩)⟩)⟩) hold
    clear hφ hold hsz hde
    simp only [putAll]
    go_frame
    go_wp2_with fail
    go_ret
    have k1 : Below w.heap.size w w2 := HBW.out.trans (HB2.out.mono HBW.out.size)
    exact ⟨rfl, k1.trans (hG.mono k1.size)⟩
set_option maxRecDepth 100000 in
set_option maxHeartbeats 4000000 in
theorem suits_nil (B P Sp K U bad : Int) (hbd : (Lit.int .i64 bad).wf = true) (w : World) : Calls Tryz.prog 61 #[.pointer none, .agg #[.int .i64 B, .int .i64 P, .int .i64 Sp, .int .i64 K, .int .i64 U], .int .i64 bad] w fun e w' => e = .returned (.bool false) ∧ Below w.heap.size w w' := by
  by_cases hf : FitsP B P Sp K U bad
  · obtain ⟨W, hW⟩ : ∃ W, w.alloc (.cells #[.int .i64 B, .int .i64 P, .int .i64 Sp, .int .i64 K, .int .i64 U] 23) = W := ⟨_, rfl⟩
    have HBW : Hid (Below w.heap.size w W) := Lib.hid (by rw [← hW]; exact (Below.refl _ _).alloc (Nat.le_refl _) _)
    have HX : Hid (W.heap[w.heap.size]? = some (.cells #[.int .i64 B, .int .i64 P, .int .i64 Sp, .int .i64 K, .int .i64 U] 23 (0, 0))) := Lib.hid (by rw [← hW]; exact heap_alloc_new _ _)
    have HLT := Lib.hid (lt_size HX.out)
    have HF : Hid (decide (FitsP B P Sp K U bad) = true) := Lib.hid (decide_eq_true hf)
    have hB3 : 3 ≤ B := hf.1.1.1
    have hB0 : ((0 : Int) == B) = false := by simp; omega
    clear hf
    go_enter Tryz.func61, Tryz.ntmps61
    go_upto_region 2 with (go_at_call 21; refine (blocks_none _).mono ?_; rintro e w2 ⟨rfl, k3⟩; have HB2 := Lib.hid k3; clear k3)
    have HKC : Hid (∀ V, Below w2.heap.size w2 V → V.cell? ⟨w.heap.size, 0, none⟩ = some (.int .i64 B) ∧ V.cell? ⟨w.heap.size, 1, none⟩ = some (.int .i64 P) ∧ V.cell? ⟨w.heap.size, 2, none⟩ = some (.int .i64 Sp) ∧ V.cell? ⟨w.heap.size, 3, none⟩ = some (.int .i64 K) ∧ V.cell? ⟨w.heap.size, 4, none⟩ = some (.int .i64 U)) := Lib.hid fun V hV => cfg5 (((HB2.out.trans (hV.mono HB2.out.size)).block _ HLT.out).trans HX.out)
    clear hW
    refine region_st (fun j v w' => match j with | 0 => v = .agg #[.int .i64 B, .int .i64 P, .int .i64 Sp, .int .i64 K, .int .i64 U] | 1 => v = .int .i64 bad | 2 => v = .bool true | 3 => v = .bool true | 4 => v = .slice none 0 0 | 5 => v = .int .i64 0 | 6 => v = .pointer (some ⟨w.heap.size, 0, none⟩) | 7 => v = .int .i64 B | 8 => v = .bool false | 9 => v = .bool false | 10 => v = .bool false | 11 => v = undef | 12 => v = undef | 13 => v = undef | 14 => v = undef | 15 => v = undef | 16 => v = undef | 17 => v = undef | 18 => v = undef | 19 => v = .bool false | 20 => v = .bool false | 21 => v = undef | 22 => v = undef | 23 => v = undef | 24 => v = undef | 25 => v = .bool false | 26 => v = .bool false | _ => True) (fun _ w' => Below w2.heap.size w2 w') (fun w1 w2 => Below w1.heap.size w1 w2) (by kernel_rfl) (by kernel_rfl) (by kernel_rfl) ?hR ?hG ?hops ?hend
    case hR =>
      intro j v w1 w2 hv hb
      match j, hv with
      | 0, hv => exact hv
      | 1, hv => exact hv
      | 2, hv => exact hv
      | 3, hv => exact hv
      | 4, hv => exact hv
      | 5, hv => exact hv
      | 6, hv => exact hv
      | 7, hv => exact hv
      | 8, hv => exact hv
      | 9, hv => exact hv
      | 10, hv => exact hv
      | 11, hv => exact hv
      | 12, hv => exact hv
      | 13, hv => exact hv
      | 14, hv => exact hv
      | 15, hv => exact hv
      | 16, hv => exact hv
      | 17, hv => exact hv
      | 18, hv => exact hv
      | 19, hv => exact hv
      | 20, hv => exact hv
      | 21, hv => exact hv
      | 22, hv => exact hv
      | 23, hv => exact hv
      | 24, hv => exact hv
      | 25, hv => exact hv
      | 26, hv => exact hv
      | _ + 27, _ => exact trivial
    case hG => exact (Below.refl _ _).drew
    case hops =>
      refine OpsOkS.cons ?o0 (OpsOkS.cons ?o1 (OpsOkS.cons ?o2 (OpsOkS.cons ?o3 (OpsOkS.cons ?o4 (OpsOkS.cons ?o5 (OpsOkS.cons ?o6 (OpsOkS.cons ?o7 (OpsOkS.cons ?o8 (OpsOkS.cons ?o9 (OpsOkS.cons ?o10 (OpsOkS.cons ?o11 (OpsOkS.cons ?o12 (OpsOkS.cons ?o13 (OpsOkS.cons ?o14 (OpsOkS.cons ?o15 (OpsOkS.cons ?o16 (OpsOkS.cons ?o17 (OpsOkS.cons ?o18 (OpsOkS.cons ?o19 (OpsOkS.cons ?o20 (OpsOkS.cons ?o21 (OpsOkS.cons ?o22 (OpsOkS.cons ?o23 (OpsOkS.cons ?o24 (OpsOkS.cons ?o25 (OpsOkS.cons ?o26 OpsOkS.nil))))))))))))))))))))))))))
      case o0 =>
        intro a w1 Kx hG need old hsz fresh hKx
        have e0 : a.tmps[4]?.getD undef = .pointer (some ⟨w.heap.size, 0, none⟩) := by rw [← Array.getD_eq_getD_getElem?]; exact old 4 (by kernel_rfl)
        obtain ⟨j0, j1, j2, j3, j4⟩ := HKC.out w1 hG
        refine op_value (v := .agg #[.int .i64 B, .int .i64 P, .int .i64 Sp, .int .i64 K, .int .i64 U]) (wanted_none rfl) ?_ (hKx _ w1 rfl hG (Below.refl _ _))
        simp [execOp, go_sem, e0, j0, j1, j2, j3, j4]
      case o1 =>
        intro a w1 Kx hG need old hsz fresh hKx
        have e0 : a.tmps[2]?.getD undef = .int .i64 bad := by rw [← Array.getD_eq_getD_getElem?]; exact old 2 (by kernel_rfl)
        refine op_value (v := .int .i64 bad) (wanted_none rfl) ?_ (hKx _ w1 rfl hG (Below.refl _ _))
        simp [execOp, go_sem, e0]
      case o2 =>
        intro a w1 Kx hG need old hsz fresh hKx
        have e0 : a.tmps[10]?.getD undef = .agg #[.int .i64 B, .int .i64 P, .int .i64 Sp, .int .i64 K, .int .i64 U] := by rw [← Array.getD_eq_getD_getElem?]; exact (need 0 (by kernel_rfl) (by kernel_rfl))
        have e1 : a.tmps[11]?.getD undef = .int .i64 bad := by rw [← Array.getD_eq_getD_getElem?]; exact (need 1 (by kernel_rfl) (by kernel_rfl))
        refine op_call (wanted_none rfl) (f := 100) (args := #[.agg #[.int .i64 B, .int .i64 P, .int .i64 Sp, .int .i64 K, .int .i64 U], .int .i64 bad]) ?run ((fitsp_any B P Sp K U bad w1 hbd).mono ?post)
        case run => simp [go_sem, e0, e1]
        case post =>
          rintro e w2 ⟨rfl, hb2⟩
          rw [HF.out]
          exact ⟨_, rfl, hKx _ w2 rfl (hG.trans (hb2.mono hG.size)) hb2⟩
      case o3 =>
        intro a w1 Kx hG need old hsz fresh hKx
        have e0 : a.tmps[12]?.getD undef = .bool true := by rw [← Array.getD_eq_getD_getElem?]; exact (need 2 (by kernel_rfl) (by kernel_rfl))
        refine op_value (v := .bool true) (wanted_none rfl) ?_ (hKx _ w1 rfl hG (Below.refl _ _))
        simp [execOp, go_sem, e0]
      case o4 =>
        intro a w1 Kx hG need old hsz fresh hKx
        have e0 : a.tmps[7]?.getD undef = .slice none 0 0 := by rw [← Array.getD_eq_getD_getElem?]; exact old 7 (by kernel_rfl)
        refine op_value (v := .slice none 0 0) (wanted_of (j := 3) rfl (need 3 (by kernel_rfl) (by kernel_rfl))) ?_ (hKx _ w1 rfl hG (Below.refl _ _))
        simp [execOp, go_sem, e0]
      case o5 =>
        intro a w1 Kx hG need old hsz fresh hKx
        have e0 : a.tmps[14]?.getD undef = .slice none 0 0 := by rw [← Array.getD_eq_getD_getElem?]; exact (need 4 (by kernel_rfl) (by kernel_rfl))
        refine op_value (v := .int .i64 0) (wanted_of (j := 3) rfl (need 3 (by kernel_rfl) (by kernel_rfl))) ?_ (hKx _ w1 rfl hG (Below.refl _ _))
        simp [go_sem, e0]
      case o6 =>
        intro a w1 Kx hG need old hsz fresh hKx
        have e0 : a.tmps[4]?.getD undef = .pointer (some ⟨w.heap.size, 0, none⟩) := by rw [← Array.getD_eq_getD_getElem?]; exact old 4 (by kernel_rfl)
        refine op_value (v := .pointer (some ⟨w.heap.size, 0, none⟩)) (wanted_of (j := 3) rfl (need 3 (by kernel_rfl) (by kernel_rfl))) ?_ (hKx _ w1 rfl hG (Below.refl _ _))
        simp [execOp, go_sem, e0]
      case o7 =>
        intro a w1 Kx hG need old hsz fresh hKx
        have e0 : a.tmps[16]?.getD undef = .pointer (some ⟨w.heap.size, 0, none⟩) := by rw [← Array.getD_eq_getD_getElem?]; exact (need 6 (by kernel_rfl) (by kernel_rfl))
        have k0 := (HKC.out w1 hG).1
        refine op_value (v := .int .i64 B) (wanted_of (j := 3) rfl (need 3 (by kernel_rfl) (by kernel_rfl))) ?_ (hKx _ w1 rfl hG (Below.refl _ _))
        simp [execOp, go_sem, e0, k0]
      case o8 =>
        intro a w1 Kx hG need old hsz fresh hKx
        have e0 : a.tmps[15]?.getD undef = .int .i64 0 := by rw [← Array.getD_eq_getD_getElem?]; exact (need 5 (by kernel_rfl) (by kernel_rfl))
        have e1 : a.tmps[17]?.getD undef = .int .i64 B := by rw [← Array.getD_eq_getD_getElem?]; exact (need 7 (by kernel_rfl) (by kernel_rfl))
        refine op_value (v := .bool false) (wanted_of (j := 3) rfl (need 3 (by kernel_rfl) (by kernel_rfl))) ?_ (hKx _ w1 rfl hG (Below.refl _ _))
        simp [execOp, go_sem, e0, e1]; omega
      case o9 =>
        intro a w1 Kx hG need old hsz fresh hKx
        have e0 : a.tmps[13]?.getD undef = .bool true := by rw [← Array.getD_eq_getD_getElem?]; exact (need 3 (by kernel_rfl) (by kernel_rfl))
        have e1 : a.tmps[18]?.getD undef = .bool false := by rw [← Array.getD_eq_getD_getElem?]; exact (need 8 (by kernel_rfl) (by kernel_rfl))
        refine op_value (v := .bool false) (wanted_none rfl) ?_ (hKx _ w1 rfl hG (Below.refl _ _))
        simp [execOp, go_sem, asBool, e0, e1]
      case o10 =>
        intro a w1 Kx hG need old hsz fresh hKx
        have e0 : a.tmps[19]?.getD undef = .bool false := by rw [← Array.getD_eq_getD_getElem?]; exact (need 9 (by kernel_rfl) (by kernel_rfl))
        refine op_value (v := .bool false) (wanted_none rfl) ?_ (hKx _ w1 rfl hG (Below.refl _ _))
        simp [execOp, go_sem, e0]
      case o11 =>
        intro a w1 Kx hG need old hsz fresh hKx
        exact skip_op (j := 10) rfl (need 10 (by kernel_rfl) (by kernel_rfl)) (by decide) (hKx undef w1 rfl hG (Below.refl _ _))
      case o12 =>
        intro a w1 Kx hG need old hsz fresh hKx
        exact skip_op (j := 10) rfl (need 10 (by kernel_rfl) (by kernel_rfl)) (by decide) (hKx undef w1 rfl hG (Below.refl _ _))
      case o13 =>
        intro a w1 Kx hG need old hsz fresh hKx
        exact skip_op (j := 10) rfl (need 10 (by kernel_rfl) (by kernel_rfl)) (by decide) (hKx undef w1 rfl hG (Below.refl _ _))
      case o14 =>
        intro a w1 Kx hG need old hsz fresh hKx
        exact skip_op (j := 10) rfl (need 10 (by kernel_rfl) (by kernel_rfl)) (by decide) (hKx undef w1 rfl hG (Below.refl _ _))
      case o15 =>
        intro a w1 Kx hG need old hsz fresh hKx
        exact skip_op (j := 10) rfl (need 10 (by kernel_rfl) (by kernel_rfl)) (by decide) (hKx undef w1 rfl hG (Below.refl _ _))
      case o16 =>
        intro a w1 Kx hG need old hsz fresh hKx
        exact skip_op (j := 10) rfl (need 10 (by kernel_rfl) (by kernel_rfl)) (by decide) (hKx undef w1 rfl hG (Below.refl _ _))
      case o17 =>
        intro a w1 Kx hG need old hsz fresh hKx
        exact skip_op (j := 10) rfl (need 10 (by kernel_rfl) (by kernel_rfl)) (by decide) (hKx undef w1 rfl hG (Below.refl _ _))
      case o18 =>
        intro a w1 Kx hG need old hsz fresh hKx
        exact skip_op (j := 10) rfl (need 10 (by kernel_rfl) (by kernel_rfl)) (by decide) (hKx undef w1 rfl hG (Below.refl _ _))
      case o19 =>
        intro a w1 Kx hG need old hsz fresh hKx
        have e0 : a.tmps[20]?.getD undef = .bool false := by rw [← Array.getD_eq_getD_getElem?]; exact (need 10 (by kernel_rfl) (by kernel_rfl))
        refine op_value (v := .bool false) (wanted_none rfl) ?_ (hKx _ w1 rfl hG (Below.refl _ _))
        simp [execOp, go_sem, asBool, e0]
      case o20 =>
        intro a w1 Kx hG need old hsz fresh hKx
        have e0 : a.tmps[29]?.getD undef = .bool false := by rw [← Array.getD_eq_getD_getElem?]; exact (need 19 (by kernel_rfl) (by kernel_rfl))
        refine op_value (v := .bool false) (wanted_none rfl) ?_ (hKx _ w1 rfl hG (Below.refl _ _))
        simp [execOp, go_sem, e0]
      case o21 =>
        intro a w1 Kx hG need old hsz fresh hKx
        exact skip_op (j := 20) rfl (need 20 (by kernel_rfl) (by kernel_rfl)) (by decide) (hKx undef w1 rfl hG (Below.refl _ _))
      case o22 =>
        intro a w1 Kx hG need old hsz fresh hKx
        exact skip_op (j := 20) rfl (need 20 (by kernel_rfl) (by kernel_rfl)) (by decide) (hKx undef w1 rfl hG (Below.refl _ _))
      case o23 =>
        intro a w1 Kx hG need old hsz fresh hKx
        exact skip_op (j := 20) rfl (need 20 (by kernel_rfl) (by kernel_rfl)) (by decide) (hKx undef w1 rfl hG (Below.refl _ _))
      case o24 =>
        intro a w1 Kx hG need old hsz fresh hKx
        exact skip_op (j := 20) rfl (need 20 (by kernel_rfl) (by kernel_rfl)) (by decide) (hKx undef w1 rfl hG (Below.refl _ _))
      case o25 =>
        intro a w1 Kx hG need old hsz fresh hKx
        have e0 : a.tmps[30]?.getD undef = .bool false := by rw [← Array.getD_eq_getD_getElem?]; exact (need 20 (by kernel_rfl) (by kernel_rfl))
        refine op_value (v := .bool false) (wanted_none rfl) ?_ (hKx _ w1 rfl hG (Below.refl _ _))
        simp [execOp, go_sem, asBool, e0]
      case o26 =>
        intro a w1 Kx hG need old hsz fresh hKx
        have e0 : a.tmps[35]?.getD undef = .bool false := by rw [← Array.getD_eq_getD_getElem?]; exact (need 25 (by kernel_rfl) (by kernel_rfl))
        refine op_value (v := .bool false) (wanted_none rfl) ?_ (hKx _ w1 rfl hG (Below.refl _ _))
        simp [execOp, go_sem, e0]
    case hend =>
      intro a w6 hG hde hsz hφ hold
      obtain rfl := act_puts [(10, .agg #[.int .i64 B, .int .i64 P, .int .i64 Sp, .int .i64 K, .int .i64 U]), (11, .int .i64 bad), (12, .bool true), (13, .bool true), (14, .slice none 0 0), (15, .int .i64 0), (16, .pointer (some ⟨w.heap.size, 0, none⟩)), (17, .int .i64 B), (18, .bool false), (19, .bool false), (20, .bool false), (21, undef), (22, undef), (23, undef), (24, undef), (25, undef), (26, undef), (27, undef), (28, undef), (29, .bool false), (30, .bool false), (31, undef), (32, undef), (33, undef), (34, undef), (35, .bool false), (6, .bool false)] [10, 11, 12, 13, 14, 15, 16, 17, 18, 19, 20, 21, 22, 23, 24, 25, 26, 27, 28, 29, 30, 31, 32, 33, 34, 35, 6] rfl (by kernel_rfl) (by kernel_rfl) hde hsz (List.forall_mem_cons.2 ⟨(show a.tmps.getD 10 undef = .agg #[.int .i64 B, .int .i64 P, .int .i64 Sp, .int .i64 K, .int .i64 U] from (hφ 0 (by kernel_rfl))), (List.forall_mem_cons.2 ⟨(show a.tmps.getD 11 undef = .int .i64 bad from (hφ 1 (by kernel_rfl))), (List.forall_mem_cons.2 ⟨(show a.tmps.getD 12 undef = .bool true from (hφ 2 (by kernel_rfl))), (List.forall_mem_cons.2 ⟨(show a.tmps.getD 13 undef = .bool true from (hφ 3 (by kernel_rfl))), (List.forall_mem_cons.2 ⟨(show a.tmps.getD 14 undef = .slice none 0 0 from (hφ 4 (by kernel_rfl))), (List.forall_mem_cons.2 ⟨(show a.tmps.getD 15 undef = .int .i64 0 from (hφ 5 (by kernel_rfl))), (List.forall_mem_cons.2 ⟨(show a.tmps.getD 16 undef = .pointer (some ⟨w.heap.size, 0, none⟩) from (hφ 6 (by kernel_rfl))), (List.forall_mem_cons.2 ⟨(show a.tmps.getD 17 undef = .int .i64 B from (hφ 7 (by kernel_rfl))), (List.forall_mem_cons.2 ⟨(show a.tmps.getD 18 undef = .bool false from (hφ 8 (by kernel_rfl))), (List.forall_mem_cons.2 ⟨(show a.tmps.getD 19 undef = .bool false from (hφ 9 (by kernel_rfl))), (List.forall_mem_cons.2 ⟨(show a.tmps.getD 20 undef = .bool false from (hφ 10 (by kernel_rfl))), (List.forall_mem_cons.2 ⟨(show a.tmps.getD 21 undef = undef from (hφ 11 (by kernel_rfl))), (List.forall_mem_cons.2 ⟨(show a.tmps.getD 22 undef = undef from (hφ 12 (by kernel_rfl))), (List.forall_mem_cons.2 ⟨(show a.tmps.getD 23 undef = undef from (hφ 13 (by kernel_rfl))), (List.forall_mem_cons.2 ⟨(show a.tmps.getD 24 undef = undef from (hφ 14 (by kernel_rfl))), (List.forall_mem_cons.2 ⟨(show a.tmps.getD 25 undef = undef from (hφ 15 (by kernel_rfl))), (List.forall_mem_cons.2 ⟨(show a.tmps.getD 26 undef = undef from (hφ 16 (by kernel_rfl))), (List.forall_mem_cons.2 ⟨(show a.tmps.getD 27 undef = undef from (hφ 17 (by kernel_rfl))), (List.forall_mem_cons.2 ⟨(show a.tmps.getD 28 undef = undef from (hφ 18 (by kernel_rfl))), (List.forall_mem_cons.2 ⟨(show a.tmps.getD 29 undef = .bool false from (hφ 19 (by kernel_rfl))), (List.forall_mem_cons.2 ⟨(show a.tmps.getD 30 undef = .bool false from (hφ 20 (by kernel_rfl))), (List.forall_mem_cons.2 ⟨(show a.tmps.getD 31 undef = undef from (hφ 21 (by kernel_rfl))), (List.forall_mem_cons.2 ⟨(show a.tmps.getD 32 undef = undef from (hφ 22 (by kernel_rfl))), (List.forall_mem_cons.2 ⟨(show a.tmps.getD 33 undef = undef from (hφ 23 (by kernel_rfl))), (List.forall_mem_cons.2 ⟨(show a.tmps.getD 34 undef = undef from (hφ 24 (by kernel_rfl))), (List.forall_mem_cons.2 ⟨(show a.tmps.getD 35 undef = .bool false from (hφ 25 (by kernel_rfl))), (List.forall_mem_cons.2 ⟨(show a.tmps.getD 6 undef = .bool false from (hφ 26 (by kernel_rfl))), (fun _ h => absurd h (by simp))⟩)⟩)⟩)⟩)⟩)⟩)⟩)⟩)⟩)⟩)⟩)⟩)⟩)⟩)⟩)⟩)⟩)⟩)⟩)⟩)⟩)⟩)⟩)⟩)⟩)⟩)⟩) hold
      clear hφ hold hsz hde
      simp only [putAll]
      go_frame
      go_wp2_with fail
      go_ret
      have k1 : Below w.heap.size w w2 := HBW.out.trans (HB2.out.mono HBW.out.size)
      exact ⟨rfl, k1.trans (hG.mono k1.size)⟩
  · exact suits_nofit _ B P Sp K U bad w (fun V _ => (blocks_none V).mono fun e w' h => ⟨none, 0, 0, h.1, h.2⟩) hbd hf
set_option maxRecDepth 100000 in
set_option maxHeartbeats 4000000 in
/-- Where the config does not suit, or the number may not be, there is no pool. -/
theorem open_unsuited (cv : Value) (B P Sp K U bad seq : Int) (A : Option Addr) (n m : Nat) (w : World) (hsu : ∀ V, Below w.heap.size w V → Calls Tryz.prog 61 #[cv, .agg #[.int .i64 B, .int .i64 P, .int .i64 Sp, .int .i64 K, .int .i64 U], .int .i64 bad] V fun e w' => e = .returned (.bool false) ∧ Below V.heap.size V w') : Calls Tryz.prog 27 #[cv, .agg #[.int .i64 B, .int .i64 P, .int .i64 Sp, .int .i64 K, .int .i64 U], .int .i64 bad, .slice A n m, .int .i64 seq] w fun e w' => e = .returned (.tuple #[.pointer none, .int .i64 1]) ∧ Below w.heap.size w w' := by
  have HSU := Lib.hid hsu
  have HB0 := Lib.hid ((Below.refl w.heap.size w).alloc (Nat.le_refl _) (.cells #[.int .i64 B, .int .i64 P, .int .i64 Sp, .int .i64 K, .int .i64 U] 23))
  obtain ⟨a0, a1, a2, a3, a4⟩ := cfg5 (heap_alloc_new w (.cells #[.int .i64 B, .int .i64 P, .int .i64 Sp, .int .i64 K, .int .i64 U] 23))
  clear hsu
  go_enter Tryz.func27, Tryz.ntmps27
  go_wp2_with (go_at_call 61; refine (HSU.out _ HB0.out).mono ?_; rintro e w2 ⟨rfl, k2⟩; have HB2 := Lib.hid (HB0.out.trans (k2.mono HB0.out.size)); clear k2)
  go_ret2
  exact ⟨rfl, HB2.out⟩
end
end Go.Proofs.YtnadcdgpfopcaaaGreat
