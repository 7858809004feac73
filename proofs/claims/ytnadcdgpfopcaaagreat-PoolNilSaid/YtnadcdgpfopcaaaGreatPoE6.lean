/- A pool: shut, begin (written by pobegin.py). -/
import Derived.Test.YtnadcdgpfopcaaaGreatPoE5
namespace Go.Proofs.YtnadcdgpfopcaaaGreat
open Go.RowKit

/-- Nothing, of any world. -/
structure AnyW (w : World) : Prop where
  triv : True
theorem AnyW.below {w w' : World} (_h : AnyW w) (_hb : Below w.heap.size w w') : AnyW w' := ⟨trivial⟩
section
variable {w w' : World} {p c l f : Nat} {x y X Y Z : Nat → Prop} {Q Q1 : PS} {T : List Fd}
theorem Ok.shut (h : Ok Q) : Ok Q.shut := by
  unfold PS.shut
  split
  · exact { h with op := by have := h.may.1; show (-1 : Int) ≤ -1 ∧ (-1 : Int) < Q.B; omega }
  · exact h
theorem tell_next (h : Ok Q) (i : Int) : 0 ≤ (tellB Q.S i).next ∧ (tellB Q.S i).next ≤ 32 := by
  have := h.pg
  unfold tellB
  split
  · next h1 => have := h.next _ (blk_mem h1); omega
  · simp [noB]
set_option maxRecDepth 100000 in
set_option maxHeartbeats 2000000 in
theorem q_shut (h : Pool w p c x Q) (ok : Ok Q) : Calls Tryz.prog 145 #[.pointer (some ⟨p, 0, none⟩)] w fun r w' => r = .returned (.tuple #[]) ∧ Pool w' p c x Q.shut ∧ Safe x w w' := by
  obtain ⟨l, f, hpt⟩ := h.parts
  have HP := Lib.hid hpt
  have HQ := Lib.hid h
  have HNX : Hid ((Lit.int .i64 (tellB Q.S Q.op).next).wf = true) := Lib.hid (wf_of (by have := tell_next ok Q.op; omega))
  have HPW : Hid ((Lit.int .i64 Q.P).wf = true) := Lib.hid (wf_of (by have := ok.pg; omega))
  clear hpt h ok
  by_cases h1 : Q.op = -1
  · have HOP : Hid (some (Value.int .i64 Q.op) = some (.int .i64 (-1))) := Lib.hid (by rw [h1])
    have HE : Hid (Q.shut = Q) := Lib.hid (by unfold PS.shut; rw [if_neg (fun k => k.1 h1)])
    clear h1
    go_enter Tryz.func145, Tryz.ntmps145
    go_upto_region 0 with fail
    refine region_st (fun j v w' => match j with | 0 => v = .pointer (some ⟨p, 0, none⟩) | 1 => v = .pointer (some ⟨p, 0, none⟩) | 2 => v = .pointer (some ⟨p, 10, none⟩) | 3 => v = .int .i64 (-1) | 4 => v = .bool false | 5 => v = .bool false | 6 => v = undef | 7 => v = undef | 8 => v = undef | 9 => v = undef | 10 => v = undef | 11 => v = undef | 12 => v = undef | 13 => v = undef | 14 => v = undef | 15 => v = undef | 16 => v = undef | 17 => v = undef | 18 => v = undef | 19 => v = undef | 20 => v = undef | 21 => v = undef | 22 => v = .bool false | _ => True) (fun _ w' => Below w.heap.size w w') (fun w1 w2 => Below w1.heap.size w1 w2) (by kernel_rfl) (by kernel_rfl) (by kernel_rfl) ?hR ?hG ?hops ?hend
    case hR =>
      intro j v w1 w2 hv hb
      match j, hv with
      | 0, hv => exact hv
      | 1, hv => exact hv
      | 2, hv => exact hv
      | 3, hv => exact hv
      | 4, hv => exact hv
      | 5, hv => exact hv
      | 6, hv => exact hv
      | 7, hv => exact hv
      | 8, hv => exact hv
      | 9, hv => exact hv
      | 10, hv => exact hv
      | 11, hv => exact hv
      | 12, hv => exact hv
      | 13, hv => exact hv
      | 14, hv => exact hv
      | 15, hv => exact hv
      | 16, hv => exact hv
      | 17, hv => exact hv
      | 18, hv => exact hv
      | 19, hv => exact hv
      | 20, hv => exact hv
      | 21, hv => exact hv
      | 22, hv => exact hv
      | _ + 23, _ => exact trivial
    case hG => exact (Below.refl _ _).drew
    case hops =>
      refine OpsOkS.cons ?o0 (OpsOkS.cons ?o1 (OpsOkS.cons ?o2 (OpsOkS.cons ?o3 (OpsOkS.cons ?o4 (OpsOkS.cons ?o5 (OpsOkS.cons ?o6 (OpsOkS.cons ?o7 (OpsOkS.cons ?o8 (OpsOkS.cons ?o9 (OpsOkS.cons ?o10 (OpsOkS.cons ?o11 (OpsOkS.cons ?o12 (OpsOkS.cons ?o13 (OpsOkS.cons ?o14 (OpsOkS.cons ?o15 (OpsOkS.cons ?o16 (OpsOkS.cons ?o17 (OpsOkS.cons ?o18 (OpsOkS.cons ?o19 (OpsOkS.cons ?o20 (OpsOkS.cons ?o21 (OpsOkS.cons ?o22 OpsOkS.nil))))))))))))))))))))))
      case o0 =>
        intro a w1 Kx hG need old hsz fresh hKx
        have e0 : a.tmps[0]?.getD undef = .pointer (some ⟨p, 0, none⟩) := by rw [← Array.getD_eq_getD_getElem?]; exact old 0 (by kernel_rfl)
        refine op_value (v := .pointer (some ⟨p, 0, none⟩)) (wanted_none rfl) ?_ (hKx _ w1 rfl hG (Below.refl _ _))
        simp [execOp, go_sem, e0]
      case o1 =>
        intro a w1 Kx hG need old hsz fresh hKx
        have e0 : a.tmps[2]?.getD undef = .pointer (some ⟨p, 0, none⟩) := by rw [← Array.getD_eq_getD_getElem?]; exact (need 0 (by kernel_rfl) (by kernel_rfl))
        refine op_value (v := .pointer (some ⟨p, 0, none⟩)) (wanted_none rfl) ?_ (hKx _ w1 rfl hG (Below.refl _ _))
        simp [execOp, go_sem, e0]
      case o2 =>
        intro a w1 Kx hG need old hsz fresh hKx
        have e0 : a.tmps[3]?.getD undef = .pointer (some ⟨p, 0, none⟩) := by rw [← Array.getD_eq_getD_getElem?]; exact (need 1 (by kernel_rfl) (by kernel_rfl))
        refine op_value (v := .pointer (some ⟨p, 10, none⟩)) (wanted_none rfl) ?_ (hKx _ w1 rfl hG (Below.refl _ _))
        simp [execOp, go_sem, e0]
      case o3 =>
        intro a w1 Kx hG need old hsz fresh hKx
        have e0 : a.tmps[4]?.getD undef = .pointer (some ⟨p, 10, none⟩) := by rw [← Array.getD_eq_getD_getElem?]; exact (need 2 (by kernel_rfl) (by kernel_rfl))
        have k0 := ((hG.cell (p := ⟨p, 10, none⟩) HP.out.lt).trans HP.out.c10).trans HOP.out
        refine op_value (v := .int .i64 (-1)) (wanted_none rfl) ?_ (hKx _ w1 rfl hG (Below.refl _ _))
        simp [execOp, go_sem, e0, k0]
      case o4 =>
        intro a w1 Kx hG need old hsz fresh hKx
        have e0 : a.tmps[5]?.getD undef = .int .i64 (-1) := by rw [← Array.getD_eq_getD_getElem?]; exact (need 3 (by kernel_rfl) (by kernel_rfl))
        refine op_value (v := .bool false) (wanted_none rfl) ?_ (hKx _ w1 rfl hG (Below.refl _ _))
        simp [execOp, go_sem, e0]
      case o5 =>
        intro a w1 Kx hG need old hsz fresh hKx
        have e0 : a.tmps[6]?.getD undef = .bool false := by rw [← Array.getD_eq_getD_getElem?]; exact (need 4 (by kernel_rfl) (by kernel_rfl))
        refine op_value (v := .bool false) (wanted_none rfl) ?_ (hKx _ w1 rfl hG (Below.refl _ _))
        simp [execOp, go_sem, e0]
      case o6 =>
        intro a w1 Kx hG need old hsz fresh hKx
        exact skip_op (j := 5) rfl (need 5 (by kernel_rfl) (by kernel_rfl)) (by decide) (hKx undef w1 rfl hG (Below.refl _ _))
      case o7 =>
        intro a w1 Kx hG need old hsz fresh hKx
        exact skip_op (j := 5) rfl (need 5 (by kernel_rfl) (by kernel_rfl)) (by decide) (hKx undef w1 rfl hG (Below.refl _ _))
      case o8 =>
        intro a w1 Kx hG need old hsz fresh hKx
        exact skip_op (j := 5) rfl (need 5 (by kernel_rfl) (by kernel_rfl)) (by decide) (hKx undef w1 rfl hG (Below.refl _ _))
      case o9 =>
        intro a w1 Kx hG need old hsz fresh hKx
        exact skip_op (j := 5) rfl (need 5 (by kernel_rfl) (by kernel_rfl)) (by decide) (hKx undef w1 rfl hG (Below.refl _ _))
      case o10 =>
        intro a w1 Kx hG need old hsz fresh hKx
        exact skip_op (j := 5) rfl (need 5 (by kernel_rfl) (by kernel_rfl)) (by decide) (hKx undef w1 rfl hG (Below.refl _ _))
      case o11 =>
        intro a w1 Kx hG need old hsz fresh hKx
        exact skip_op (j := 5) rfl (need 5 (by kernel_rfl) (by kernel_rfl)) (by decide) (hKx undef w1 rfl hG (Below.refl _ _))
      case o12 =>
        intro a w1 Kx hG need old hsz fresh hKx
        exact skip_op (j := 5) rfl (need 5 (by kernel_rfl) (by kernel_rfl)) (by decide) (hKx undef w1 rfl hG (Below.refl _ _))
      case o13 =>
        intro a w1 Kx hG need old hsz fresh hKx
        exact skip_op (j := 5) rfl (need 5 (by kernel_rfl) (by kernel_rfl)) (by decide) (hKx undef w1 rfl hG (Below.refl _ _))
      case o14 =>
        intro a w1 Kx hG need old hsz fresh hKx
        exact skip_op (j := 5) rfl (need 5 (by kernel_rfl) (by kernel_rfl)) (by decide) (hKx undef w1 rfl hG (Below.refl _ _))
      case o15 =>
        intro a w1 Kx hG need old hsz fresh hKx
        exact skip_op (j := 5) rfl (need 5 (by kernel_rfl) (by kernel_rfl)) (by decide) (hKx undef w1 rfl hG (Below.refl _ _))
      case o16 =>
        intro a w1 Kx hG need old hsz fresh hKx
        exact skip_op (j := 5) rfl (need 5 (by kernel_rfl) (by kernel_rfl)) (by decide) (hKx undef w1 rfl hG (Below.refl _ _))
      case o17 =>
        intro a w1 Kx hG need old hsz fresh hKx
        exact skip_op (j := 5) rfl (need 5 (by kernel_rfl) (by kernel_rfl)) (by decide) (hKx undef w1 rfl hG (Below.refl _ _))
      case o18 =>
        intro a w1 Kx hG need old hsz fresh hKx
        exact skip_op (j := 5) rfl (need 5 (by kernel_rfl) (by kernel_rfl)) (by decide) (hKx undef w1 rfl hG (Below.refl _ _))
      case o19 =>
        intro a w1 Kx hG need old hsz fresh hKx
        exact skip_op (j := 5) rfl (need 5 (by kernel_rfl) (by kernel_rfl)) (by decide) (hKx undef w1 rfl hG (Below.refl _ _))
      case o20 =>
        intro a w1 Kx hG need old hsz fresh hKx
        exact skip_op (j := 5) rfl (need 5 (by kernel_rfl) (by kernel_rfl)) (by decide) (hKx undef w1 rfl hG (Below.refl _ _))
      case o21 =>
        intro a w1 Kx hG need old hsz fresh hKx
        exact skip_op (j := 5) rfl (need 5 (by kernel_rfl) (by kernel_rfl)) (by decide) (hKx undef w1 rfl hG (Below.refl _ _))
      case o22 =>
        intro a w1 Kx hG need old hsz fresh hKx
        have e0 : a.tmps[7]?.getD undef = .bool false := by rw [← Array.getD_eq_getD_getElem?]; exact (need 5 (by kernel_rfl) (by kernel_rfl))
        refine op_value (v := .bool false) (wanted_none rfl) ?_ (hKx _ w1 rfl hG (Below.refl _ _))
        simp [execOp, go_sem, asBool, e0]
    case hend =>
      intro a w6 hG hde hsz hφ hold
      obtain rfl := act_puts [(2, .pointer (some ⟨p, 0, none⟩)), (3, .pointer (some ⟨p, 0, none⟩)), (4, .pointer (some ⟨p, 10, none⟩)), (5, .int .i64 (-1)), (6, .bool false), (7, .bool false), (8, undef), (9, undef), (10, undef), (11, undef), (12, undef), (13, undef), (14, undef), (15, undef), (16, undef), (17, undef), (18, undef), (19, undef), (20, undef), (21, undef), (22, undef), (23, undef), (24, .bool false)] [2, 3, 4, 5, 6, 7, 8, 9, 10, 11, 12, 13, 14, 15, 16, 17, 18, 19, 20, 21, 22, 23, 24] rfl (by kernel_rfl) (by kernel_rfl) hde hsz (List.forall_mem_cons.2 ⟨(show a.tmps.getD 2 undef = .pointer (some ⟨p, 0, none⟩) from (hφ 0 (by kernel_rfl))), (List.forall_mem_cons.2 ⟨(show a.tmps.getD 3 undef = .pointer (some ⟨p, 0, none⟩) from (hφ 1 (by kernel_rfl))), (List.forall_mem_cons.2 ⟨(show a.tmps.getD 4 undef = .pointer (some ⟨p, 10, none⟩) from (hφ 2 (by kernel_rfl))), (List.forall_mem_cons.2 ⟨(show a.tmps.getD 5 undef = .int .i64 (-1) from (hφ 3 (by kernel_rfl))), (List.forall_mem_cons.2 ⟨(show a.tmps.getD 6 undef = .bool false from (hφ 4 (by kernel_rfl))), (List.forall_mem_cons.2 ⟨(show a.tmps.getD 7 undef = .bool false from (hφ 5 (by kernel_rfl))), (List.forall_mem_cons.2 ⟨(show a.tmps.getD 8 undef = undef from (hφ 6 (by kernel_rfl))), (List.forall_mem_cons.2 ⟨(show a.tmps.getD 9 undef = undef from (hφ 7 (by kernel_rfl))), (List.forall_mem_cons.2 ⟨(show a.tmps.getD 10 undef = undef from (hφ 8 (by kernel_rfl))), (List.forall_mem_cons.2 ⟨(show a.tmps.getD 11 undef = undef from (hφ 9 (by kernel_rfl))), (List.forall_mem_cons.2 ⟨(show a.tmps.getD 12 undef = undef from (hφ 10 (by kernel_rfl))), (List.forall_mem_cons.2 ⟨(show a.tmps.getD 13 undef = undef from (hφ 11 (by kernel_rfl))), (List.forall_mem_cons.2 ⟨(show a.tmps.getD 14 undef = undef from (hφ 12 (by kernel_rfl))), (List.forall_mem_cons.2 ⟨(show a.tmps.getD 15 undef = undef from (hφ 13 (by kernel_rfl))), (List.forall_mem_cons.2 ⟨(show a.tmps.getD 16 undef = undef from (hφ 14 (by kernel_rfl))), (List.forall_mem_cons.2 ⟨(show a.tmps.getD 17 undef = undef from (hφ 15 (by kernel_rfl))), (List.forall_mem_cons.2 ⟨(show a.tmps.getD 18 undef = undef from (hφ 16 (by kernel_rfl))), (List.forall_mem_cons.2 ⟨(show a.tmps.getD 19 undef = undef from (hφ 17 (by kernel_rfl))), (List.forall_mem_cons.2 ⟨(show a.tmps.getD 20 undef = undef from (hφ 18 (by kernel_rfl))), (List.forall_mem_cons.2 ⟨(show a.tmps.getD 21 undef = undef from (hφ 19 (by kernel_rfl))), (List.forall_mem_cons.2 ⟨(show a.tmps.getD 22 undef = undef from (hφ 20 (by kernel_rfl))), (List.forall_mem_cons.2 ⟨(show a.tmps.getD 23 undef = undef from (hφ 21 (by kernel_rfl))), (List.forall_mem_cons.2 ⟨(show a.tmps.getD 24 undef = .bool false from (hφ 22 (by kernel_rfl))), (fun _ h => absurd h (by simp))⟩)⟩)⟩)⟩)⟩)⟩)⟩)⟩)⟩)⟩)⟩)⟩)⟩)⟩)⟩)⟩)⟩)⟩)⟩)⟩)⟩)⟩)⟩) hold
      clear hφ hold hsz hde
      simp only [putAll]
      go_frame
      go_wp2_with fail
      go_end0
      rw [HE.out]
      exact ⟨rfl, HQ.out.below hG, safe_of_below hG⟩
  · have HNE := Lib.hid h1
    by_cases h2 : leftB (tellB Q.S Q.op) Q.P = 0
    · have HLF := Lib.hid h2
      have HE : Hid (Q.shut = { Q with op := -1 }) := Lib.hid (by unfold PS.shut; rw [if_pos ⟨h1, h2⟩])
      clear h1 h2
      go_enter Tryz.func145, Tryz.ntmps145
      go_upto_region 0 with fail
      refine region_st (fun j v w' => match j with | 0 => v = .pointer (some ⟨p, 0, none⟩) | 1 => v = .pointer (some ⟨p, 0, none⟩) | 2 => v = .pointer (some ⟨p, 10, none⟩) | 3 => v = .int .i64 Q.op | 4 => v = .bool true | 5 => v = .bool true | 6 => v = .pointer (some ⟨p, 0, none⟩) | 7 => v = .pointer (some ⟨p, 0, none⟩) | 8 => v = .pointer (some ⟨p, 0, none⟩) | 9 => v = .pointer (some ⟨c, 0, none⟩) | 10 => v = .pointer (some ⟨p, 0, none⟩) | 11 => v = .pointer (some ⟨p, 0, none⟩) | 12 => v = .pointer (some ⟨p, 10, none⟩) | 13 => v = .int .i64 Q.op | 14 => ∃ A9 c9, v = .agg #[.bool (tellB Q.S Q.op).bad, .int .i64 (tellB Q.S Q.op).next, .int .i64 (tellB Q.S Q.op).count, .slice A9 (tellB Q.S Q.op).pages.length c9] ∧ AnyW w' | 15 => v = .pointer (some ⟨p, 0, none⟩) | 16 => v = .pointer (some ⟨p, 0, none⟩) | 17 => v = .pointer (some ⟨p, 1, none⟩) | 18 => v = .pointer (some ⟨p, 2, none⟩) | 19 => v = .int .i64 Q.P | 20 => v = .int .i64 (leftB (tellB Q.S Q.op) Q.P) | 21 => v = .bool true | 22 => v = .bool true | _ => True) (fun _ w' => Below w.heap.size w w') (fun w1 w2 => Below w1.heap.size w1 w2) (by kernel_rfl) (by kernel_rfl) (by kernel_rfl) ?hR ?hG ?hops ?hend
      case hR =>
        intro j v w1 w2 hv hb
        match j, hv with
        | 0, hv => exact hv
        | 1, hv => exact hv
        | 2, hv => exact hv
        | 3, hv => exact hv
        | 4, hv => exact hv
        | 5, hv => exact hv
        | 6, hv => exact hv
        | 7, hv => exact hv
        | 8, hv => exact hv
        | 9, hv => exact hv
        | 10, hv => exact hv
        | 11, hv => exact hv
        | 12, hv => exact hv
        | 13, hv => exact hv
        | 14, ⟨A9, c9, e, h⟩ => exact ⟨A9, c9, e, h.below hb⟩
        | 15, hv => exact hv
        | 16, hv => exact hv
        | 17, hv => exact hv
        | 18, hv => exact hv
        | 19, hv => exact hv
        | 20, hv => exact hv
        | 21, hv => exact hv
        | 22, hv => exact hv
        | _ + 23, _ => exact trivial
      case hG => exact (Below.refl _ _).drew
      case hops =>
        refine OpsOkS.cons ?o0 (OpsOkS.cons ?o1 (OpsOkS.cons ?o2 (OpsOkS.cons ?o3 (OpsOkS.cons ?o4 (OpsOkS.cons ?o5 (OpsOkS.cons ?o6 (OpsOkS.cons ?o7 (OpsOkS.cons ?o8 (OpsOkS.cons ?o9 (OpsOkS.cons ?o10 (OpsOkS.cons ?o11 (OpsOkS.cons ?o12 (OpsOkS.cons ?o13 (OpsOkS.cons ?o14 (OpsOkS.cons ?o15 (OpsOkS.cons ?o16 (OpsOkS.cons ?o17 (OpsOkS.cons ?o18 (OpsOkS.cons ?o19 (OpsOkS.cons ?o20 (OpsOkS.cons ?o21 (OpsOkS.cons ?o22 OpsOkS.nil))))))))))))))))))))))
        case o0 =>
          intro a w1 Kx hG need old hsz fresh hKx
          have e0 : a.tmps[0]?.getD undef = .pointer (some ⟨p, 0, none⟩) := by rw [← Array.getD_eq_getD_getElem?]; exact old 0 (by kernel_rfl)
          refine op_value (v := .pointer (some ⟨p, 0, none⟩)) (wanted_none rfl) ?_ (hKx _ w1 rfl hG (Below.refl _ _))
          simp [execOp, go_sem, e0]
        case o1 =>
          intro a w1 Kx hG need old hsz fresh hKx
          have e0 : a.tmps[2]?.getD undef = .pointer (some ⟨p, 0, none⟩) := by rw [← Array.getD_eq_getD_getElem?]; exact (need 0 (by kernel_rfl) (by kernel_rfl))
          refine op_value (v := .pointer (some ⟨p, 0, none⟩)) (wanted_none rfl) ?_ (hKx _ w1 rfl hG (Below.refl _ _))
          simp [execOp, go_sem, e0]
        case o2 =>
          intro a w1 Kx hG need old hsz fresh hKx
          have e0 : a.tmps[3]?.getD undef = .pointer (some ⟨p, 0, none⟩) := by rw [← Array.getD_eq_getD_getElem?]; exact (need 1 (by kernel_rfl) (by kernel_rfl))
          refine op_value (v := .pointer (some ⟨p, 10, none⟩)) (wanted_none rfl) ?_ (hKx _ w1 rfl hG (Below.refl _ _))
          simp [execOp, go_sem, e0]
        case o3 =>
          intro a w1 Kx hG need old hsz fresh hKx
          have e0 : a.tmps[4]?.getD undef = .pointer (some ⟨p, 10, none⟩) := by rw [← Array.getD_eq_getD_getElem?]; exact (need 2 (by kernel_rfl) (by kernel_rfl))
          have k0 := (hG.cell (p := ⟨p, 10, none⟩) HP.out.lt).trans HP.out.c10
          refine op_value (v := .int .i64 Q.op) (wanted_none rfl) ?_ (hKx _ w1 rfl hG (Below.refl _ _))
          simp [execOp, go_sem, e0, k0]
        case o4 =>
          intro a w1 Kx hG need old hsz fresh hKx
          have e0 : a.tmps[5]?.getD undef = .int .i64 Q.op := by rw [← Array.getD_eq_getD_getElem?]; exact (need 3 (by kernel_rfl) (by kernel_rfl))
          refine op_value (v := .bool true) (wanted_none rfl) ?_ (hKx _ w1 rfl hG (Below.refl _ _))
          simp [execOp, go_sem, e0, HNE.out]
        case o5 =>
          intro a w1 Kx hG need old hsz fresh hKx
          have e0 : a.tmps[6]?.getD undef = .bool true := by rw [← Array.getD_eq_getD_getElem?]; exact (need 4 (by kernel_rfl) (by kernel_rfl))
          refine op_value (v := .bool true) (wanted_none rfl) ?_ (hKx _ w1 rfl hG (Below.refl _ _))
          simp [execOp, go_sem, e0]
        case o6 =>
          intro a w1 Kx hG need old hsz fresh hKx
          have e0 : a.tmps[0]?.getD undef = .pointer (some ⟨p, 0, none⟩) := by rw [← Array.getD_eq_getD_getElem?]; exact old 0 (by kernel_rfl)
          refine op_value (v := .pointer (some ⟨p, 0, none⟩)) (wanted_of (j := 5) rfl (need 5 (by kernel_rfl) (by kernel_rfl))) ?_ (hKx _ w1 rfl hG (Below.refl _ _))
          simp [execOp, go_sem, e0]
        case o7 =>
          intro a w1 Kx hG need old hsz fresh hKx
          have e0 : a.tmps[8]?.getD undef = .pointer (some ⟨p, 0, none⟩) := by rw [← Array.getD_eq_getD_getElem?]; exact (need 6 (by kernel_rfl) (by kernel_rfl))
          refine op_value (v := .pointer (some ⟨p, 0, none⟩)) (wanted_of (j := 5) rfl (need 5 (by kernel_rfl) (by kernel_rfl))) ?_ (hKx _ w1 rfl hG (Below.refl _ _))
          simp [execOp, go_sem, e0]
        case o8 =>
          intro a w1 Kx hG need old hsz fresh hKx
          have e0 : a.tmps[9]?.getD undef = .pointer (some ⟨p, 0, none⟩) := by rw [← Array.getD_eq_getD_getElem?]; exact (need 7 (by kernel_rfl) (by kernel_rfl))
          refine op_value (v := .pointer (some ⟨p, 0, none⟩)) (wanted_of (j := 5) rfl (need 5 (by kernel_rfl) (by kernel_rfl))) ?_ (hKx _ w1 rfl hG (Below.refl _ _))
          simp [execOp, go_sem, e0]
        case o9 =>
          intro a w1 Kx hG need old hsz fresh hKx
          have e0 : a.tmps[10]?.getD undef = .pointer (some ⟨p, 0, none⟩) := by rw [← Array.getD_eq_getD_getElem?]; exact (need 8 (by kernel_rfl) (by kernel_rfl))
          have k0 := (hG.cell (p := ⟨p, 0, none⟩) HP.out.lt).trans HP.out.c0
          refine op_value (v := .pointer (some ⟨c, 0, none⟩)) (wanted_of (j := 5) rfl (need 5 (by kernel_rfl) (by kernel_rfl))) ?_ (hKx _ w1 rfl hG (Below.refl _ _))
          simp [execOp, go_sem, e0, k0]
        case o10 =>
          intro a w1 Kx hG need old hsz fresh hKx
          have e0 : a.tmps[0]?.getD undef = .pointer (some ⟨p, 0, none⟩) := by rw [← Array.getD_eq_getD_getElem?]; exact old 0 (by kernel_rfl)
          refine op_value (v := .pointer (some ⟨p, 0, none⟩)) (wanted_of (j := 5) rfl (need 5 (by kernel_rfl) (by kernel_rfl))) ?_ (hKx _ w1 rfl hG (Below.refl _ _))
          simp [execOp, go_sem, e0]
        case o11 =>
          intro a w1 Kx hG need old hsz fresh hKx
          have e0 : a.tmps[12]?.getD undef = .pointer (some ⟨p, 0, none⟩) := by rw [← Array.getD_eq_getD_getElem?]; exact (need 10 (by kernel_rfl) (by kernel_rfl))
          refine op_value (v := .pointer (some ⟨p, 0, none⟩)) (wanted_of (j := 5) rfl (need 5 (by kernel_rfl) (by kernel_rfl))) ?_ (hKx _ w1 rfl hG (Below.refl _ _))
          simp [execOp, go_sem, e0]
        case o12 =>
          intro a w1 Kx hG need old hsz fresh hKx
          have e0 : a.tmps[13]?.getD undef = .pointer (some ⟨p, 0, none⟩) := by rw [← Array.getD_eq_getD_getElem?]; exact (need 11 (by kernel_rfl) (by kernel_rfl))
          refine op_value (v := .pointer (some ⟨p, 10, none⟩)) (wanted_of (j := 5) rfl (need 5 (by kernel_rfl) (by kernel_rfl))) ?_ (hKx _ w1 rfl hG (Below.refl _ _))
          simp [execOp, go_sem, e0]
        case o13 =>
          intro a w1 Kx hG need old hsz fresh hKx
          have e0 : a.tmps[14]?.getD undef = .pointer (some ⟨p, 10, none⟩) := by rw [← Array.getD_eq_getD_getElem?]; exact (need 12 (by kernel_rfl) (by kernel_rfl))
          have k0 := (hG.cell (p := ⟨p, 10, none⟩) HP.out.lt).trans HP.out.c10
          refine op_value (v := .int .i64 Q.op) (wanted_of (j := 5) rfl (need 5 (by kernel_rfl) (by kernel_rfl))) ?_ (hKx _ w1 rfl hG (Below.refl _ _))
          simp [execOp, go_sem, e0, k0]
        case o14 =>
          intro a w1 Kx hG need old hsz fresh hKx
          have e0 : a.tmps[11]?.getD undef = .pointer (some ⟨c, 0, none⟩) := by rw [← Array.getD_eq_getD_getElem?]; exact (need 9 (by kernel_rfl) (by kernel_rfl))
          have e1 : a.tmps[15]?.getD undef = .int .i64 Q.op := by rw [← Array.getD_eq_getD_getElem?]; exact (need 13 (by kernel_rfl) (by kernel_rfl))
          refine op_call (wanted_of (j := 5) rfl (need 5 (by kernel_rfl) (by kernel_rfl))) (f := 48) (args := #[.pointer (some ⟨c, 0, none⟩), .int .i64 Q.op]) ?run ((held_block Q.op (HP.out.chip.below hG)).mono ?post)
          case run => simp [go_sem, e0, e1]
          case post =>
            rintro e w2 ⟨pv, rfl, ⟨A9, c9, rfl, _⟩, hb2⟩
            exact ⟨_, rfl, hKx _ w2 ⟨A9, c9, rfl, ⟨trivial⟩⟩ (hG.trans (hb2.mono hG.size)) hb2⟩
        case o15 =>
          intro a w1 Kx hG need old hsz fresh hKx
          have e0 : a.tmps[0]?.getD undef = .pointer (some ⟨p, 0, none⟩) := by rw [← Array.getD_eq_getD_getElem?]; exact old 0 (by kernel_rfl)
          refine op_value (v := .pointer (some ⟨p, 0, none⟩)) (wanted_of (j := 5) rfl (need 5 (by kernel_rfl) (by kernel_rfl))) ?_ (hKx _ w1 rfl hG (Below.refl _ _))
          simp [execOp, go_sem, e0]
        case o16 =>
          intro a w1 Kx hG need old hsz fresh hKx
          have e0 : a.tmps[17]?.getD undef = .pointer (some ⟨p, 0, none⟩) := by rw [← Array.getD_eq_getD_getElem?]; exact (need 15 (by kernel_rfl) (by kernel_rfl))
          refine op_value (v := .pointer (some ⟨p, 0, none⟩)) (wanted_of (j := 5) rfl (need 5 (by kernel_rfl) (by kernel_rfl))) ?_ (hKx _ w1 rfl hG (Below.refl _ _))
          simp [execOp, go_sem, e0]
        case o17 =>
          intro a w1 Kx hG need old hsz fresh hKx
          have e0 : a.tmps[18]?.getD undef = .pointer (some ⟨p, 0, none⟩) := by rw [← Array.getD_eq_getD_getElem?]; exact (need 16 (by kernel_rfl) (by kernel_rfl))
          refine op_value (v := .pointer (some ⟨p, 1, none⟩)) (wanted_of (j := 5) rfl (need 5 (by kernel_rfl) (by kernel_rfl))) ?_ (hKx _ w1 rfl hG (Below.refl _ _))
          simp [execOp, go_sem, e0]
        case o18 =>
          intro a w1 Kx hG need old hsz fresh hKx
          have e0 : a.tmps[19]?.getD undef = .pointer (some ⟨p, 1, none⟩) := by rw [← Array.getD_eq_getD_getElem?]; exact (need 17 (by kernel_rfl) (by kernel_rfl))
          refine op_value (v := .pointer (some ⟨p, 2, none⟩)) (wanted_of (j := 5) rfl (need 5 (by kernel_rfl) (by kernel_rfl))) ?_ (hKx _ w1 rfl hG (Below.refl _ _))
          simp [execOp, go_sem, e0]
        case o19 =>
          intro a w1 Kx hG need old hsz fresh hKx
          have e0 : a.tmps[20]?.getD undef = .pointer (some ⟨p, 2, none⟩) := by rw [← Array.getD_eq_getD_getElem?]; exact (need 18 (by kernel_rfl) (by kernel_rfl))
          have k0 := (hG.cell (p := ⟨p, 2, none⟩) HP.out.lt).trans HP.out.c2
          refine op_value (v := .int .i64 Q.P) (wanted_of (j := 5) rfl (need 5 (by kernel_rfl) (by kernel_rfl))) ?_ (hKx _ w1 rfl hG (Below.refl _ _))
          simp [execOp, go_sem, e0, k0]
        case o20 =>
          intro a w1 Kx hG need old hsz fresh hKx
          obtain ⟨A9, c9, qe0, he0⟩ := need 14 (by kernel_rfl) (by kernel_rfl)
          have e0 : a.tmps[16]?.getD undef = .agg #[.bool (tellB Q.S Q.op).bad, .int .i64 (tellB Q.S Q.op).next, .int .i64 (tellB Q.S Q.op).count, .slice A9 (tellB Q.S Q.op).pages.length c9] := by rw [← Array.getD_eq_getD_getElem?]; exact qe0
          have e1 : a.tmps[21]?.getD undef = .int .i64 Q.P := by rw [← Array.getD_eq_getD_getElem?]; exact (need 19 (by kernel_rfl) (by kernel_rfl))
          refine op_call (wanted_of (j := 5) rfl (need 5 (by kernel_rfl) (by kernel_rfl))) (f := 161) (args := #[.agg #[.bool (tellB Q.S Q.op).bad, .int .i64 (tellB Q.S Q.op).next, .int .i64 (tellB Q.S Q.op).count, .slice A9 (tellB Q.S Q.op).pages.length c9], .int .i64 Q.P]) ?run ((left_any (tellB Q.S Q.op) A9 _ c9 Q.P w1 HNX.out HPW.out).mono ?post)
          case run => simp [go_sem, e0, e1]
          case post =>
            rintro e w2 ⟨rfl, hb2⟩
            exact ⟨_, rfl, hKx _ w2 rfl (hG.trans (hb2.mono hG.size)) hb2⟩
        case o21 =>
          intro a w1 Kx hG need old hsz fresh hKx
          have e0 : a.tmps[22]?.getD undef = .int .i64 (leftB (tellB Q.S Q.op) Q.P) := by rw [← Array.getD_eq_getD_getElem?]; exact (need 20 (by kernel_rfl) (by kernel_rfl))
          refine op_value (v := .bool true) (wanted_of (j := 5) rfl (need 5 (by kernel_rfl) (by kernel_rfl))) ?_ (hKx _ w1 rfl hG (Below.refl _ _))
          simp [execOp, go_sem, e0, HLF.out]
        case o22 =>
          intro a w1 Kx hG need old hsz fresh hKx
          have e0 : a.tmps[7]?.getD undef = .bool true := by rw [← Array.getD_eq_getD_getElem?]; exact (need 5 (by kernel_rfl) (by kernel_rfl))
          have e1 : a.tmps[23]?.getD undef = .bool true := by rw [← Array.getD_eq_getD_getElem?]; exact (need 21 (by kernel_rfl) (by kernel_rfl))
          refine op_value (v := .bool true) (wanted_none rfl) ?_ (hKx _ w1 rfl hG (Below.refl _ _))
          simp [execOp, go_sem, asBool, e0, e1]
      case hend =>
        intro a w6 hG hde hsz hφ hold
        obtain ⟨A9_14, c9_14, hv_14, hp_14⟩ := hφ 14 (by kernel_rfl)
        obtain rfl := act_puts [(2, .pointer (some ⟨p, 0, none⟩)), (3, .pointer (some ⟨p, 0, none⟩)), (4, .pointer (some ⟨p, 10, none⟩)), (5, .int .i64 Q.op), (6, .bool true), (7, .bool true), (8, .pointer (some ⟨p, 0, none⟩)), (9, .pointer (some ⟨p, 0, none⟩)), (10, .pointer (some ⟨p, 0, none⟩)), (11, .pointer (some ⟨c, 0, none⟩)), (12, .pointer (some ⟨p, 0, none⟩)), (13, .pointer (some ⟨p, 0, none⟩)), (14, .pointer (some ⟨p, 10, none⟩)), (15, .int .i64 Q.op), (16, .agg #[.bool (tellB Q.S Q.op).bad, .int .i64 (tellB Q.S Q.op).next, .int .i64 (tellB Q.S Q.op).count, .slice A9_14 (tellB Q.S Q.op).pages.length c9_14]), (17, .pointer (some ⟨p, 0, none⟩)), (18, .pointer (some ⟨p, 0, none⟩)), (19, .pointer (some ⟨p, 1, none⟩)), (20, .pointer (some ⟨p, 2, none⟩)), (21, .int .i64 Q.P), (22, .int .i64 (leftB (tellB Q.S Q.op) Q.P)), (23, .bool true), (24, .bool true)] [2, 3, 4, 5, 6, 7, 8, 9, 10, 11, 12, 13, 14, 15, 16, 17, 18, 19, 20, 21, 22, 23, 24] rfl (by kernel_rfl) (by kernel_rfl) hde hsz (List.forall_mem_cons.2 ⟨(show a.tmps.getD 2 undef = .pointer (some ⟨p, 0, none⟩) from (hφ 0 (by kernel_rfl))), (List.forall_mem_cons.2 ⟨(show a.tmps.getD 3 undef = .pointer (some ⟨p, 0, none⟩) from (hφ 1 (by kernel_rfl))), (List.forall_mem_cons.2 ⟨(show a.tmps.getD 4 undef = .pointer (some ⟨p, 10, none⟩) from (hφ 2 (by kernel_rfl))), (List.forall_mem_cons.2 ⟨(show a.tmps.getD 5 undef = .int .i64 Q.op from (hφ 3 (by kernel_rfl))), (List.forall_mem_cons.2 ⟨(show a.tmps.getD 6 undef = .bool true from (hφ 4 (by kernel_rfl))), (List.forall_mem_cons.2 ⟨(show a.tmps.getD 7 undef = .bool true from (hφ 5 (by kernel_rfl))), (List.forall_mem_cons.2 ⟨(show a.tmps.getD 8 undef = .pointer (some ⟨p, 0, none⟩) from (hφ 6 (by kernel_rfl))), (List.forall_mem_cons.2 ⟨(show a.tmps.getD 9 undef = .pointer (some ⟨p, 0, none⟩) from (hφ 7 (by kernel_rfl))), (List.forall_mem_cons.2 ⟨(show a.tmps.getD 10 undef = .pointer (some ⟨p, 0, none⟩) from (hφ 8 (by kernel_rfl))), (List.forall_mem_cons.2 ⟨(show a.tmps.getD 11 undef = .pointer (some ⟨c, 0, none⟩) from (hφ 9 (by kernel_rfl))), (List.forall_mem_cons.2 ⟨(show a.tmps.getD 12 undef = .pointer (some ⟨p, 0, none⟩) from (hφ 10 (by kernel_rfl))), (List.forall_mem_cons.2 ⟨(show a.tmps.getD 13 undef = .pointer (some ⟨p, 0, none⟩) from (hφ 11 (by kernel_rfl))), (List.forall_mem_cons.2 ⟨(show a.tmps.getD 14 undef = .pointer (some ⟨p, 10, none⟩) from (hφ 12 (by kernel_rfl))), (List.forall_mem_cons.2 ⟨(show a.tmps.getD 15 undef = .int .i64 Q.op from (hφ 13 (by kernel_rfl))), (List.forall_mem_cons.2 ⟨(show a.tmps.getD 16 undef = .agg #[.bool (tellB Q.S Q.op).bad, .int .i64 (tellB Q.S Q.op).next, .int .i64 (tellB Q.S Q.op).count, .slice A9_14 (tellB Q.S Q.op).pages.length c9_14] from hv_14), (List.forall_mem_cons.2 ⟨(show a.tmps.getD 17 undef = .pointer (some ⟨p, 0, none⟩) from (hφ 15 (by kernel_rfl))), (List.forall_mem_cons.2 ⟨(show a.tmps.getD 18 undef = .pointer (some ⟨p, 0, none⟩) from (hφ 16 (by kernel_rfl))), (List.forall_mem_cons.2 ⟨(show a.tmps.getD 19 undef = .pointer (some ⟨p, 1, none⟩) from (hφ 17 (by kernel_rfl))), (List.forall_mem_cons.2 ⟨(show a.tmps.getD 20 undef = .pointer (some ⟨p, 2, none⟩) from (hφ 18 (by kernel_rfl))), (List.forall_mem_cons.2 ⟨(show a.tmps.getD 21 undef = .int .i64 Q.P from (hφ 19 (by kernel_rfl))), (List.forall_mem_cons.2 ⟨(show a.tmps.getD 22 undef = .int .i64 (leftB (tellB Q.S Q.op) Q.P) from (hφ 20 (by kernel_rfl))), (List.forall_mem_cons.2 ⟨(show a.tmps.getD 23 undef = .bool true from (hφ 21 (by kernel_rfl))), (List.forall_mem_cons.2 ⟨(show a.tmps.getD 24 undef = .bool true from (hφ 22 (by kernel_rfl))), (fun _ h => absurd h (by simp))⟩)⟩)⟩)⟩)⟩)⟩)⟩)⟩)⟩)⟩)⟩)⟩)⟩)⟩)⟩)⟩)⟩)⟩)⟩)⟩)⟩)⟩)⟩) hold
        clear hφ hold hsz hde hv_14
        simp only [putAll]
        go_frame
        have c10 := (HP.out.below hG).c10
        have fr10 := (HP.out.below hG).fr 10
        go_wp2_with fail
        go_end0
        rw [HE.out]
        have k := Pool.set (j := 10) (u := .int .i64 (-1)) (Q' := { Q with op := -1 }) (HQ.out.below hG) rfl rfl rfl (fun l f => by simp [PS.cells])
        exact ⟨rfl, k.1, (safe_of_below hG).then k.2⟩
    · have HLF := Lib.hid h2
      have HE : Hid (Q.shut = Q) := Lib.hid (by unfold PS.shut; rw [if_neg (fun k => h2 k.2)])
      clear h1 h2
      go_enter Tryz.func145, Tryz.ntmps145
      go_upto_region 0 with fail
      refine region_st (fun j v w' => match j with | 0 => v = .pointer (some ⟨p, 0, none⟩) | 1 => v = .pointer (some ⟨p, 0, none⟩) | 2 => v = .pointer (some ⟨p, 10, none⟩) | 3 => v = .int .i64 Q.op | 4 => v = .bool true | 5 => v = .bool true | 6 => v = .pointer (some ⟨p, 0, none⟩) | 7 => v = .pointer (some ⟨p, 0, none⟩) | 8 => v = .pointer (some ⟨p, 0, none⟩) | 9 => v = .pointer (some ⟨c, 0, none⟩) | 10 => v = .pointer (some ⟨p, 0, none⟩) | 11 => v = .pointer (some ⟨p, 0, none⟩) | 12 => v = .pointer (some ⟨p, 10, none⟩) | 13 => v = .int .i64 Q.op | 14 => ∃ A9 c9, v = .agg #[.bool (tellB Q.S Q.op).bad, .int .i64 (tellB Q.S Q.op).next, .int .i64 (tellB Q.S Q.op).count, .slice A9 (tellB Q.S Q.op).pages.length c9] ∧ AnyW w' | 15 => v = .pointer (some ⟨p, 0, none⟩) | 16 => v = .pointer (some ⟨p, 0, none⟩) | 17 => v = .pointer (some ⟨p, 1, none⟩) | 18 => v = .pointer (some ⟨p, 2, none⟩) | 19 => v = .int .i64 Q.P | 20 => v = .int .i64 (leftB (tellB Q.S Q.op) Q.P) | 21 => v = .bool false | 22 => v = .bool false | _ => True) (fun _ w' => Below w.heap.size w w') (fun w1 w2 => Below w1.heap.size w1 w2) (by kernel_rfl) (by kernel_rfl) (by kernel_rfl) ?hR ?hG ?hops ?hend
      case hR =>
        intro j v w1 w2 hv hb
        match j, hv with
        | 0, hv => exact hv
        | 1, hv => exact hv
        | 2, hv => exact hv
        | 3, hv => exact hv
        | 4, hv => exact hv
        | 5, hv => exact hv
        | 6, hv => exact hv
        | 7, hv => exact hv
        | 8, hv => exact hv
        | 9, hv => exact hv
        | 10, hv => exact hv
        | 11, hv => exact hv
        | 12, hv => exact hv
        | 13, hv => exact hv
        | 14, ⟨A9, c9, e, h⟩ => exact ⟨A9, c9, e, h.below hb⟩
        | 15, hv => exact hv
        | 16, hv => exact hv
        | 17, hv => exact hv
        | 18, hv => exact hv
        | 19, hv => exact hv
        | 20, hv => exact hv
        | 21, hv => exact hv
        | 22, hv => exact hv
        | _ + 23, _ => exact trivial
      case hG => exact (Below.refl _ _).drew
      case hops =>
        refine OpsOkS.cons ?o0 (OpsOkS.cons ?o1 (OpsOkS.cons ?o2 (OpsOkS.cons ?o3 (OpsOkS.cons ?o4 (OpsOkS.cons ?o5 (OpsOkS.cons ?o6 (OpsOkS.cons ?o7 (OpsOkS.cons ?o8 (OpsOkS.cons ?o9 (OpsOkS.cons ?o10 (OpsOkS.cons ?o11 (OpsOkS.cons ?o12 (OpsOkS.cons ?o13 (OpsOkS.cons ?o14 (OpsOkS.cons ?o15 (OpsOkS.cons ?o16 (OpsOkS.cons ?o17 (OpsOkS.cons ?o18 (OpsOkS.cons ?o19 (OpsOkS.cons ?o20 (OpsOkS.cons ?o21 (OpsOkS.cons ?o22 OpsOkS.nil))))))))))))))))))))))
        case o0 =>
          intro a w1 Kx hG need old hsz fresh hKx
          have e0 : a.tmps[0]?.getD undef = .pointer (some ⟨p, 0, none⟩) := by rw [← Array.getD_eq_getD_getElem?]; exact old 0 (by kernel_rfl)
          refine op_value (v := .pointer (some ⟨p, 0, none⟩)) (wanted_none rfl) ?_ (hKx _ w1 rfl hG (Below.refl _ _))
          simp [execOp, go_sem, e0]
        case o1 =>
          intro a w1 Kx hG need old hsz fresh hKx
          have e0 : a.tmps[2]?.getD undef = .pointer (some ⟨p, 0, none⟩) := by rw [← Array.getD_eq_getD_getElem?]; exact (need 0 (by kernel_rfl) (by kernel_rfl))
          refine op_value (v := .pointer (some ⟨p, 0, none⟩)) (wanted_none rfl) ?_ (hKx _ w1 rfl hG (Below.refl _ _))
          simp [execOp, go_sem, e0]
        case o2 =>
          intro a w1 Kx hG need old hsz fresh hKx
          have e0 : a.tmps[3]?.getD undef = .pointer (some ⟨p, 0, none⟩) := by rw [← Array.getD_eq_getD_getElem?]; exact (need 1 (by kernel_rfl) (by kernel_rfl))
          refine op_value (v := .pointer (some ⟨p, 10, none⟩)) (wanted_none rfl) ?_ (hKx _ w1 rfl hG (Below.refl _ _))
          simp [execOp, go_sem, e0]
        case o3 =>
          intro a w1 Kx hG need old hsz fresh hKx
          have e0 : a.tmps[4]?.getD undef = .pointer (some ⟨p, 10, none⟩) := by rw [← Array.getD_eq_getD_getElem?]; exact (need 2 (by kernel_rfl) (by kernel_rfl))
          have k0 := (hG.cell (p := ⟨p, 10, none⟩) HP.out.lt).trans HP.out.c10
          refine op_value (v := .int .i64 Q.op) (wanted_none rfl) ?_ (hKx _ w1 rfl hG (Below.refl _ _))
          simp [execOp, go_sem, e0, k0]
        case o4 =>
          intro a w1 Kx hG need old hsz fresh hKx
          have e0 : a.tmps[5]?.getD undef = .int .i64 Q.op := by rw [← Array.getD_eq_getD_getElem?]; exact (need 3 (by kernel_rfl) (by kernel_rfl))
          refine op_value (v := .bool true) (wanted_none rfl) ?_ (hKx _ w1 rfl hG (Below.refl _ _))
          simp [execOp, go_sem, e0, HNE.out]
        case o5 =>
          intro a w1 Kx hG need old hsz fresh hKx
          have e0 : a.tmps[6]?.getD undef = .bool true := by rw [← Array.getD_eq_getD_getElem?]; exact (need 4 (by kernel_rfl) (by kernel_rfl))
          refine op_value (v := .bool true) (wanted_none rfl) ?_ (hKx _ w1 rfl hG (Below.refl _ _))
          simp [execOp, go_sem, e0]
        case o6 =>
          intro a w1 Kx hG need old hsz fresh hKx
          have e0 : a.tmps[0]?.getD undef = .pointer (some ⟨p, 0, none⟩) := by rw [← Array.getD_eq_getD_getElem?]; exact old 0 (by kernel_rfl)
          refine op_value (v := .pointer (some ⟨p, 0, none⟩)) (wanted_of (j := 5) rfl (need 5 (by kernel_rfl) (by kernel_rfl))) ?_ (hKx _ w1 rfl hG (Below.refl _ _))
          simp [execOp, go_sem, e0]
        case o7 =>
          intro a w1 Kx hG need old hsz fresh hKx
          have e0 : a.tmps[8]?.getD undef = .pointer (some ⟨p, 0, none⟩) := by rw [← Array.getD_eq_getD_getElem?]; exact (need 6 (by kernel_rfl) (by kernel_rfl))
          refine op_value (v := .pointer (some ⟨p, 0, none⟩)) (wanted_of (j := 5) rfl (need 5 (by kernel_rfl) (by kernel_rfl))) ?_ (hKx _ w1 rfl hG (Below.refl _ _))
          simp [execOp, go_sem, e0]
        case o8 =>
          intro a w1 Kx hG need old hsz fresh hKx
          have e0 : a.tmps[9]?.getD undef = .pointer (some ⟨p, 0, none⟩) := by rw [← Array.getD_eq_getD_getElem?]; exact (need 7 (by kernel_rfl) (by kernel_rfl))
          refine op_value (v := .pointer (some ⟨p, 0, none⟩)) (wanted_of (j := 5) rfl (need 5 (by kernel_rfl) (by kernel_rfl))) ?_ (hKx _ w1 rfl hG (Below.refl _ _))
          simp [execOp, go_sem, e0]
        case o9 =>
          intro a w1 Kx hG need old hsz fresh hKx
          have e0 : a.tmps[10]?.getD undef = .pointer (some ⟨p, 0, none⟩) := by rw [← Array.getD_eq_getD_getElem?]; exact (need 8 (by kernel_rfl) (by kernel_rfl))
          have k0 := (hG.cell (p := ⟨p, 0, none⟩) HP.out.lt).trans HP.out.c0
          refine op_value (v := .pointer (some ⟨c, 0, none⟩)) (wanted_of (j := 5) rfl (need 5 (by kernel_rfl) (by kernel_rfl))) ?_ (hKx _ w1 rfl hG (Below.refl _ _))
          simp [execOp, go_sem, e0, k0]
        case o10 =>
          intro a w1 Kx hG need old hsz fresh hKx
          have e0 : a.tmps[0]?.getD undef = .pointer (some ⟨p, 0, none⟩) := by rw [← Array.getD_eq_getD_getElem?]; exact old 0 (by kernel_rfl)
          refine op_value (v := .pointer (some ⟨p, 0, none⟩)) (wanted_of (j := 5) rfl (need 5 (by kernel_rfl) (by kernel_rfl))) ?_ (hKx _ w1 rfl hG (Below.refl _ _))
          simp [execOp, go_sem, e0]
        case o11 =>
          intro a w1 Kx hG need old hsz fresh hKx
          have e0 : a.tmps[12]?.getD undef = .pointer (some ⟨p, 0, none⟩) := by rw [← Array.getD_eq_getD_getElem?]; exact (need 10 (by kernel_rfl) (by kernel_rfl))
          refine op_value (v := .pointer (some ⟨p, 0, none⟩)) (wanted_of (j := 5) rfl (need 5 (by kernel_rfl) (by kernel_rfl))) ?_ (hKx _ w1 rfl hG (Below.refl _ _))
          simp [execOp, go_sem, e0]
        case o12 =>
          intro a w1 Kx hG need old hsz fresh hKx
          have e0 : a.tmps[13]?.getD undef = .pointer (some ⟨p, 0, none⟩) := by rw [← Array.getD_eq_getD_getElem?]; exact (need 11 (by kernel_rfl) (by kernel_rfl))
          refine op_value (v := .pointer (some ⟨p, 10, none⟩)) (wanted_of (j := 5) rfl (need 5 (by kernel_rfl) (by kernel_rfl))) ?_ (hKx _ w1 rfl hG (Below.refl _ _))
          simp [execOp, go_sem, e0]
        case o13 =>
          intro a w1 Kx hG need old hsz fresh hKx
          have e0 : a.tmps[14]?.getD undef = .pointer (some ⟨p, 10, none⟩) := by rw [← Array.getD_eq_getD_getElem?]; exact (need 12 (by kernel_rfl) (by kernel_rfl))
          have k0 := (hG.cell (p := ⟨p, 10, none⟩) HP.out.lt).trans HP.out.c10
          refine op_value (v := .int .i64 Q.op) (wanted_of (j := 5) rfl (need 5 (by kernel_rfl) (by kernel_rfl))) ?_ (hKx _ w1 rfl hG (Below.refl _ _))
          simp [execOp, go_sem, e0, k0]
        case o14 =>
          intro a w1 Kx hG need old hsz fresh hKx
          have e0 : a.tmps[11]?.getD undef = .pointer (some ⟨c, 0, none⟩) := by rw [← Array.getD_eq_getD_getElem?]; exact (need 9 (by kernel_rfl) (by kernel_rfl))
          have e1 : a.tmps[15]?.getD undef = .int .i64 Q.op := by rw [← Array.getD_eq_getD_getElem?]; exact (need 13 (by kernel_rfl) (by kernel_rfl))
          refine op_call (wanted_of (j := 5) rfl (need 5 (by kernel_rfl) (by kernel_rfl))) (f := 48) (args := #[.pointer (some ⟨c, 0, none⟩), .int .i64 Q.op]) ?run ((held_block Q.op (HP.out.chip.below hG)).mono ?post)
          case run => simp [go_sem, e0, e1]
          case post =>
            rintro e w2 ⟨pv, rfl, ⟨A9, c9, rfl, _⟩, hb2⟩
            exact ⟨_, rfl, hKx _ w2 ⟨A9, c9, rfl, ⟨trivial⟩⟩ (hG.trans (hb2.mono hG.size)) hb2⟩
        case o15 =>
          intro a w1 Kx hG need old hsz fresh hKx
          have e0 : a.tmps[0]?.getD undef = .pointer (some ⟨p, 0, none⟩) := by rw [← Array.getD_eq_getD_getElem?]; exact old 0 (by kernel_rfl)
          refine op_value (v := .pointer (some ⟨p, 0, none⟩)) (wanted_of (j := 5) rfl (need 5 (by kernel_rfl) (by kernel_rfl))) ?_ (hKx _ w1 rfl hG (Below.refl _ _))
          simp [execOp, go_sem, e0]
        case o16 =>
          intro a w1 Kx hG need old hsz fresh hKx
          have e0 : a.tmps[17]?.getD undef = .pointer (some ⟨p, 0, none⟩) := by rw [← Array.getD_eq_getD_getElem?]; exact (need 15 (by kernel_rfl) (by kernel_rfl))
          refine op_value (v := .pointer (some ⟨p, 0, none⟩)) (wanted_of (j := 5) rfl (need 5 (by kernel_rfl) (by kernel_rfl))) ?_ (hKx _ w1 rfl hG (Below.refl _ _))
          simp [execOp, go_sem, e0]
        case o17 =>
          intro a w1 Kx hG need old hsz fresh hKx
          have e0 : a.tmps[18]?.getD undef = .pointer (some ⟨p, 0, none⟩) := by rw [← Array.getD_eq_getD_getElem?]; exact (need 16 (by kernel_rfl) (by kernel_rfl))
          refine op_value (v := .pointer (some ⟨p, 1, none⟩)) (wanted_of (j := 5) rfl (need 5 (by kernel_rfl) (by kernel_rfl))) ?_ (hKx _ w1 rfl hG (Below.refl _ _))
          simp [execOp, go_sem, e0]
        case o18 =>
          intro a w1 Kx hG need old hsz fresh hKx
          have e0 : a.tmps[19]?.getD undef = .pointer (some ⟨p, 1, none⟩) := by rw [← Array.getD_eq_getD_getElem?]; exact (need 17 (by kernel_rfl) (by kernel_rfl))
          refine op_value (v := .pointer (some ⟨p, 2, none⟩)) (wanted_of (j := 5) rfl (need 5 (by kernel_rfl) (by kernel_rfl))) ?_ (hKx _ w1 rfl hG (Below.refl _ _))
          simp [execOp, go_sem, e0]
        case o19 =>
          intro a w1 Kx hG need old hsz fresh hKx
          have e0 : a.tmps[20]?.getD undef = .pointer (some ⟨p, 2, none⟩) := by rw [← Array.getD_eq_getD_getElem?]; exact (need 18 (by kernel_rfl) (by kernel_rfl))
          have k0 := (hG.cell (p := ⟨p, 2, none⟩) HP.out.lt).trans HP.out.c2
          refine op_value (v := .int .i64 Q.P) (wanted_of (j := 5) rfl (need 5 (by kernel_rfl) (by kernel_rfl))) ?_ (hKx _ w1 rfl hG (Below.refl _ _))
          simp [execOp, go_sem, e0, k0]
        case o20 =>
          intro a w1 Kx hG need old hsz fresh hKx
          obtain ⟨A9, c9, qe0, he0⟩ := need 14 (by kernel_rfl) (by kernel_rfl)
          have e0 : a.tmps[16]?.getD undef = .agg #[.bool (tellB Q.S Q.op).bad, .int .i64 (tellB Q.S Q.op).next, .int .i64 (tellB Q.S Q.op).count, .slice A9 (tellB Q.S Q.op).pages.length c9] := by rw [← Array.getD_eq_getD_getElem?]; exact qe0
          have e1 : a.tmps[21]?.getD undef = .int .i64 Q.P := by rw [← Array.getD_eq_getD_getElem?]; exact (need 19 (by kernel_rfl) (by kernel_rfl))
          refine op_call (wanted_of (j := 5) rfl (need 5 (by kernel_rfl) (by kernel_rfl))) (f := 161) (args := #[.agg #[.bool (tellB Q.S Q.op).bad, .int .i64 (tellB Q.S Q.op).next, .int .i64 (tellB Q.S Q.op).count, .slice A9 (tellB Q.S Q.op).pages.length c9], .int .i64 Q.P]) ?run ((left_any (tellB Q.S Q.op) A9 _ c9 Q.P w1 HNX.out HPW.out).mono ?post)
          case run => simp [go_sem, e0, e1]
          case post =>
            rintro e w2 ⟨rfl, hb2⟩
            exact ⟨_, rfl, hKx _ w2 rfl (hG.trans (hb2.mono hG.size)) hb2⟩
        case o21 =>
          intro a w1 Kx hG need old hsz fresh hKx
          have e0 : a.tmps[22]?.getD undef = .int .i64 (leftB (tellB Q.S Q.op) Q.P) := by rw [← Array.getD_eq_getD_getElem?]; exact (need 20 (by kernel_rfl) (by kernel_rfl))
          refine op_value (v := .bool false) (wanted_of (j := 5) rfl (need 5 (by kernel_rfl) (by kernel_rfl))) ?_ (hKx _ w1 rfl hG (Below.refl _ _))
          simp [execOp, go_sem, e0, HLF.out]
        case o22 =>
          intro a w1 Kx hG need old hsz fresh hKx
          have e0 : a.tmps[7]?.getD undef = .bool true := by rw [← Array.getD_eq_getD_getElem?]; exact (need 5 (by kernel_rfl) (by kernel_rfl))
          have e1 : a.tmps[23]?.getD undef = .bool false := by rw [← Array.getD_eq_getD_getElem?]; exact (need 21 (by kernel_rfl) (by kernel_rfl))
          refine op_value (v := .bool false) (wanted_none rfl) ?_ (hKx _ w1 rfl hG (Below.refl _ _))
          simp [execOp, go_sem, asBool, e0, e1]
      case hend =>
        intro a w6 hG hde hsz hφ hold
        obtain ⟨A9_14, c9_14, hv_14, hp_14⟩ := hφ 14 (by kernel_rfl)
        obtain rfl := act_puts [(2, .pointer (some ⟨p, 0, none⟩)), (3, .pointer (some ⟨p, 0, none⟩)), (4, .pointer (some ⟨p, 10, none⟩)), (5, .int .i64 Q.op), (6, .bool true), (7, .bool true), (8, .pointer (some ⟨p, 0, none⟩)), (9, .pointer (some ⟨p, 0, none⟩)), (10, .pointer (some ⟨p, 0, none⟩)), (11, .pointer (some ⟨c, 0, none⟩)), (12, .pointer (some ⟨p, 0, none⟩)), (13, .pointer (some ⟨p, 0, none⟩)), (14, .pointer (some ⟨p, 10, none⟩)), (15, .int .i64 Q.op), (16, .agg #[.bool (tellB Q.S Q.op).bad, .int .i64 (tellB Q.S Q.op).next, .int .i64 (tellB Q.S Q.op).count, .slice A9_14 (tellB Q.S Q.op).pages.length c9_14]), (17, .pointer (some ⟨p, 0, none⟩)), (18, .pointer (some ⟨p, 0, none⟩)), (19, .pointer (some ⟨p, 1, none⟩)), (20, .pointer (some ⟨p, 2, none⟩)), (21, .int .i64 Q.P), (22, .int .i64 (leftB (tellB Q.S Q.op) Q.P)), (23, .bool false), (24, .bool false)] [2, 3, 4, 5, 6, 7, 8, 9, 10, 11, 12, 13, 14, 15, 16, 17, 18, 19, 20, 21, 22, 23, 24] rfl (by kernel_rfl) (by kernel_rfl) hde hsz (List.forall_mem_cons.2 ⟨(show a.tmps.getD 2 undef = .pointer (some ⟨p, 0, none⟩) from (hφ 0 (by kernel_rfl))), (List.forall_mem_cons.2 ⟨(show a.tmps.getD 3 undef = .pointer (some ⟨p, 0, none⟩) from (hφ 1 (by kernel_rfl))), (List.forall_mem_cons.2 ⟨(show a.tmps.getD 4 undef = .pointer (some ⟨p, 10, none⟩) from (hφ 2 (by kernel_rfl))), (List.forall_mem_cons.2 ⟨(show a.tmps.getD 5 undef = .int .i64 Q.op from (hφ 3 (by kernel_rfl))), (List.forall_mem_cons.2 ⟨(show a.tmps.getD 6 undef = .bool true from (hφ 4 (by kernel_rfl))), (List.forall_mem_cons.2 ⟨(show a.tmps.getD 7 undef = .bool true from (hφ 5 (by kernel_rfl))), (List.forall_mem_cons.2 ⟨(show a.tmps.getD 8 undef = .pointer (some ⟨p, 0, none⟩) from (hφ 6 (by kernel_rfl))), (List.forall_mem_cons.2 ⟨(show a.tmps.getD 9 undef = .pointer (some ⟨p, 0, none⟩) from (hφ 7 (by kernel_rfl))), (List.forall_mem_cons.2 ⟨(show a.tmps.getD 10 undef = .pointer (some ⟨p, 0, none⟩) from (hφ 8 (by kernel_rfl))), (List.forall_mem_cons.2 ⟨(show a.tmps.getD 11 undef = .pointer (some ⟨c, 0, none⟩) from (hφ 9 (by kernel_rfl))), (List.forall_mem_cons.2 ⟨(show a.tmps.getD 12 undef = .pointer (some ⟨p, 0, none⟩) from (hφ 10 (by kernel_rfl))), (List.forall_mem_cons.2 ⟨(show a.tmps.getD 13 undef = .pointer (some ⟨p, 0, none⟩) from (hφ 11 (by kernel_rfl))), (List.forall_mem_cons.2 ⟨(show a.tmps.getD 14 undef = .pointer (some ⟨p, 10, none⟩) from (hφ 12 (by kernel_rfl))), (List.forall_mem_cons.2 ⟨(show a.tmps.getD 15 undef = .int .i64 Q.op from (hφ 13 (by kernel_rfl))), (List.forall_mem_cons.2 ⟨(show a.tmps.getD 16 undef = .agg #[.bool (tellB Q.S Q.op).bad, .int .i64 (tellB Q.S Q.op).next, .int .i64 (tellB Q.S Q.op).count, .slice A9_14 (tellB Q.S Q.op).pages.length c9_14] from hv_14), (List.forall_mem_cons.2 ⟨(show a.tmps.getD 17 undef = .pointer (some ⟨p, 0, none⟩) from (hφ 15 (by kernel_rfl))), (List.forall_mem_cons.2 ⟨(show a.tmps.getD 18 undef = .pointer (some ⟨p, 0, none⟩) from (hφ 16 (by kernel_rfl))), (List.forall_mem_cons.2 ⟨(show a.tmps.getD 19 undef = .pointer (some ⟨p, 1, none⟩) from (hφ 17 (by kernel_rfl))), (List.forall_mem_cons.2 ⟨(show a.tmps.getD 20 undef = .pointer (some ⟨p, 2, none⟩) from (hφ 18 (by kernel_rfl))), (List.forall_mem_cons.2 ⟨(show a.tmps.getD 21 undef = .int .i64 Q.P from (hφ 19 (by kernel_rfl))), (List.forall_mem_cons.2 ⟨(show a.tmps.getD 22 undef = .int .i64 (leftB (tellB Q.S Q.op) Q.P) from (hφ 20 (by kernel_rfl))), (List.forall_mem_cons.2 ⟨(show a.tmps.getD 23 undef = .bool false from (hφ 21 (by kernel_rfl))), (List.forall_mem_cons.2 ⟨(show a.tmps.getD 24 undef = .bool false from (hφ 22 (by kernel_rfl))), (fun _ h => absurd h (by simp))⟩)⟩)⟩)⟩)⟩)⟩)⟩)⟩)⟩)⟩)⟩)⟩)⟩)⟩)⟩)⟩)⟩)⟩)⟩)⟩)⟩)⟩)⟩) hold
        clear hφ hold hsz hde hv_14
        simp only [putAll]
        go_frame
        go_wp2_with fail
        go_end0
        rw [HE.out]
        exact ⟨rfl, HQ.out.below hG, safe_of_below hG⟩
theorem Ok.beginLoop {n : Nat} : ∀ (k : Nat) (Q : PS) {er : Int} {Q' : PS}, Ok Q → PS.beginLoop n k Q = some (er, Q') → Ok Q' := by
  intro k
  induction k with
  | zero => intro Q er Q' h hm; cases hm
  | succ k ih =>
    intro Q er Q' h hm
    unfold PS.beginLoop at hm
    split at hm
    · cases hm; exact h
    · split at hm
      · split at hm
        · next h1 => cases hm; exact h.setop h1
        · cases hm
      · split at hm
        · cases hm
        · next h1 =>
          split at hm
          · exact ih _ (h.empty h1) hm
          · cases hm; exact h.empty h1
theorem Ok.begin {n : Nat} {er : Int} {Q' : PS} (h : Ok Q) (hm : Q.begin n = some (er, Q')) : Ok Q' := Ok.beginLoop n _ h.shut hm
end
end Go.Proofs.YtnadcdgpfopcaaaGreat
