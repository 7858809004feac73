/- A pool: held, Bads, Over (drawn regions written by pool1.py). -/
import Derived.Test.YtnadcdgpfopcaaaGreatPoC0
namespace Go.Proofs.YtnadcdgpfopcaaaGreat
open Go.RowKit

section
variable {w w' : World} {p c l f : Nat} {x : Nat → Prop} {Q : PS}
set_option maxRecDepth 100000 in
set_option maxHeartbeats 1000000 in
theorem q_held (i : Int) (h : Parts w p c l f Q) (ok : Ok Q) (hi : (Lit.int .i64 i).wf = true) : Calls Tryz.prog 164 #[.pointer (some ⟨p, 0, none⟩), .int .i64 i] w fun e w' => e = .returned (.int .i64 (Q.held i : Int)) ∧ Below w.heap.size w w' := by
  have HP := Lib.hid h
  have HI := Lib.hid hi
  have HL : Hid (Q.L.length ≤ 1000 ∧ Q.F.length ≤ 1000) := Lib.hid (by have := ok.tabs; omega)
  have HW : Hid (IntKind.i64.wrap ((liveT Q.L i : Int) + (liveT Q.F i : Int)) = (Q.held i : Int)) := Lib.hid (by
    have h1 : liveT Q.L i ≤ Q.L.length := List.countP_le_length
    have h2 : liveT Q.F i ≤ Q.F.length := List.countP_le_length
    have h3 := ok.tabs
    rw [show IntKind.i64.wrap ((liveT Q.L i : Int) + (liveT Q.F i : Int)) = (liveT Q.L i : Int) + (liveT Q.F i : Int) from i64w_id _ (by omega)]
    unfold PS.held; omega)
  clear h ok hi
  go_enter Tryz.func164, Tryz.ntmps164
  go_upto_region 1 with fail
  refine region_st (fun j v w' => match j with | 0 => v = .pointer (some ⟨p, 0, none⟩) | 1 => v = .pointer (some ⟨p, 0, none⟩) | 2 => v = .pointer (some ⟨p, 7, none⟩) | 3 => v = .pointer (some ⟨l, 0, none⟩) | 4 => v = .int .i64 i | 5 => v = .int .i64 (liveT Q.L i : Int) | 6 => v = .pointer (some ⟨p, 0, none⟩) | 7 => v = .pointer (some ⟨p, 0, none⟩) | 8 => v = .pointer (some ⟨p, 8, none⟩) | 9 => v = .pointer (some ⟨f, 0, none⟩) | 10 => v = .int .i64 i | 11 => v = .int .i64 (liveT Q.F i : Int) | 12 => v = .int .i64 (Q.held i : Int) | 13 => v = .int .i64 (Q.held i : Int) | _ => True) (fun _ w' => Below w.heap.size w w') (fun w1 w2 => Below w1.heap.size w1 w2) (by kernel_rfl) (by kernel_rfl) (by kernel_rfl) ?hR ?hG ?hops ?hend
  case hR =>
    intro j v w1 w2 hv hb
    match j, hv with
    | 0, hv => exact hv
    | 1, hv => exact hv
    | 2, hv => exact hv
    | 3, hv => exact hv
    | 4, hv => exact hv
    | 5, hv => exact hv
    | 6, hv => exact hv
    | 7, hv => exact hv
    | 8, hv => exact hv
    | 9, hv => exact hv
    | 10, hv => exact hv
    | 11, hv => exact hv
    | 12, hv => exact hv
    | 13, hv => exact hv
    | _ + 14, _ => exact trivial
  case hG => exact (Below.refl _ _).drew
  case hops =>
    refine OpsOkS.cons ?o0 (OpsOkS.cons ?o1 (OpsOkS.cons ?o2 (OpsOkS.cons ?o3 (OpsOkS.cons ?o4 (OpsOkS.cons ?o5 (OpsOkS.cons ?o6 (OpsOkS.cons ?o7 (OpsOkS.cons ?o8 (OpsOkS.cons ?o9 (OpsOkS.cons ?o10 (OpsOkS.cons ?o11 (OpsOkS.cons ?o12 (OpsOkS.cons ?o13 OpsOkS.nil)))))))))))))
    case o0 =>
      intro a w1 Kx hG need old hsz fresh hKx
      have e0 : a.tmps[0]?.getD undef = .pointer (some ⟨p, 0, none⟩) := by rw [← Array.getD_eq_getD_getElem?]; exact old 0 (by kernel_rfl)
      refine op_value (v := .pointer (some ⟨p, 0, none⟩)) (wanted_none rfl) ?_ (hKx _ w1 rfl hG (Below.refl _ _))
      simp [execOp, go_sem, e0]
    case o1 =>
      intro a w1 Kx hG need old hsz fresh hKx
      have e0 : a.tmps[5]?.getD undef = .pointer (some ⟨p, 0, none⟩) := by rw [← Array.getD_eq_getD_getElem?]; exact (need 0 (by kernel_rfl) (by kernel_rfl))
      refine op_value (v := .pointer (some ⟨p, 0, none⟩)) (wanted_none rfl) ?_ (hKx _ w1 rfl hG (Below.refl _ _))
      simp [execOp, go_sem, e0]
    case o2 =>
      intro a w1 Kx hG need old hsz fresh hKx
      have e0 : a.tmps[6]?.getD undef = .pointer (some ⟨p, 0, none⟩) := by rw [← Array.getD_eq_getD_getElem?]; exact (need 1 (by kernel_rfl) (by kernel_rfl))
      refine op_value (v := .pointer (some ⟨p, 7, none⟩)) (wanted_none rfl) ?_ (hKx _ w1 rfl hG (Below.refl _ _))
      simp [execOp, go_sem, e0]
    case o3 =>
      intro a w1 Kx hG need old hsz fresh hKx
      have e0 : a.tmps[7]?.getD undef = .pointer (some ⟨p, 7, none⟩) := by rw [← Array.getD_eq_getD_getElem?]; exact (need 2 (by kernel_rfl) (by kernel_rfl))
      have k0 := (hG.cell (p := ⟨p, 7, none⟩) HP.out.lt).trans HP.out.c7
      refine op_value (v := .pointer (some ⟨l, 0, none⟩)) (wanted_none rfl) ?_ (hKx _ w1 rfl hG (Below.refl _ _))
      simp [execOp, go_sem, e0, k0]
    case o4 =>
      intro a w1 Kx hG need old hsz fresh hKx
      have e0 : a.tmps[1]?.getD undef = .int .i64 i := by rw [← Array.getD_eq_getD_getElem?]; exact old 1 (by kernel_rfl)
      refine op_value (v := .int .i64 i) (wanted_none rfl) ?_ (hKx _ w1 rfl hG (Below.refl _ _))
      simp [execOp, go_sem, e0]
    case o5 =>
      intro a w1 Kx hG need old hsz fresh hKx
      have e0 : a.tmps[8]?.getD undef = .pointer (some ⟨l, 0, none⟩) := by rw [← Array.getD_eq_getD_getElem?]; exact (need 3 (by kernel_rfl) (by kernel_rfl))
      have e1 : a.tmps[9]?.getD undef = .int .i64 i := by rw [← Array.getD_eq_getD_getElem?]; exact (need 4 (by kernel_rfl) (by kernel_rfl))
      refine op_call (wanted_none rfl) (f := 180) (args := #[.pointer (some ⟨l, 0, none⟩), .int .i64 i]) ?run ((liveT_any i (HP.out.live.below hG) HL.out.1 HI.out).mono ?post)
      case run => simp [go_sem, e0, e1]
      case post =>
        rintro e w2 ⟨rfl, hb2⟩
        exact ⟨_, rfl, hKx _ w2 rfl (hG.trans (hb2.mono hG.size)) hb2⟩
    case o6 =>
      intro a w1 Kx hG need old hsz fresh hKx
      have e0 : a.tmps[0]?.getD undef = .pointer (some ⟨p, 0, none⟩) := by rw [← Array.getD_eq_getD_getElem?]; exact old 0 (by kernel_rfl)
      refine op_value (v := .pointer (some ⟨p, 0, none⟩)) (wanted_none rfl) ?_ (hKx _ w1 rfl hG (Below.refl _ _))
      simp [execOp, go_sem, e0]
    case o7 =>
      intro a w1 Kx hG need old hsz fresh hKx
      have e0 : a.tmps[11]?.getD undef = .pointer (some ⟨p, 0, none⟩) := by rw [← Array.getD_eq_getD_getElem?]; exact (need 6 (by kernel_rfl) (by kernel_rfl))
      refine op_value (v := .pointer (some ⟨p, 0, none⟩)) (wanted_none rfl) ?_ (hKx _ w1 rfl hG (Below.refl _ _))
      simp [execOp, go_sem, e0]
    case o8 =>
      intro a w1 Kx hG need old hsz fresh hKx
      have e0 : a.tmps[12]?.getD undef = .pointer (some ⟨p, 0, none⟩) := by rw [← Array.getD_eq_getD_getElem?]; exact (need 7 (by kernel_rfl) (by kernel_rfl))
      refine op_value (v := .pointer (some ⟨p, 8, none⟩)) (wanted_none rfl) ?_ (hKx _ w1 rfl hG (Below.refl _ _))
      simp [execOp, go_sem, e0]
    case o9 =>
      intro a w1 Kx hG need old hsz fresh hKx
      have e0 : a.tmps[13]?.getD undef = .pointer (some ⟨p, 8, none⟩) := by rw [← Array.getD_eq_getD_getElem?]; exact (need 8 (by kernel_rfl) (by kernel_rfl))
      have k0 := (hG.cell (p := ⟨p, 8, none⟩) HP.out.lt).trans HP.out.c8
      refine op_value (v := .pointer (some ⟨f, 0, none⟩)) (wanted_none rfl) ?_ (hKx _ w1 rfl hG (Below.refl _ _))
      simp [execOp, go_sem, e0, k0]
    case o10 =>
      intro a w1 Kx hG need old hsz fresh hKx
      have e0 : a.tmps[1]?.getD undef = .int .i64 i := by rw [← Array.getD_eq_getD_getElem?]; exact old 1 (by kernel_rfl)
      refine op_value (v := .int .i64 i) (wanted_none rfl) ?_ (hKx _ w1 rfl hG (Below.refl _ _))
      simp [execOp, go_sem, e0]
    case o11 =>
      intro a w1 Kx hG need old hsz fresh hKx
      have e0 : a.tmps[14]?.getD undef = .pointer (some ⟨f, 0, none⟩) := by rw [← Array.getD_eq_getD_getElem?]; exact (need 9 (by kernel_rfl) (by kernel_rfl))
      have e1 : a.tmps[15]?.getD undef = .int .i64 i := by rw [← Array.getD_eq_getD_getElem?]; exact (need 10 (by kernel_rfl) (by kernel_rfl))
      refine op_call (wanted_none rfl) (f := 180) (args := #[.pointer (some ⟨f, 0, none⟩), .int .i64 i]) ?run ((liveT_any i (HP.out.fresh.below hG) HL.out.2 HI.out).mono ?post)
      case run => simp [go_sem, e0, e1]
      case post =>
        rintro e w2 ⟨rfl, hb2⟩
        exact ⟨_, rfl, hKx _ w2 rfl (hG.trans (hb2.mono hG.size)) hb2⟩
    case o12 =>
      intro a w1 Kx hG need old hsz fresh hKx
      have e0 : a.tmps[10]?.getD undef = .int .i64 (liveT Q.L i : Int) := by rw [← Array.getD_eq_getD_getElem?]; exact (need 5 (by kernel_rfl) (by kernel_rfl))
      have e1 : a.tmps[16]?.getD undef = .int .i64 (liveT Q.F i : Int) := by rw [← Array.getD_eq_getD_getElem?]; exact (need 11 (by kernel_rfl) (by kernel_rfl))
      refine op_value (v := .int .i64 (Q.held i : Int)) (wanted_none rfl) ?_ (hKx _ w1 rfl hG (Below.refl _ _))
      simp [execOp, go_sem, e0, e1, HW.out]
    case o13 =>
      intro a w1 Kx hG need old hsz fresh hKx
      have e0 : a.tmps[17]?.getD undef = .int .i64 (Q.held i : Int) := by rw [← Array.getD_eq_getD_getElem?]; exact (need 12 (by kernel_rfl) (by kernel_rfl))
      refine op_value (v := .int .i64 (Q.held i : Int)) (wanted_none rfl) ?_ (hKx _ w1 rfl hG (Below.refl _ _))
      simp [execOp, go_sem, e0]
  case hend =>
    intro a w6 hG hde hsz hφ hold
    obtain rfl := act_puts [(5, .pointer (some ⟨p, 0, none⟩)), (6, .pointer (some ⟨p, 0, none⟩)), (7, .pointer (some ⟨p, 7, none⟩)), (8, .pointer (some ⟨l, 0, none⟩)), (9, .int .i64 i), (10, .int .i64 (liveT Q.L i : Int)), (11, .pointer (some ⟨p, 0, none⟩)), (12, .pointer (some ⟨p, 0, none⟩)), (13, .pointer (some ⟨p, 8, none⟩)), (14, .pointer (some ⟨f, 0, none⟩)), (15, .int .i64 i), (16, .int .i64 (liveT Q.F i : Int)), (17, .int .i64 (Q.held i : Int)), (4, .int .i64 (Q.held i : Int))] [5, 6, 7, 8, 9, 10, 11, 12, 13, 14, 15, 16, 17, 4] rfl (by kernel_rfl) (by kernel_rfl) hde hsz (List.forall_mem_cons.2 ⟨(show a.tmps.getD 5 undef = .pointer (some ⟨p, 0, none⟩) from (hφ 0 (by kernel_rfl))), (List.forall_mem_cons.2 ⟨(show a.tmps.getD 6 undef = .pointer (some ⟨p, 0, none⟩) from (hφ 1 (by kernel_rfl))), (List.forall_mem_cons.2 ⟨(show a.tmps.getD 7 undef = .pointer (some ⟨p, 7, none⟩) from (hφ 2 (by kernel_rfl))), (List.forall_mem_cons.2 ⟨(show a.tmps.getD 8 undef = .pointer (some ⟨l, 0, none⟩) from (hφ 3 (by kernel_rfl))), (List.forall_mem_cons.2 ⟨(show a.tmps.getD 9 undef = .int .i64 i from (hφ 4 (by kernel_rfl))), (List.forall_mem_cons.2 ⟨(show a.tmps.getD 10 undef = .int .i64 (liveT Q.L i : Int) from (hφ 5 (by kernel_rfl))), (List.forall_mem_cons.2 ⟨(show a.tmps.getD 11 undef = .pointer (some ⟨p, 0, none⟩) from (hφ 6 (by kernel_rfl))), (List.forall_mem_cons.2 ⟨(show a.tmps.getD 12 undef = .pointer (some ⟨p, 0, none⟩) from (hφ 7 (by kernel_rfl))), (List.forall_mem_cons.2 ⟨(show a.tmps.getD 13 undef = .pointer (some ⟨p, 8, none⟩) from (hφ 8 (by kernel_rfl))), (List.forall_mem_cons.2 ⟨(show a.tmps.getD 14 undef = .pointer (some ⟨f, 0, none⟩) from (hφ 9 (by kernel_rfl))), (List.forall_mem_cons.2 ⟨(show a.tmps.getD 15 undef = .int .i64 i from (hφ 10 (by kernel_rfl))), (List.forall_mem_cons.2 ⟨(show a.tmps.getD 16 undef = .int .i64 (liveT Q.F i : Int) from (hφ 11 (by kernel_rfl))), (List.forall_mem_cons.2 ⟨(show a.tmps.getD 17 undef = .int .i64 (Q.held i : Int) from (hφ 12 (by kernel_rfl))), (List.forall_mem_cons.2 ⟨(show a.tmps.getD 4 undef = .int .i64 (Q.held i : Int) from (hφ 13 (by kernel_rfl))), (fun _ h => absurd h (by simp))⟩)⟩)⟩)⟩)⟩)⟩)⟩)⟩)⟩)⟩)⟩)⟩)⟩)⟩) hold
    clear hφ hold hsz hde
    simp only [putAll]
    go_frame
    go_wp2_with fail
    go_ret
    exact ⟨rfl, hG⟩
set_option maxRecDepth 100000 in
set_option maxHeartbeats 1000000 in
theorem q_bads (h : Parts w p c l f Q) (ok : Ok Q) : Calls Tryz.prog 32 #[.pointer (some ⟨p, 0, none⟩)] w fun e w' => e = .returned (.int .i64 Q.bads) ∧ Below w.heap.size w w' := by
  have HP := Lib.hid h
  have HL : Hid (Q.S.bl.length ≤ 1000) := Lib.hid (by have := ok.lenN; omega)
  have HB1 : Hid (1 ≤ Q.S.bl.length) := Lib.hid (by have := ok.lenN; omega)
  have HW : Hid (IntKind.i64.wrap ((badB Q.S.bl : Int) - Q.bad) = Q.bads) := Lib.hid (by
    have h3 := ok.bads
    exact i64w_id _ (by unfold PS.bads at h3; omega))
  clear h ok
  go_enter Tryz.func32, Tryz.ntmps32
  go_upto_region 3 with (go_at_call 52; refine (q_is HP.out).mono ?_; rintro e w1 ⟨rfl, rfl⟩)
  refine region_st (fun j v w' => match j with | 0 => v = .pointer (some ⟨p, 0, none⟩) | 1 => v = .pointer (some ⟨p, 0, none⟩) | 2 => v = .pointer (some ⟨p, 0, none⟩) | 3 => v = .pointer (some ⟨c, 0, none⟩) | 4 => ∃ g cap, v = .slice (some ⟨g, 0, none⟩) Q.S.bl.length cap ∧ BLies w' (some ⟨g, 0, none⟩) Q.S.bl | 5 => v = .int .i64 (badB Q.S.bl : Int) | 6 => v = .pointer (some ⟨p, 0, none⟩) | 7 => v = .pointer (some ⟨p, 0, none⟩) | 8 => v = .pointer (some ⟨p, 6, none⟩) | 9 => v = .int .i64 Q.bad | 10 => v = .int .i64 Q.bads | 11 => v = .int .i64 Q.bads | _ => True) (fun _ w' => Below w.heap.size w w') (fun w1 w2 => Below w1.heap.size w1 w2) (by kernel_rfl) (by kernel_rfl) (by kernel_rfl) ?hR ?hG ?hops ?hend
  case hR =>
    intro j v w1 w2 hv hb
    match j, hv with
    | 0, hv => exact hv
    | 1, hv => exact hv
    | 2, hv => exact hv
    | 3, hv => exact hv
    | 4, ⟨g, cap, e, h⟩ => exact ⟨g, cap, e, h.below hb⟩
    | 5, hv => exact hv
    | 6, hv => exact hv
    | 7, hv => exact hv
    | 8, hv => exact hv
    | 9, hv => exact hv
    | 10, hv => exact hv
    | 11, hv => exact hv
    | _ + 12, _ => exact trivial
  case hG => exact (Below.refl _ _).drew
  case hops =>
    refine OpsOkS.cons ?o0 (OpsOkS.cons ?o1 (OpsOkS.cons ?o2 (OpsOkS.cons ?o3 (OpsOkS.cons ?o4 (OpsOkS.cons ?o5 (OpsOkS.cons ?o6 (OpsOkS.cons ?o7 (OpsOkS.cons ?o8 (OpsOkS.cons ?o9 (OpsOkS.cons ?o10 (OpsOkS.cons ?o11 OpsOkS.nil)))))))))))
    case o0 =>
      intro a w1 Kx hG need old hsz fresh hKx
      have e0 : a.tmps[0]?.getD undef = .pointer (some ⟨p, 0, none⟩) := by rw [← Array.getD_eq_getD_getElem?]; exact old 0 (by kernel_rfl)
      refine op_value (v := .pointer (some ⟨p, 0, none⟩)) (wanted_none rfl) ?_ (hKx _ w1 rfl hG (Below.refl _ _))
      simp [execOp, go_sem, e0]
    case o1 =>
      intro a w1 Kx hG need old hsz fresh hKx
      have e0 : a.tmps[6]?.getD undef = .pointer (some ⟨p, 0, none⟩) := by rw [← Array.getD_eq_getD_getElem?]; exact (need 0 (by kernel_rfl) (by kernel_rfl))
      refine op_value (v := .pointer (some ⟨p, 0, none⟩)) (wanted_none rfl) ?_ (hKx _ w1 rfl hG (Below.refl _ _))
      simp [execOp, go_sem, e0]
    case o2 =>
      intro a w1 Kx hG need old hsz fresh hKx
      have e0 : a.tmps[7]?.getD undef = .pointer (some ⟨p, 0, none⟩) := by rw [← Array.getD_eq_getD_getElem?]; exact (need 1 (by kernel_rfl) (by kernel_rfl))
      refine op_value (v := .pointer (some ⟨p, 0, none⟩)) (wanted_none rfl) ?_ (hKx _ w1 rfl hG (Below.refl _ _))
      simp [execOp, go_sem, e0]
    case o3 =>
      intro a w1 Kx hG need old hsz fresh hKx
      have e0 : a.tmps[8]?.getD undef = .pointer (some ⟨p, 0, none⟩) := by rw [← Array.getD_eq_getD_getElem?]; exact (need 2 (by kernel_rfl) (by kernel_rfl))
      have k0 := (hG.cell (p := ⟨p, 0, none⟩) HP.out.lt).trans HP.out.c0
      refine op_value (v := .pointer (some ⟨c, 0, none⟩)) (wanted_none rfl) ?_ (hKx _ w1 rfl hG (Below.refl _ _))
      simp [execOp, go_sem, e0, k0]
    case o4 =>
      intro a w1 Kx hG need old hsz fresh hKx
      have e0 : a.tmps[9]?.getD undef = .pointer (some ⟨c, 0, none⟩) := by rw [← Array.getD_eq_getD_getElem?]; exact (need 3 (by kernel_rfl) (by kernel_rfl))
      refine op_call (wanted_none rfl) (f := 21) (args := #[.pointer (some ⟨c, 0, none⟩)]) ?run ((held_blocks (HP.out.chip.below hG) HB1.out).mono ?post)
      case run => simp [go_sem, e0]
      case post =>
        rintro e w2 ⟨g, cap, rfl, hl, hb2⟩
        exact ⟨_, rfl, hKx _ w2 ⟨g, cap, rfl, hl⟩ (hG.trans (hb2.mono hG.size)) hb2⟩
    case o5 =>
      intro a w1 Kx hG need old hsz fresh hKx
      obtain ⟨g, cap, qe0, he0⟩ := need 4 (by kernel_rfl) (by kernel_rfl)
      have e0 : a.tmps[10]?.getD undef = .slice (some ⟨g, 0, none⟩) Q.S.bl.length cap := by rw [← Array.getD_eq_getD_getElem?]; exact qe0
      refine op_call (wanted_none rfl) (f := 36) (args := #[.slice (some ⟨g, 0, none⟩) Q.S.bl.length cap]) ?run ((bad_any (some ⟨g, 0, none⟩) cap Q.S.bl w1 HL.out he0).mono ?post)
      case run => simp [go_sem, e0]
      case post =>
        rintro e w2 ⟨rfl, hb2⟩
        exact ⟨_, rfl, hKx _ w2 rfl (hG.trans (hb2.mono hG.size)) hb2⟩
    case o6 =>
      intro a w1 Kx hG need old hsz fresh hKx
      have e0 : a.tmps[0]?.getD undef = .pointer (some ⟨p, 0, none⟩) := by rw [← Array.getD_eq_getD_getElem?]; exact old 0 (by kernel_rfl)
      refine op_value (v := .pointer (some ⟨p, 0, none⟩)) (wanted_none rfl) ?_ (hKx _ w1 rfl hG (Below.refl _ _))
      simp [execOp, go_sem, e0]
    case o7 =>
      intro a w1 Kx hG need old hsz fresh hKx
      have e0 : a.tmps[12]?.getD undef = .pointer (some ⟨p, 0, none⟩) := by rw [← Array.getD_eq_getD_getElem?]; exact (need 6 (by kernel_rfl) (by kernel_rfl))
      refine op_value (v := .pointer (some ⟨p, 0, none⟩)) (wanted_none rfl) ?_ (hKx _ w1 rfl hG (Below.refl _ _))
      simp [execOp, go_sem, e0]
    case o8 =>
      intro a w1 Kx hG need old hsz fresh hKx
      have e0 : a.tmps[13]?.getD undef = .pointer (some ⟨p, 0, none⟩) := by rw [← Array.getD_eq_getD_getElem?]; exact (need 7 (by kernel_rfl) (by kernel_rfl))
      refine op_value (v := .pointer (some ⟨p, 6, none⟩)) (wanted_none rfl) ?_ (hKx _ w1 rfl hG (Below.refl _ _))
      simp [execOp, go_sem, e0]
    case o9 =>
      intro a w1 Kx hG need old hsz fresh hKx
      have e0 : a.tmps[14]?.getD undef = .pointer (some ⟨p, 6, none⟩) := by rw [← Array.getD_eq_getD_getElem?]; exact (need 8 (by kernel_rfl) (by kernel_rfl))
      have k0 := (hG.cell (p := ⟨p, 6, none⟩) HP.out.lt).trans HP.out.c6
      refine op_value (v := .int .i64 Q.bad) (wanted_none rfl) ?_ (hKx _ w1 rfl hG (Below.refl _ _))
      simp [execOp, go_sem, e0, k0]
    case o10 =>
      intro a w1 Kx hG need old hsz fresh hKx
      have e0 : a.tmps[11]?.getD undef = .int .i64 (badB Q.S.bl : Int) := by rw [← Array.getD_eq_getD_getElem?]; exact (need 5 (by kernel_rfl) (by kernel_rfl))
      have e1 : a.tmps[15]?.getD undef = .int .i64 Q.bad := by rw [← Array.getD_eq_getD_getElem?]; exact (need 9 (by kernel_rfl) (by kernel_rfl))
      refine op_value (v := .int .i64 Q.bads) (wanted_none rfl) ?_ (hKx _ w1 rfl hG (Below.refl _ _))
      simp [execOp, go_sem, e0, e1, HW.out]
    case o11 =>
      intro a w1 Kx hG need old hsz fresh hKx
      have e0 : a.tmps[16]?.getD undef = .int .i64 Q.bads := by rw [← Array.getD_eq_getD_getElem?]; exact (need 10 (by kernel_rfl) (by kernel_rfl))
      refine op_value (v := .int .i64 Q.bads) (wanted_none rfl) ?_ (hKx _ w1 rfl hG (Below.refl _ _))
      simp [execOp, go_sem, e0]
  case hend =>
    intro a w6 hG hde hsz hφ hold
    obtain ⟨g_4, cap_4, hv_4, hp_4⟩ := hφ 4 (by kernel_rfl)
    obtain rfl := act_puts [(6, .pointer (some ⟨p, 0, none⟩)), (7, .pointer (some ⟨p, 0, none⟩)), (8, .pointer (some ⟨p, 0, none⟩)), (9, .pointer (some ⟨c, 0, none⟩)), (10, .slice (some ⟨g_4, 0, none⟩) Q.S.bl.length cap_4), (11, .int .i64 (badB Q.S.bl : Int)), (12, .pointer (some ⟨p, 0, none⟩)), (13, .pointer (some ⟨p, 0, none⟩)), (14, .pointer (some ⟨p, 6, none⟩)), (15, .int .i64 Q.bad), (16, .int .i64 Q.bads), (2, .int .i64 Q.bads)] [6, 7, 8, 9, 10, 11, 12, 13, 14, 15, 16, 2] rfl (by kernel_rfl) (by kernel_rfl) hde hsz (List.forall_mem_cons.2 ⟨(show a.tmps.getD 6 undef = .pointer (some ⟨p, 0, none⟩) from (hφ 0 (by kernel_rfl))), (List.forall_mem_cons.2 ⟨(show a.tmps.getD 7 undef = .pointer (some ⟨p, 0, none⟩) from (hφ 1 (by kernel_rfl))), (List.forall_mem_cons.2 ⟨(show a.tmps.getD 8 undef = .pointer (some ⟨p, 0, none⟩) from (hφ 2 (by kernel_rfl))), (List.forall_mem_cons.2 ⟨(show a.tmps.getD 9 undef = .pointer (some ⟨c, 0, none⟩) from (hφ 3 (by kernel_rfl))), (List.forall_mem_cons.2 ⟨(show a.tmps.getD 10 undef = .slice (some ⟨g_4, 0, none⟩) Q.S.bl.length cap_4 from hv_4), (List.forall_mem_cons.2 ⟨(show a.tmps.getD 11 undef = .int .i64 (badB Q.S.bl : Int) from (hφ 5 (by kernel_rfl))), (List.forall_mem_cons.2 ⟨(show a.tmps.getD 12 undef = .pointer (some ⟨p, 0, none⟩) from (hφ 6 (by kernel_rfl))), (List.forall_mem_cons.2 ⟨(show a.tmps.getD 13 undef = .pointer (some ⟨p, 0, none⟩) from (hφ 7 (by kernel_rfl))), (List.forall_mem_cons.2 ⟨(show a.tmps.getD 14 undef = .pointer (some ⟨p, 6, none⟩) from (hφ 8 (by kernel_rfl))), (List.forall_mem_cons.2 ⟨(show a.tmps.getD 15 undef = .int .i64 Q.bad from (hφ 9 (by kernel_rfl))), (List.forall_mem_cons.2 ⟨(show a.tmps.getD 16 undef = .int .i64 Q.bads from (hφ 10 (by kernel_rfl))), (List.forall_mem_cons.2 ⟨(show a.tmps.getD 2 undef = .int .i64 Q.bads from (hφ 11 (by kernel_rfl))), (fun _ h => absurd h (by simp))⟩)⟩)⟩)⟩)⟩)⟩)⟩)⟩)⟩)⟩)⟩)⟩) hold
    clear hφ hold hsz hde
    simp only [putAll]
    go_frame
    go_wp2_with fail
    go_ret
    exact ⟨rfl, hG⟩
set_option maxRecDepth 100000 in
set_option maxHeartbeats 1000000 in
theorem q_over (h : Parts w p c l f Q) (ok : Ok Q) : Calls Tryz.prog 33 #[.pointer (some ⟨p, 0, none⟩)] w fun e w' => e = .returned (.bool Q.over) ∧ Below w.heap.size w w' := by
  have HP := Lib.hid h
  have HO := Lib.hid ok
  clear h ok
  go_enter Tryz.func33, Tryz.ntmps33
  go_upto_region 1 with fail
  refine region_st (fun j v w' => match j with | 0 => v = .pointer (some ⟨p, 0, none⟩) | 1 => v = .bool true | 2 => v = .bool true | 3 => v = .pointer (some ⟨p, 0, none⟩) | 4 => v = .int .i64 Q.bads | 5 => v = .pointer (some ⟨p, 0, none⟩) | 6 => v = .pointer (some ⟨p, 0, none⟩) | 7 => v = .pointer (some ⟨p, 1, none⟩) | 8 => v = .pointer (some ⟨p, 3, none⟩) | 9 => v = .int .i64 Q.Sp | 10 => v = .bool Q.over | 11 => v = .bool Q.over | 12 => v = .bool Q.over | _ => True) (fun _ w' => Below w.heap.size w w') (fun w1 w2 => Below w1.heap.size w1 w2) (by kernel_rfl) (by kernel_rfl) (by kernel_rfl) ?hR ?hG ?hops ?hend
  case hR =>
    intro j v w1 w2 hv hb
    match j, hv with
    | 0, hv => exact hv
    | 1, hv => exact hv
    | 2, hv => exact hv
    | 3, hv => exact hv
    | 4, hv => exact hv
    | 5, hv => exact hv
    | 6, hv => exact hv
    | 7, hv => exact hv
    | 8, hv => exact hv
    | 9, hv => exact hv
    | 10, hv => exact hv
    | 11, hv => exact hv
    | 12, hv => exact hv
    | _ + 13, _ => exact trivial
  case hG => exact (Below.refl _ _).drew
  case hops =>
    refine OpsOkS.cons ?o0 (OpsOkS.cons ?o1 (OpsOkS.cons ?o2 (OpsOkS.cons ?o3 (OpsOkS.cons ?o4 (OpsOkS.cons ?o5 (OpsOkS.cons ?o6 (OpsOkS.cons ?o7 (OpsOkS.cons ?o8 (OpsOkS.cons ?o9 (OpsOkS.cons ?o10 (OpsOkS.cons ?o11 (OpsOkS.cons ?o12 OpsOkS.nil))))))))))))
    case o0 =>
      intro a w1 Kx hG need old hsz fresh hKx
      have e0 : a.tmps[0]?.getD undef = .pointer (some ⟨p, 0, none⟩) := by rw [← Array.getD_eq_getD_getElem?]; exact old 0 (by kernel_rfl)
      refine op_value (v := .pointer (some ⟨p, 0, none⟩)) (wanted_none rfl) ?_ (hKx _ w1 rfl hG (Below.refl _ _))
      simp [execOp, go_sem, e0]
    case o1 =>
      intro a w1 Kx hG need old hsz fresh hKx
      have e0 : a.tmps[3]?.getD undef = .pointer (some ⟨p, 0, none⟩) := by rw [← Array.getD_eq_getD_getElem?]; exact (need 0 (by kernel_rfl) (by kernel_rfl))
      refine op_call (wanted_none rfl) (f := 52) (args := #[.pointer (some ⟨p, 0, none⟩)]) ?run ((q_is (HP.out.below hG)).mono ?post)
      case run => simp [go_sem, e0]
      case post =>
        rintro e w2 ⟨rfl, hw2⟩
        have hb2 : Below w1.heap.size w1 w2 := by subst hw2; exact Below.refl _ _
        exact ⟨_, rfl, hKx _ w2 rfl (hG.trans (hb2.mono hG.size)) hb2⟩
    case o2 =>
      intro a w1 Kx hG need old hsz fresh hKx
      have e0 : a.tmps[4]?.getD undef = .bool true := by rw [← Array.getD_eq_getD_getElem?]; exact (need 1 (by kernel_rfl) (by kernel_rfl))
      refine op_value (v := .bool true) (wanted_none rfl) ?_ (hKx _ w1 rfl hG (Below.refl _ _))
      simp [execOp, go_sem, e0]
    case o3 =>
      intro a w1 Kx hG need old hsz fresh hKx
      have e0 : a.tmps[0]?.getD undef = .pointer (some ⟨p, 0, none⟩) := by rw [← Array.getD_eq_getD_getElem?]; exact old 0 (by kernel_rfl)
      refine op_value (v := .pointer (some ⟨p, 0, none⟩)) (wanted_of (j := 2) rfl (need 2 (by kernel_rfl) (by kernel_rfl))) ?_ (hKx _ w1 rfl hG (Below.refl _ _))
      simp [execOp, go_sem, e0]
    case o4 =>
      intro a w1 Kx hG need old hsz fresh hKx
      have e0 : a.tmps[6]?.getD undef = .pointer (some ⟨p, 0, none⟩) := by rw [← Array.getD_eq_getD_getElem?]; exact (need 3 (by kernel_rfl) (by kernel_rfl))
      refine op_call (wanted_of (j := 2) rfl (need 2 (by kernel_rfl) (by kernel_rfl))) (f := 32) (args := #[.pointer (some ⟨p, 0, none⟩)]) ?run ((q_bads (HP.out.below hG) HO.out).mono ?post)
      case run => simp [go_sem, e0]
      case post =>
        rintro e w2 ⟨rfl, hb2⟩
        exact ⟨_, rfl, hKx _ w2 rfl (hG.trans (hb2.mono hG.size)) hb2⟩
    case o5 =>
      intro a w1 Kx hG need old hsz fresh hKx
      have e0 : a.tmps[0]?.getD undef = .pointer (some ⟨p, 0, none⟩) := by rw [← Array.getD_eq_getD_getElem?]; exact old 0 (by kernel_rfl)
      refine op_value (v := .pointer (some ⟨p, 0, none⟩)) (wanted_of (j := 2) rfl (need 2 (by kernel_rfl) (by kernel_rfl))) ?_ (hKx _ w1 rfl hG (Below.refl _ _))
      simp [execOp, go_sem, e0]
    case o6 =>
      intro a w1 Kx hG need old hsz fresh hKx
      have e0 : a.tmps[8]?.getD undef = .pointer (some ⟨p, 0, none⟩) := by rw [← Array.getD_eq_getD_getElem?]; exact (need 5 (by kernel_rfl) (by kernel_rfl))
      refine op_value (v := .pointer (some ⟨p, 0, none⟩)) (wanted_of (j := 2) rfl (need 2 (by kernel_rfl) (by kernel_rfl))) ?_ (hKx _ w1 rfl hG (Below.refl _ _))
      simp [execOp, go_sem, e0]
    case o7 =>
      intro a w1 Kx hG need old hsz fresh hKx
      have e0 : a.tmps[9]?.getD undef = .pointer (some ⟨p, 0, none⟩) := by rw [← Array.getD_eq_getD_getElem?]; exact (need 6 (by kernel_rfl) (by kernel_rfl))
      refine op_value (v := .pointer (some ⟨p, 1, none⟩)) (wanted_of (j := 2) rfl (need 2 (by kernel_rfl) (by kernel_rfl))) ?_ (hKx _ w1 rfl hG (Below.refl _ _))
      simp [execOp, go_sem, e0]
    case o8 =>
      intro a w1 Kx hG need old hsz fresh hKx
      have e0 : a.tmps[10]?.getD undef = .pointer (some ⟨p, 1, none⟩) := by rw [← Array.getD_eq_getD_getElem?]; exact (need 7 (by kernel_rfl) (by kernel_rfl))
      refine op_value (v := .pointer (some ⟨p, 3, none⟩)) (wanted_of (j := 2) rfl (need 2 (by kernel_rfl) (by kernel_rfl))) ?_ (hKx _ w1 rfl hG (Below.refl _ _))
      simp [execOp, go_sem, e0]
    case o9 =>
      intro a w1 Kx hG need old hsz fresh hKx
      have e0 : a.tmps[11]?.getD undef = .pointer (some ⟨p, 3, none⟩) := by rw [← Array.getD_eq_getD_getElem?]; exact (need 8 (by kernel_rfl) (by kernel_rfl))
      have k0 := (hG.cell (p := ⟨p, 3, none⟩) HP.out.lt).trans HP.out.c3
      refine op_value (v := .int .i64 Q.Sp) (wanted_of (j := 2) rfl (need 2 (by kernel_rfl) (by kernel_rfl))) ?_ (hKx _ w1 rfl hG (Below.refl _ _))
      simp [execOp, go_sem, e0, k0]
    case o10 =>
      intro a w1 Kx hG need old hsz fresh hKx
      have e0 : a.tmps[7]?.getD undef = .int .i64 Q.bads := by rw [← Array.getD_eq_getD_getElem?]; exact (need 4 (by kernel_rfl) (by kernel_rfl))
      have e1 : a.tmps[12]?.getD undef = .int .i64 Q.Sp := by rw [← Array.getD_eq_getD_getElem?]; exact (need 9 (by kernel_rfl) (by kernel_rfl))
      refine op_value (v := .bool Q.over) (wanted_of (j := 2) rfl (need 2 (by kernel_rfl) (by kernel_rfl))) ?_ (hKx _ w1 rfl hG (Below.refl _ _))
      simp [execOp, go_sem, e0, e1, PS.over]
    case o11 =>
      intro a w1 Kx hG need old hsz fresh hKx
      have e0 : a.tmps[5]?.getD undef = .bool true := by rw [← Array.getD_eq_getD_getElem?]; exact (need 2 (by kernel_rfl) (by kernel_rfl))
      have e1 : a.tmps[13]?.getD undef = .bool Q.over := by rw [← Array.getD_eq_getD_getElem?]; exact (need 10 (by kernel_rfl) (by kernel_rfl))
      refine op_value (v := .bool Q.over) (wanted_none rfl) ?_ (hKx _ w1 rfl hG (Below.refl _ _))
      simp [execOp, go_sem, asBool, e0, e1]
    case o12 =>
      intro a w1 Kx hG need old hsz fresh hKx
      have e0 : a.tmps[14]?.getD undef = .bool Q.over := by rw [← Array.getD_eq_getD_getElem?]; exact (need 11 (by kernel_rfl) (by kernel_rfl))
      refine op_value (v := .bool Q.over) (wanted_none rfl) ?_ (hKx _ w1 rfl hG (Below.refl _ _))
      simp [execOp, go_sem, e0]
  case hend =>
    intro a w6 hG hde hsz hφ hold
    obtain rfl := act_puts [(3, .pointer (some ⟨p, 0, none⟩)), (4, .bool true), (5, .bool true), (6, .pointer (some ⟨p, 0, none⟩)), (7, .int .i64 Q.bads), (8, .pointer (some ⟨p, 0, none⟩)), (9, .pointer (some ⟨p, 0, none⟩)), (10, .pointer (some ⟨p, 1, none⟩)), (11, .pointer (some ⟨p, 3, none⟩)), (12, .int .i64 Q.Sp), (13, .bool Q.over), (14, .bool Q.over), (2, .bool Q.over)] [3, 4, 5, 6, 7, 8, 9, 10, 11, 12, 13, 14, 2] rfl (by kernel_rfl) (by kernel_rfl) hde hsz (List.forall_mem_cons.2 ⟨(show a.tmps.getD 3 undef = .pointer (some ⟨p, 0, none⟩) from (hφ 0 (by kernel_rfl))), (List.forall_mem_cons.2 ⟨(show a.tmps.getD 4 undef = .bool true from (hφ 1 (by kernel_rfl))), (List.forall_mem_cons.2 ⟨(show a.tmps.getD 5 undef = .bool true from (hφ 2 (by kernel_rfl))), (List.forall_mem_cons.2 ⟨(show a.tmps.getD 6 undef = .pointer (some ⟨p, 0, none⟩) from (hφ 3 (by kernel_rfl))), (List.forall_mem_cons.2 ⟨(show a.tmps.getD 7 undef = .int .i64 Q.bads from (hφ 4 (by kernel_rfl))), (List.forall_mem_cons.2 ⟨(show a.tmps.getD 8 undef = .pointer (some ⟨p, 0, none⟩) from (hφ 5 (by kernel_rfl))), (List.forall_mem_cons.2 ⟨(show a.tmps.getD 9 undef = .pointer (some ⟨p, 0, none⟩) from (hφ 6 (by kernel_rfl))), (List.forall_mem_cons.2 ⟨(show a.tmps.getD 10 undef = .pointer (some ⟨p, 1, none⟩) from (hφ 7 (by kernel_rfl))), (List.forall_mem_cons.2 ⟨(show a.tmps.getD 11 undef = .pointer (some ⟨p, 3, none⟩) from (hφ 8 (by kernel_rfl))), (List.forall_mem_cons.2 ⟨(show a.tmps.getD 12 undef = .int .i64 Q.Sp from (hφ 9 (by kernel_rfl))), (List.forall_mem_cons.2 ⟨(show a.tmps.getD 13 undef = .bool Q.over from (hφ 10 (by kernel_rfl))), (List.forall_mem_cons.2 ⟨(show a.tmps.getD 14 undef = .bool Q.over from (hφ 11 (by kernel_rfl))), (List.forall_mem_cons.2 ⟨(show a.tmps.getD 2 undef = .bool Q.over from (hφ 12 (by kernel_rfl))), (fun _ h => absurd h (by simp))⟩)⟩)⟩)⟩)⟩)⟩)⟩)⟩)⟩)⟩)⟩)⟩)⟩) hold
    clear hφ hold hsz hde
    simp only [putAll]
    go_frame
    go_wp2_with fail
    go_ret
    exact ⟨rfl, hG⟩
theorem q_passed (e : Int) (h : Parts w p c l f Q) (ok : Ok Q) : Calls Tryz.prog 120 #[.pointer (some ⟨p, 0, none⟩), .int .i64 e] w fun e' w' => e' = .returned (.int .i64 (Q.passed e)) ∧ Below w.heap.size w w' := by
  by_cases he : e = 3
  · subst he
    have HP := Lib.hid h
    have HO := Lib.hid ok
    clear h ok
    cases hov : Q.over with
    | true =>
      have HV := Lib.hid hov
      clear hov
      go_enter Tryz.func120, Tryz.ntmps120
      go_wp2_with (go_at_call 33; refine (q_over HP.out HO.out).mono ?_; rintro e w1 ⟨rfl, hb1⟩; rw [HV.out])
      go_ret
      exact ⟨ret_int (by unfold PS.passed; rw [HV.out]; rfl), hb1⟩
    | false =>
      have HV := Lib.hid hov
      clear hov
      go_enter Tryz.func120, Tryz.ntmps120
      go_wp2_with (go_at_call 33; refine (q_over HP.out HO.out).mono ?_; rintro e w1 ⟨rfl, hb1⟩; rw [HV.out])
      go_ret
      exact ⟨ret_int (by unfold PS.passed; rw [HV.out]; rfl), hb1⟩
  · clear h ok
    go_enter Tryz.func120, Tryz.ntmps120
    go_wp2_with fail
    go_ret
    exact ⟨ret_int (by unfold PS.passed; rw [if_pos he]), Below.refl _ _⟩
end
end Go.Proofs.YtnadcdgpfopcaaaGreat
