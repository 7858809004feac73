/- A pool: begin (written by pobegin.py). -/
import Derived.Test.YtnadcdgpfopcaaaGreatPoE6
namespace Go.Proofs.YtnadcdgpfopcaaaGreat
open Go.RowKit

section
variable {w w' : World} {p c l f : Nat} {x y X Y Z : Nat → Prop} {Q Q1 : PS} {T : List Fd}
set_option maxRecDepth 100000 in
set_option maxHeartbeats 4000000 in
theorem q_begin (n : Nat) {er : Int} {Q' : PS} (h : Pool w p c x Q) (ok : Ok Q) (hm : Q.begin n = some (er, Q')) : Calls Tryz.prog 118 #[.pointer (some ⟨p, 0, none⟩)] w fun r w' => r = .returned (.int .i64 er) ∧ Pool w' p c x Q' ∧ Safe x w w' := by
  have HQ := Lib.hid h
  have HO := Lib.hid ok
  have HM : Hid (PS.beginLoop n n Q.shut = some (er, Q')) := Lib.hid hm
  clear h ok hm
  go_enter Tryz.func118, Tryz.ntmps118
  go_wp2_with (go_at_call 145; (with_reducible refine (q_shut HQ.out HO.out).mono ?_); rintro e w2 ⟨rfl, h2, hs2⟩; have HP2 := Lib.hid h2; have HS2 := Lib.hid hs2; clear h2 hs2)
  go_loopg [3] n (fun k _ wr => ∃ Q1, Pool wr p c x Q1 ∧ Ok Q1 ∧ PS.beginLoop n k Q1 = some (er, Q') ∧ Safe x w wr)
  case atStart => exact ⟨Q.shut, HP2.out, HO.out.shut, HM.out, HS2.out⟩
  case round =>
    obtain ⟨Q1, hP, hO, hM, hS⟩ := hrel
    have HQ1 := Lib.hid hP
    have HO1 := Lib.hid hO
    have HS1 := Lib.hid hS
    obtain ⟨l1, f1, hpt⟩ := hP.parts
    have HP := Lib.hid hpt
    have c10 := hpt.c10
    have HLn : Hid (Q1.S.bl.length ≤ 1000) := Lib.hid (by have := hO.lenN; omega)
    have HB1 : Hid (1 ≤ Q1.S.bl.length) := Lib.hid (by have := hO.lenN; omega)
    have HBW : Hid ((Lit.int .i64 Q1.bads).wf = true) := Lib.hid (wf_of (by have := hO.bads; omega))
    clear hP hS hpt
    cases gk with
    | zero => cases hM
    | succ k1 =>
      unfold PS.beginLoop at hM
      by_cases h1 : Q1.op = -1
      case neg =>
        rw [if_pos h1] at hM
        have HE : Hid (er = 0 ∧ Q' = Q1) := Lib.hid (by simp at hM; exact ⟨hM.1.symm, hM.2.symm⟩)
        obtain ⟨o, ho⟩ : ∃ o, o = Q1.op := ⟨_, rfl⟩
        rw [← ho] at h1 c10
        clear hM hO ho
        go_wp2_with fail
        go_ret
        rw [HE.out.1, HE.out.2]
        exact ⟨rfl, HQ1.out, HS1.out⟩
      case pos =>
        rw [if_neg (fun k => k h1)] at hM
        rw [h1] at c10
        by_cases h2 : Q1.floor < ((cleansB Q1.S.bl).length : Int)
        · rw [if_pos h2] at hM
          have HFL := Lib.hid h2
          by_cases h3 : Q1.num (Q1.clean false)
          case neg => rw [if_neg h3] at hM; cases hM
          case pos =>
            rw [if_pos h3] at hM
            have HE : Hid (er = 0 ∧ Q' = { Q1 with op := Q1.clean false }) := Lib.hid (by simp at hM; exact ⟨hM.1.symm, hM.2.symm⟩)
            clear hM hO h1 h2 h3
            go_upto_region 3 with fail
            clear c10
            refine region_st (fun j v w' => match j with | 0 => v = .pointer (some ⟨p, 0, none⟩) | 1 => v = .pointer (some ⟨p, 0, none⟩) | 2 => v = .pointer (some ⟨p, 0, none⟩) | 3 => v = .pointer (some ⟨c, 0, none⟩) | 4 => ∃ g cap, v = .slice (some ⟨g, 0, none⟩) Q1.S.bl.length cap ∧ BLies w' (some ⟨g, 0, none⟩) Q1.S.bl | 5 => ∃ A2 m2, v = .slice A2 (cleansB Q1.S.bl).length m2 ∧ AnyW w' | 6 => v = .int .i64 ((cleansB Q1.S.bl).length : Int) | 7 => v = .pointer (some ⟨p, 0, none⟩) | 8 => v = .pointer (some ⟨p, 0, none⟩) | 9 => v = .pointer (some ⟨p, 1, none⟩) | 10 => v = .agg #[.int .i64 Q1.B, .int .i64 Q1.P, .int .i64 Q1.Sp, .int .i64 Q1.K, .int .i64 Q1.U] | 11 => v = .pointer (some ⟨p, 0, none⟩) | 12 => v = .int .i64 Q1.bads | 13 => v = .int .i64 Q1.floor | 14 => v = .bool true | _ => True) (fun _ w' => Below wr.heap.size wr w') (fun w1 w2 => Below w1.heap.size w1 w2) (by kernel_rfl) (by kernel_rfl) (by kernel_rfl) ?hR ?hG ?hops ?hend
            case hR =>
              intro j v w1 w2 hv hb
              match j, hv with
              | 0, hv => exact hv
              | 1, hv => exact hv
              | 2, hv => exact hv
              | 3, hv => exact hv
              | 4, ⟨g, cap, e, h⟩ => exact ⟨g, cap, e, h.below hb⟩
              | 5, ⟨A2, m2, e, h⟩ => exact ⟨A2, m2, e, h.below hb⟩
              | 6, hv => exact hv
              | 7, hv => exact hv
              | 8, hv => exact hv
              | 9, hv => exact hv
              | 10, hv => exact hv
              | 11, hv => exact hv
              | 12, hv => exact hv
              | 13, hv => exact hv
              | 14, hv => exact hv
              | _ + 15, _ => exact trivial
            case hG => exact (Below.refl _ _).drew
            case hops =>
              refine OpsOkS.cons ?o0 (OpsOkS.cons ?o1 (OpsOkS.cons ?o2 (OpsOkS.cons ?o3 (OpsOkS.cons ?o4 (OpsOkS.cons ?o5 (OpsOkS.cons ?o6 (OpsOkS.cons ?o7 (OpsOkS.cons ?o8 (OpsOkS.cons ?o9 (OpsOkS.cons ?o10 (OpsOkS.cons ?o11 (OpsOkS.cons ?o12 (OpsOkS.cons ?o13 (OpsOkS.cons ?o14 OpsOkS.nil))))))))))))))
              case o0 =>
                intro a w1 Kx hG need old hsz fresh hKx
                have e0 : a.tmps[0]?.getD undef = .pointer (some ⟨p, 0, none⟩) := by rw [← Array.getD_eq_getD_getElem?]; exact old 0 (by kernel_rfl)
                refine op_value (v := .pointer (some ⟨p, 0, none⟩)) (wanted_none rfl) ?_ (hKx _ w1 rfl hG (Below.refl _ _))
                simp [execOp, go_sem, e0]
              case o1 =>
                intro a w1 Kx hG need old hsz fresh hKx
                have e0 : a.tmps[11]?.getD undef = .pointer (some ⟨p, 0, none⟩) := by rw [← Array.getD_eq_getD_getElem?]; exact (need 0 (by kernel_rfl) (by kernel_rfl))
                refine op_value (v := .pointer (some ⟨p, 0, none⟩)) (wanted_none rfl) ?_ (hKx _ w1 rfl hG (Below.refl _ _))
                simp [execOp, go_sem, e0]
              case o2 =>
                intro a w1 Kx hG need old hsz fresh hKx
                have e0 : a.tmps[12]?.getD undef = .pointer (some ⟨p, 0, none⟩) := by rw [← Array.getD_eq_getD_getElem?]; exact (need 1 (by kernel_rfl) (by kernel_rfl))
                refine op_value (v := .pointer (some ⟨p, 0, none⟩)) (wanted_none rfl) ?_ (hKx _ w1 rfl hG (Below.refl _ _))
                simp [execOp, go_sem, e0]
              case o3 =>
                intro a w1 Kx hG need old hsz fresh hKx
                have e0 : a.tmps[13]?.getD undef = .pointer (some ⟨p, 0, none⟩) := by rw [← Array.getD_eq_getD_getElem?]; exact (need 2 (by kernel_rfl) (by kernel_rfl))
                have k0 := (hG.cell (p := ⟨p, 0, none⟩) HP.out.lt).trans HP.out.c0
                refine op_value (v := .pointer (some ⟨c, 0, none⟩)) (wanted_none rfl) ?_ (hKx _ w1 rfl hG (Below.refl _ _))
                simp [execOp, go_sem, e0, k0]
              case o4 =>
                intro a w1 Kx hG need old hsz fresh hKx
                have e0 : a.tmps[14]?.getD undef = .pointer (some ⟨c, 0, none⟩) := by rw [← Array.getD_eq_getD_getElem?]; exact (need 3 (by kernel_rfl) (by kernel_rfl))
                refine op_call (wanted_none rfl) (f := 21) (args := #[.pointer (some ⟨c, 0, none⟩)]) ?run ((held_blocks (HP.out.chip.below hG) HB1.out).mono ?post)
                case run => simp [go_sem, e0]
                case post =>
                  rintro e w2 ⟨g, cap, rfl, hl, hb2⟩
                  exact ⟨_, rfl, hKx _ w2 ⟨g, cap, rfl, hl⟩ (hG.trans (hb2.mono hG.size)) hb2⟩
              case o5 =>
                intro a w1 Kx hG need old hsz fresh hKx
                obtain ⟨g, cap, qe0, he0⟩ := need 4 (by kernel_rfl) (by kernel_rfl)
                have e0 : a.tmps[15]?.getD undef = .slice (some ⟨g, 0, none⟩) Q1.S.bl.length cap := by rw [← Array.getD_eq_getD_getElem?]; exact qe0
                refine op_call (wanted_none rfl) (f := 75) (args := #[.slice (some ⟨g, 0, none⟩) Q1.S.bl.length cap]) ?run ((cleans_any (some ⟨g, 0, none⟩) cap Q1.S.bl w1 HLn.out he0).mono ?post)
                case run => simp [go_sem, e0]
                case post =>
                  rintro e w2 ⟨A2, m2, rfl, hc2, ha2, hb2⟩
                  exact ⟨_, rfl, hKx _ w2 ⟨A2, m2, rfl, ⟨trivial⟩⟩ (hG.trans (hb2.mono hG.size)) hb2⟩
              case o6 =>
                intro a w1 Kx hG need old hsz fresh hKx
                obtain ⟨A2, m2, qe0, he0⟩ := need 5 (by kernel_rfl) (by kernel_rfl)
                have e0 : a.tmps[16]?.getD undef = .slice A2 (cleansB Q1.S.bl).length m2 := by rw [← Array.getD_eq_getD_getElem?]; exact qe0
                refine op_value (v := .int .i64 ((cleansB Q1.S.bl).length : Int)) (wanted_none rfl) ?_ (hKx _ w1 rfl hG (Below.refl _ _))
                simp [go_sem, e0]
              case o7 =>
                intro a w1 Kx hG need old hsz fresh hKx
                have e0 : a.tmps[0]?.getD undef = .pointer (some ⟨p, 0, none⟩) := by rw [← Array.getD_eq_getD_getElem?]; exact old 0 (by kernel_rfl)
                refine op_value (v := .pointer (some ⟨p, 0, none⟩)) (wanted_none rfl) ?_ (hKx _ w1 rfl hG (Below.refl _ _))
                simp [execOp, go_sem, e0]
              case o8 =>
                intro a w1 Kx hG need old hsz fresh hKx
                have e0 : a.tmps[18]?.getD undef = .pointer (some ⟨p, 0, none⟩) := by rw [← Array.getD_eq_getD_getElem?]; exact (need 7 (by kernel_rfl) (by kernel_rfl))
                refine op_value (v := .pointer (some ⟨p, 0, none⟩)) (wanted_none rfl) ?_ (hKx _ w1 rfl hG (Below.refl _ _))
                simp [execOp, go_sem, e0]
              case o9 =>
                intro a w1 Kx hG need old hsz fresh hKx
                have e0 : a.tmps[19]?.getD undef = .pointer (some ⟨p, 0, none⟩) := by rw [← Array.getD_eq_getD_getElem?]; exact (need 8 (by kernel_rfl) (by kernel_rfl))
                refine op_value (v := .pointer (some ⟨p, 1, none⟩)) (wanted_none rfl) ?_ (hKx _ w1 rfl hG (Below.refl _ _))
                simp [execOp, go_sem, e0]
              case o10 =>
                intro a w1 Kx hG need old hsz fresh hKx
                have e0 : a.tmps[20]?.getD undef = .pointer (some ⟨p, 1, none⟩) := by rw [← Array.getD_eq_getD_getElem?]; exact (need 9 (by kernel_rfl) (by kernel_rfl))
                have k1 := (hG.cell (p := ⟨p, 1, none⟩) HP.out.lt).trans HP.out.c1
                have k2 := (hG.cell (p := ⟨p, 2, none⟩) HP.out.lt).trans HP.out.c2
                have k3 := (hG.cell (p := ⟨p, 3, none⟩) HP.out.lt).trans HP.out.c3
                have k4 := (hG.cell (p := ⟨p, 4, none⟩) HP.out.lt).trans HP.out.c4
                have k5 := (hG.cell (p := ⟨p, 5, none⟩) HP.out.lt).trans HP.out.c5
                refine op_value (v := .agg #[.int .i64 Q1.B, .int .i64 Q1.P, .int .i64 Q1.Sp, .int .i64 Q1.K, .int .i64 Q1.U]) (wanted_none rfl) ?_ (hKx _ w1 rfl hG (Below.refl _ _))
                simp [execOp, go_sem, e0, k1, k2, k3, k4, k5]
              case o11 =>
                intro a w1 Kx hG need old hsz fresh hKx
                have e0 : a.tmps[0]?.getD undef = .pointer (some ⟨p, 0, none⟩) := by rw [← Array.getD_eq_getD_getElem?]; exact old 0 (by kernel_rfl)
                refine op_value (v := .pointer (some ⟨p, 0, none⟩)) (wanted_none rfl) ?_ (hKx _ w1 rfl hG (Below.refl _ _))
                simp [execOp, go_sem, e0]
              case o12 =>
                intro a w1 Kx hG need old hsz fresh hKx
                have e0 : a.tmps[22]?.getD undef = .pointer (some ⟨p, 0, none⟩) := by rw [← Array.getD_eq_getD_getElem?]; exact (need 11 (by kernel_rfl) (by kernel_rfl))
                refine op_call (wanted_none rfl) (f := 32) (args := #[.pointer (some ⟨p, 0, none⟩)]) ?run ((q_bads (HP.out.below hG) HO1.out).mono ?post)
                case run => simp [go_sem, e0]
                case post =>
                  rintro e w2 ⟨rfl, hb2⟩
                  exact ⟨_, rfl, hKx _ w2 rfl (hG.trans (hb2.mono hG.size)) hb2⟩
              case o13 =>
                intro a w1 Kx hG need old hsz fresh hKx
                have e0 : a.tmps[21]?.getD undef = .agg #[.int .i64 Q1.B, .int .i64 Q1.P, .int .i64 Q1.Sp, .int .i64 Q1.K, .int .i64 Q1.U] := by rw [← Array.getD_eq_getD_getElem?]; exact (need 10 (by kernel_rfl) (by kernel_rfl))
                have e1 : a.tmps[23]?.getD undef = .int .i64 Q1.bads := by rw [← Array.getD_eq_getD_getElem?]; exact (need 12 (by kernel_rfl) (by kernel_rfl))
                refine op_call (wanted_none rfl) (f := 76) (args := #[.agg #[.int .i64 Q1.B, .int .i64 Q1.P, .int .i64 Q1.Sp, .int .i64 Q1.K, .int .i64 Q1.U], .int .i64 Q1.bads]) ?run ((floorp_any Q1.B Q1.P Q1.Sp Q1.K Q1.U Q1.bads w1 HBW.out).mono ?post)
                case run => simp [go_sem, e0, e1]
                case post =>
                  rintro e w2 ⟨rfl, hb2⟩
                  exact ⟨_, rfl, hKx _ w2 rfl (hG.trans (hb2.mono hG.size)) hb2⟩
              case o14 =>
                intro a w1 Kx hG need old hsz fresh hKx
                have e0 : a.tmps[17]?.getD undef = .int .i64 ((cleansB Q1.S.bl).length : Int) := by rw [← Array.getD_eq_getD_getElem?]; exact (need 6 (by kernel_rfl) (by kernel_rfl))
                have e1 : a.tmps[24]?.getD undef = .int .i64 Q1.floor := by rw [← Array.getD_eq_getD_getElem?]; exact (need 13 (by kernel_rfl) (by kernel_rfl))
                refine op_value (v := .bool true) (wanted_none rfl) ?_ (hKx _ w1 rfl hG (Below.refl _ _))
                simp [execOp, go_sem, e0, e1]; exact HFL.out
            case hend =>
              intro a w6 hG hde hsz hφ hold
              obtain ⟨g_4, cap_4, hv_4, hp_4⟩ := hφ 4 (by kernel_rfl)
              obtain ⟨A2_5, m2_5, hv_5, hp_5⟩ := hφ 5 (by kernel_rfl)
              obtain rfl := act_puts [(11, .pointer (some ⟨p, 0, none⟩)), (12, .pointer (some ⟨p, 0, none⟩)), (13, .pointer (some ⟨p, 0, none⟩)), (14, .pointer (some ⟨c, 0, none⟩)), (15, .slice (some ⟨g_4, 0, none⟩) Q1.S.bl.length cap_4), (16, .slice A2_5 (cleansB Q1.S.bl).length m2_5), (17, .int .i64 ((cleansB Q1.S.bl).length : Int)), (18, .pointer (some ⟨p, 0, none⟩)), (19, .pointer (some ⟨p, 0, none⟩)), (20, .pointer (some ⟨p, 1, none⟩)), (21, .agg #[.int .i64 Q1.B, .int .i64 Q1.P, .int .i64 Q1.Sp, .int .i64 Q1.K, .int .i64 Q1.U]), (22, .pointer (some ⟨p, 0, none⟩)), (23, .int .i64 Q1.bads), (24, .int .i64 Q1.floor), (25, .bool true)] [11, 12, 13, 14, 15, 16, 17, 18, 19, 20, 21, 22, 23, 24, 25] rfl (by kernel_rfl) (by kernel_rfl) hde hsz (List.forall_mem_cons.2 ⟨(show a.tmps.getD 11 undef = .pointer (some ⟨p, 0, none⟩) from (hφ 0 (by kernel_rfl))), (List.forall_mem_cons.2 ⟨(show a.tmps.getD 12 undef = .pointer (some ⟨p, 0, none⟩) from (hφ 1 (by kernel_rfl))), (List.forall_mem_cons.2 ⟨(show a.tmps.getD 13 undef = .pointer (some ⟨p, 0, none⟩) from (hφ 2 (by kernel_rfl))), (List.forall_mem_cons.2 ⟨(show a.tmps.getD 14 undef = .pointer (some ⟨c, 0, none⟩) from (hφ 3 (by kernel_rfl))), (List.forall_mem_cons.2 ⟨(show a.tmps.getD 15 undef = .slice (some ⟨g_4, 0, none⟩) Q1.S.bl.length cap_4 from hv_4), (List.forall_mem_cons.2 ⟨(show a.tmps.getD 16 undef = .slice A2_5 (cleansB Q1.S.bl).length m2_5 from hv_5), (List.forall_mem_cons.2 ⟨(show a.tmps.getD 17 undef = .int .i64 ((cleansB Q1.S.bl).length : Int) from (hφ 6 (by kernel_rfl))), (List.forall_mem_cons.2 ⟨(show a.tmps.getD 18 undef = .pointer (some ⟨p, 0, none⟩) from (hφ 7 (by kernel_rfl))), (List.forall_mem_cons.2 ⟨(show a.tmps.getD 19 undef = .pointer (some ⟨p, 0, none⟩) from (hφ 8 (by kernel_rfl))), (List.forall_mem_cons.2 ⟨(show a.tmps.getD 20 undef = .pointer (some ⟨p, 1, none⟩) from (hφ 9 (by kernel_rfl))), (List.forall_mem_cons.2 ⟨(show a.tmps.getD 21 undef = .agg #[.int .i64 Q1.B, .int .i64 Q1.P, .int .i64 Q1.Sp, .int .i64 Q1.K, .int .i64 Q1.U] from (hφ 10 (by kernel_rfl))), (List.forall_mem_cons.2 ⟨(show a.tmps.getD 22 undef = .pointer (some ⟨p, 0, none⟩) from (hφ 11 (by kernel_rfl))), (List.forall_mem_cons.2 ⟨(show a.tmps.getD 23 undef = .int .i64 Q1.bads from (hφ 12 (by kernel_rfl))), (List.forall_mem_cons.2 ⟨(show a.tmps.getD 24 undef = .int .i64 Q1.floor from (hφ 13 (by kernel_rfl))), (List.forall_mem_cons.2 ⟨(show a.tmps.getD 25 undef = .bool true from (hφ 14 (by kernel_rfl))), (fun _ h => absurd h (by simp))⟩)⟩)⟩)⟩)⟩)⟩)⟩)⟩)⟩)⟩)⟩)⟩)⟩)⟩)⟩) hold
              clear hφ hold hsz hde hv_4 hv_5
              simp only [putAll]
              go_frame
              have c10 := (HP.out.below hG).c10
              go_wp2_with (go_at_call 146; (with_reducible refine (q_cold (HP.out.below hG) HO1.out).mono ?_); rintro e w7 ⟨rfl, hb7⟩; have HB7 : Hid (Below wr.heap.size wr w7) := Lib.hid (hG.trans (hb7.mono hG.size)); have d10 := (HP.out.below HB7.out).c10; have fr10 := (HP.out.below HB7.out).fr 10; clear hb7)
              go_ret
              rw [HE.out.1, HE.out.2]
              have k := Pool.set (j := 10) (u := .int .i64 (Q1.clean false)) (Q' := { Q1 with op := Q1.clean false }) (HQ1.out.below HB7.out) rfl rfl rfl (fun l f => by simp [PS.cells])
              exact ⟨rfl, k.1, (HS1.out.then (safe_of_below HB7.out)).then k.2⟩
        · rw [if_neg h2] at hM
          have HFL : Hid (((cleansB Q1.S.bl).length : Int) ≤ Q1.floor) := Lib.hid (by omega)
          cases hr : Q1.empty n with
          | none => rw [hr] at hM; cases hM
          | some R =>
            obtain ⟨e1, Q2⟩ := R
            rw [hr] at hM
            simp only at hM
            have HR := Lib.hid hr
            have HO2 := Lib.hid (hO.empty hr)
            clear hr hO h1 h2
            have HM3 := Lib.hid hM
            clear hM
            go_upto_region 3 with fail
            clear c10
            refine region_st (fun j v w' => match j with | 0 => v = .pointer (some ⟨p, 0, none⟩) | 1 => v = .pointer (some ⟨p, 0, none⟩) | 2 => v = .pointer (some ⟨p, 0, none⟩) | 3 => v = .pointer (some ⟨c, 0, none⟩) | 4 => ∃ g cap, v = .slice (some ⟨g, 0, none⟩) Q1.S.bl.length cap ∧ BLies w' (some ⟨g, 0, none⟩) Q1.S.bl | 5 => ∃ A2 m2, v = .slice A2 (cleansB Q1.S.bl).length m2 ∧ AnyW w' | 6 => v = .int .i64 ((cleansB Q1.S.bl).length : Int) | 7 => v = .pointer (some ⟨p, 0, none⟩) | 8 => v = .pointer (some ⟨p, 0, none⟩) | 9 => v = .pointer (some ⟨p, 1, none⟩) | 10 => v = .agg #[.int .i64 Q1.B, .int .i64 Q1.P, .int .i64 Q1.Sp, .int .i64 Q1.K, .int .i64 Q1.U] | 11 => v = .pointer (some ⟨p, 0, none⟩) | 12 => v = .int .i64 Q1.bads | 13 => v = .int .i64 Q1.floor | 14 => v = .bool false | _ => True) (fun _ w' => Below wr.heap.size wr w') (fun w1 w2 => Below w1.heap.size w1 w2) (by kernel_rfl) (by kernel_rfl) (by kernel_rfl) ?hR ?hG ?hops ?hend
            case hR =>
              intro j v w1 w2 hv hb
              match j, hv with
              | 0, hv => exact hv
              | 1, hv => exact hv
              | 2, hv => exact hv
              | 3, hv => exact hv
              | 4, ⟨g, cap, e, h⟩ => exact ⟨g, cap, e, h.below hb⟩
              | 5, ⟨A2, m2, e, h⟩ => exact ⟨A2, m2, e, h.below hb⟩
              | 6, hv => exact hv
              | 7, hv => exact hv
              | 8, hv => exact hv
              | 9, hv => exact hv
              | 10, hv => exact hv
              | 11, hv => exact hv
              | 12, hv => exact hv
              | 13, hv => exact hv
              | 14, hv => exact hv
              | _ + 15, _ => exact trivial
            case hG => exact (Below.refl _ _).drew
            case hops =>
              refine OpsOkS.cons ?o0 (OpsOkS.cons ?o1 (OpsOkS.cons ?o2 (OpsOkS.cons ?o3 (OpsOkS.cons ?o4 (OpsOkS.cons ?o5 (OpsOkS.cons ?o6 (OpsOkS.cons ?o7 (OpsOkS.cons ?o8 (OpsOkS.cons ?o9 (OpsOkS.cons ?o10 (OpsOkS.cons ?o11 (OpsOkS.cons ?o12 (OpsOkS.cons ?o13 (OpsOkS.cons ?o14 OpsOkS.nil))))))))))))))
              case o0 =>
                intro a w1 Kx hG need old hsz fresh hKx
                have e0 : a.tmps[0]?.getD undef = .pointer (some ⟨p, 0, none⟩) := by rw [← Array.getD_eq_getD_getElem?]; exact old 0 (by kernel_rfl)
                refine op_value (v := .pointer (some ⟨p, 0, none⟩)) (wanted_none rfl) ?_ (hKx _ w1 rfl hG (Below.refl _ _))
                simp [execOp, go_sem, e0]
              case o1 =>
                intro a w1 Kx hG need old hsz fresh hKx
                have e0 : a.tmps[11]?.getD undef = .pointer (some ⟨p, 0, none⟩) := by rw [← Array.getD_eq_getD_getElem?]; exact (need 0 (by kernel_rfl) (by kernel_rfl))
                refine op_value (v := .pointer (some ⟨p, 0, none⟩)) (wanted_none rfl) ?_ (hKx _ w1 rfl hG (Below.refl _ _))
                simp [execOp, go_sem, e0]
              case o2 =>
                intro a w1 Kx hG need old hsz fresh hKx
                have e0 : a.tmps[12]?.getD undef = .pointer (some ⟨p, 0, none⟩) := by rw [← Array.getD_eq_getD_getElem?]; exact (need 1 (by kernel_rfl) (by kernel_rfl))
                refine op_value (v := .pointer (some ⟨p, 0, none⟩)) (wanted_none rfl) ?_ (hKx _ w1 rfl hG (Below.refl _ _))
                simp [execOp, go_sem, e0]
              case o3 =>
                intro a w1 Kx hG need old hsz fresh hKx
                have e0 : a.tmps[13]?.getD undef = .pointer (some ⟨p, 0, none⟩) := by rw [← Array.getD_eq_getD_getElem?]; exact (need 2 (by kernel_rfl) (by kernel_rfl))
                have k0 := (hG.cell (p := ⟨p, 0, none⟩) HP.out.lt).trans HP.out.c0
                refine op_value (v := .pointer (some ⟨c, 0, none⟩)) (wanted_none rfl) ?_ (hKx _ w1 rfl hG (Below.refl _ _))
                simp [execOp, go_sem, e0, k0]
              case o4 =>
                intro a w1 Kx hG need old hsz fresh hKx
                have e0 : a.tmps[14]?.getD undef = .pointer (some ⟨c, 0, none⟩) := by rw [← Array.getD_eq_getD_getElem?]; exact (need 3 (by kernel_rfl) (by kernel_rfl))
                refine op_call (wanted_none rfl) (f := 21) (args := #[.pointer (some ⟨c, 0, none⟩)]) ?run ((held_blocks (HP.out.chip.below hG) HB1.out).mono ?post)
                case run => simp [go_sem, e0]
                case post =>
                  rintro e w2 ⟨g, cap, rfl, hl, hb2⟩
                  exact ⟨_, rfl, hKx _ w2 ⟨g, cap, rfl, hl⟩ (hG.trans (hb2.mono hG.size)) hb2⟩
              case o5 =>
                intro a w1 Kx hG need old hsz fresh hKx
                obtain ⟨g, cap, qe0, he0⟩ := need 4 (by kernel_rfl) (by kernel_rfl)
                have e0 : a.tmps[15]?.getD undef = .slice (some ⟨g, 0, none⟩) Q1.S.bl.length cap := by rw [← Array.getD_eq_getD_getElem?]; exact qe0
                refine op_call (wanted_none rfl) (f := 75) (args := #[.slice (some ⟨g, 0, none⟩) Q1.S.bl.length cap]) ?run ((cleans_any (some ⟨g, 0, none⟩) cap Q1.S.bl w1 HLn.out he0).mono ?post)
                case run => simp [go_sem, e0]
                case post =>
                  rintro e w2 ⟨A2, m2, rfl, hc2, ha2, hb2⟩
                  exact ⟨_, rfl, hKx _ w2 ⟨A2, m2, rfl, ⟨trivial⟩⟩ (hG.trans (hb2.mono hG.size)) hb2⟩
              case o6 =>
                intro a w1 Kx hG need old hsz fresh hKx
                obtain ⟨A2, m2, qe0, he0⟩ := need 5 (by kernel_rfl) (by kernel_rfl)
                have e0 : a.tmps[16]?.getD undef = .slice A2 (cleansB Q1.S.bl).length m2 := by rw [← Array.getD_eq_getD_getElem?]; exact qe0
                refine op_value (v := .int .i64 ((cleansB Q1.S.bl).length : Int)) (wanted_none rfl) ?_ (hKx _ w1 rfl hG (Below.refl _ _))
                simp [go_sem, e0]
              case o7 =>
                intro a w1 Kx hG need old hsz fresh hKx
                have e0 : a.tmps[0]?.getD undef = .pointer (some ⟨p, 0, none⟩) := by rw [← Array.getD_eq_getD_getElem?]; exact old 0 (by kernel_rfl)
                refine op_value (v := .pointer (some ⟨p, 0, none⟩)) (wanted_none rfl) ?_ (hKx _ w1 rfl hG (Below.refl _ _))
                simp [execOp, go_sem, e0]
              case o8 =>
                intro a w1 Kx hG need old hsz fresh hKx
                have e0 : a.tmps[18]?.getD undef = .pointer (some ⟨p, 0, none⟩) := by rw [← Array.getD_eq_getD_getElem?]; exact (need 7 (by kernel_rfl) (by kernel_rfl))
                refine op_value (v := .pointer (some ⟨p, 0, none⟩)) (wanted_none rfl) ?_ (hKx _ w1 rfl hG (Below.refl _ _))
                simp [execOp, go_sem, e0]
              case o9 =>
                intro a w1 Kx hG need old hsz fresh hKx
                have e0 : a.tmps[19]?.getD undef = .pointer (some ⟨p, 0, none⟩) := by rw [← Array.getD_eq_getD_getElem?]; exact (need 8 (by kernel_rfl) (by kernel_rfl))
                refine op_value (v := .pointer (some ⟨p, 1, none⟩)) (wanted_none rfl) ?_ (hKx _ w1 rfl hG (Below.refl _ _))
                simp [execOp, go_sem, e0]
              case o10 =>
                intro a w1 Kx hG need old hsz fresh hKx
                have e0 : a.tmps[20]?.getD undef = .pointer (some ⟨p, 1, none⟩) := by rw [← Array.getD_eq_getD_getElem?]; exact (need 9 (by kernel_rfl) (by kernel_rfl))
                have k1 := (hG.cell (p := ⟨p, 1, none⟩) HP.out.lt).trans HP.out.c1
                have k2 := (hG.cell (p := ⟨p, 2, none⟩) HP.out.lt).trans HP.out.c2
                have k3 := (hG.cell (p := ⟨p, 3, none⟩) HP.out.lt).trans HP.out.c3
                have k4 := (hG.cell (p := ⟨p, 4, none⟩) HP.out.lt).trans HP.out.c4
                have k5 := (hG.cell (p := ⟨p, 5, none⟩) HP.out.lt).trans HP.out.c5
                refine op_value (v := .agg #[.int .i64 Q1.B, .int .i64 Q1.P, .int .i64 Q1.Sp, .int .i64 Q1.K, .int .i64 Q1.U]) (wanted_none rfl) ?_ (hKx _ w1 rfl hG (Below.refl _ _))
                simp [execOp, go_sem, e0, k1, k2, k3, k4, k5]
              case o11 =>
                intro a w1 Kx hG need old hsz fresh hKx
                have e0 : a.tmps[0]?.getD undef = .pointer (some ⟨p, 0, none⟩) := by rw [← Array.getD_eq_getD_getElem?]; exact old 0 (by kernel_rfl)
                refine op_value (v := .pointer (some ⟨p, 0, none⟩)) (wanted_none rfl) ?_ (hKx _ w1 rfl hG (Below.refl _ _))
                simp [execOp, go_sem, e0]
              case o12 =>
                intro a w1 Kx hG need old hsz fresh hKx
                have e0 : a.tmps[22]?.getD undef = .pointer (some ⟨p, 0, none⟩) := by rw [← Array.getD_eq_getD_getElem?]; exact (need 11 (by kernel_rfl) (by kernel_rfl))
                refine op_call (wanted_none rfl) (f := 32) (args := #[.pointer (some ⟨p, 0, none⟩)]) ?run ((q_bads (HP.out.below hG) HO1.out).mono ?post)
                case run => simp [go_sem, e0]
                case post =>
                  rintro e w2 ⟨rfl, hb2⟩
                  exact ⟨_, rfl, hKx _ w2 rfl (hG.trans (hb2.mono hG.size)) hb2⟩
              case o13 =>
                intro a w1 Kx hG need old hsz fresh hKx
                have e0 : a.tmps[21]?.getD undef = .agg #[.int .i64 Q1.B, .int .i64 Q1.P, .int .i64 Q1.Sp, .int .i64 Q1.K, .int .i64 Q1.U] := by rw [← Array.getD_eq_getD_getElem?]; exact (need 10 (by kernel_rfl) (by kernel_rfl))
                have e1 : a.tmps[23]?.getD undef = .int .i64 Q1.bads := by rw [← Array.getD_eq_getD_getElem?]; exact (need 12 (by kernel_rfl) (by kernel_rfl))
                refine op_call (wanted_none rfl) (f := 76) (args := #[.agg #[.int .i64 Q1.B, .int .i64 Q1.P, .int .i64 Q1.Sp, .int .i64 Q1.K, .int .i64 Q1.U], .int .i64 Q1.bads]) ?run ((floorp_any Q1.B Q1.P Q1.Sp Q1.K Q1.U Q1.bads w1 HBW.out).mono ?post)
                case run => simp [go_sem, e0, e1]
                case post =>
                  rintro e w2 ⟨rfl, hb2⟩
                  exact ⟨_, rfl, hKx _ w2 rfl (hG.trans (hb2.mono hG.size)) hb2⟩
              case o14 =>
                intro a w1 Kx hG need old hsz fresh hKx
                have e0 : a.tmps[17]?.getD undef = .int .i64 ((cleansB Q1.S.bl).length : Int) := by rw [← Array.getD_eq_getD_getElem?]; exact (need 6 (by kernel_rfl) (by kernel_rfl))
                have e1 : a.tmps[24]?.getD undef = .int .i64 Q1.floor := by rw [← Array.getD_eq_getD_getElem?]; exact (need 13 (by kernel_rfl) (by kernel_rfl))
                refine op_value (v := .bool false) (wanted_none rfl) ?_ (hKx _ w1 rfl hG (Below.refl _ _))
                simp [execOp, go_sem, e0, e1]; exact HFL.out
            case hend =>
              intro a w6 hG hde hsz hφ hold
              obtain ⟨g_4, cap_4, hv_4, hp_4⟩ := hφ 4 (by kernel_rfl)
              obtain ⟨A2_5, m2_5, hv_5, hp_5⟩ := hφ 5 (by kernel_rfl)
              obtain rfl := act_puts [(11, .pointer (some ⟨p, 0, none⟩)), (12, .pointer (some ⟨p, 0, none⟩)), (13, .pointer (some ⟨p, 0, none⟩)), (14, .pointer (some ⟨c, 0, none⟩)), (15, .slice (some ⟨g_4, 0, none⟩) Q1.S.bl.length cap_4), (16, .slice A2_5 (cleansB Q1.S.bl).length m2_5), (17, .int .i64 ((cleansB Q1.S.bl).length : Int)), (18, .pointer (some ⟨p, 0, none⟩)), (19, .pointer (some ⟨p, 0, none⟩)), (20, .pointer (some ⟨p, 1, none⟩)), (21, .agg #[.int .i64 Q1.B, .int .i64 Q1.P, .int .i64 Q1.Sp, .int .i64 Q1.K, .int .i64 Q1.U]), (22, .pointer (some ⟨p, 0, none⟩)), (23, .int .i64 Q1.bads), (24, .int .i64 Q1.floor), (25, .bool false)] [11, 12, 13, 14, 15, 16, 17, 18, 19, 20, 21, 22, 23, 24, 25] rfl (by kernel_rfl) (by kernel_rfl) hde hsz (List.forall_mem_cons.2 ⟨(show a.tmps.getD 11 undef = .pointer (some ⟨p, 0, none⟩) from (hφ 0 (by kernel_rfl))), (List.forall_mem_cons.2 ⟨(show a.tmps.getD 12 undef = .pointer (some ⟨p, 0, none⟩) from (hφ 1 (by kernel_rfl))), (List.forall_mem_cons.2 ⟨(show a.tmps.getD 13 undef = .pointer (some ⟨p, 0, none⟩) from (hφ 2 (by kernel_rfl))), (List.forall_mem_cons.2 ⟨(show a.tmps.getD 14 undef = .pointer (some ⟨c, 0, none⟩) from (hφ 3 (by kernel_rfl))), (List.forall_mem_cons.2 ⟨(show a.tmps.getD 15 undef = .slice (some ⟨g_4, 0, none⟩) Q1.S.bl.length cap_4 from hv_4), (List.forall_mem_cons.2 ⟨(show a.tmps.getD 16 undef = .slice A2_5 (cleansB Q1.S.bl).length m2_5 from hv_5), (List.forall_mem_cons.2 ⟨(show a.tmps.getD 17 undef = .int .i64 ((cleansB Q1.S.bl).length : Int) from (hφ 6 (by kernel_rfl))), (List.forall_mem_cons.2 ⟨(show a.tmps.getD 18 undef = .pointer (some ⟨p, 0, none⟩) from (hφ 7 (by kernel_rfl))), (List.forall_mem_cons.2 ⟨(show a.tmps.getD 19 undef = .pointer (some ⟨p, 0, none⟩) from (hφ 8 (by kernel_rfl))), (List.forall_mem_cons.2 ⟨(show a.tmps.getD 20 undef = .pointer (some ⟨p, 1, none⟩) from (hφ 9 (by kernel_rfl))), (List.forall_mem_cons.2 ⟨(show a.tmps.getD 21 undef = .agg #[.int .i64 Q1.B, .int .i64 Q1.P, .int .i64 Q1.Sp, .int .i64 Q1.K, .int .i64 Q1.U] from (hφ 10 (by kernel_rfl))), (List.forall_mem_cons.2 ⟨(show a.tmps.getD 22 undef = .pointer (some ⟨p, 0, none⟩) from (hφ 11 (by kernel_rfl))), (List.forall_mem_cons.2 ⟨(show a.tmps.getD 23 undef = .int .i64 Q1.bads from (hφ 12 (by kernel_rfl))), (List.forall_mem_cons.2 ⟨(show a.tmps.getD 24 undef = .int .i64 Q1.floor from (hφ 13 (by kernel_rfl))), (List.forall_mem_cons.2 ⟨(show a.tmps.getD 25 undef = .bool false from (hφ 14 (by kernel_rfl))), (fun _ h => absurd h (by simp))⟩)⟩)⟩)⟩)⟩)⟩)⟩)⟩)⟩)⟩)⟩)⟩)⟩)⟩)⟩) hold
              clear hφ hold hsz hde hv_4 hv_5
              simp only [putAll]
              go_frame
              by_cases he : e1 = 0
              · have HM2 : Hid (PS.beginLoop n k1 Q2 = some (er, Q')) := Lib.hid (by have := HM3.out; rw [if_pos he] at this; exact this)
                subst he
                clear HM3
                go_wp2_with (go_at_call 148; (with_reducible refine (q_empty n (HQ1.out.below hG) HO1.out HR.out).mono ?_); rintro e w7 ⟨rfl, h7, hs7⟩; have HP7 := Lib.hid h7; have HS7 := Lib.hid hs7; clear h7 hs7)
                go_roundg k1
                case measure => omega
                case rel => exact ⟨Q2, HP7.out, HO2.out, HM2.out, (HS1.out.then (safe_of_below hG)).then HS7.out⟩
              · have HE : Hid (er = e1 ∧ Q' = Q2) := Lib.hid (by have hM := HM3.out; rw [if_neg he] at hM; simp at hM; exact ⟨hM.1.symm, hM.2.symm⟩)
                clear HM3
                go_wp2_with (go_at_call 148; (with_reducible refine (q_empty n (HQ1.out.below hG) HO1.out HR.out).mono ?_); rintro e w7 ⟨rfl, h7, hs7⟩; have HP7 := Lib.hid h7; have HS7 := Lib.hid hs7; clear h7 hs7)
                go_ret
                rw [HE.out.1, HE.out.2]
                exact ⟨rfl, HP7.out, (HS1.out.then (safe_of_below hG)).then HS7.out⟩
end
end Go.Proofs.YtnadcdgpfopcaaaGreat
