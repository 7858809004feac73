/- A pool: sheet, Put (written by poput.py). -/
import Derived.Test.YtnadcdgpfopcaaaGreatPoF2
namespace Go.Proofs.YtnadcdgpfopcaaaGreat
open Go.RowKit

section
variable {w w' V : World} {p c l f : Nat} {x y X Y Z : Nat → Prop} {Q Q1 : PS} {T : List Fd}
/-- A sheet's bytes, and whether it may be, as a pool asks. -/
def PS.sheetB (Q : PS) (page : Int) (d : List UInt8) : List UInt8 := if MayS page (Q.seq + 1) d then sheetL page.toNat (Q.seq + 1).toNat d else []
def PS.sheetE (Q : PS) (page : Int) (d : List UInt8) : Int := if MayS page (Q.seq + 1) d then 0 else 1
set_option maxRecDepth 100000 in
set_option maxHeartbeats 1000000 in
theorem q_sheet (page : Int) (A : Option Addr) (m : Nat) (d : List UInt8) (h : Parts w p c l f Q) (ok : Ok Q) (hd : RB w w.heap.size A d) : Calls Tryz.prog 53 #[.pointer (some ⟨p, 0, none⟩), .int .i64 page, .slice A d.length m] w fun e w' => ∃ A1 c1 L1, e = .returned (.tuple #[.slice A1 L1.length c1, .int .i64 (Q.sheetE page d)]) ∧ Hid (L1 = Q.sheetB page d) ∧ CB w' (New w w') A1 L1 ∧ Below w.heap.size w w' := by
  have c9 := h.c9
  have HWS : IntKind.i64.wrap (Q.seq + 1) = Q.seq + 1 := i64w_id _ (by have := ok.seq; omega)
  have HD := Lib.hid hd
  clear h ok hd
  go_enter Tryz.func53, Tryz.ntmps53
  go_wp2_with (go_at_call 87; (with_reducible refine (bytes_any _ page (Q.seq + 1) A m d _ HD.out (Nat.le_refl _)).mono ?_); rintro e w2 ⟨A1, c1, L1, er, rfl, hL, her, -, hr, hn, hb2⟩; have HE := Lib.hid her; have HR := Lib.hid hr; have HN := Lib.hid hn; have HB2 := Lib.hid hb2; clear her hr hn hb2)
  go_ret2
  refine ⟨A1, c1, L1, by rw [HE.out]; rfl, hL, fun h0 => ?_, HB2.out⟩
  obtain ⟨ad, e, hlt, hc⟩ := HR.out h0
  exact ⟨ad, e, ⟨HN.out ad e, hlt⟩, hc⟩
instance (a : P2) : Decidable (WfP a) := inferInstanceAs (Decidable (_ ∧ _))
def PS.put (n : Nat) (Q : PS) (page : Int) (d : List UInt8) : Option (Int × P2 × PS) :=
  if page = 0 then some (1, (0, 0), Q)
  else if ¬ MayS page (Q.seq + 1) d then some (1, (0, 0), Q)
  else if Q.K + 6 ≤ ((Q.L.length + Q.F.length : Nat) : Int) then some (18, (0, 0), Q)
  else match Q.give n page (sheetL page.toNat (Q.seq + 1).toNat d) with
    | none => none
    | some (er, fd, Q1) =>
      if er = 0 then (if WfP fd.1 ∧ WfP fd.2 ∧ (putT Q1.F fd.1 fd.2).length ≤ 200 then some (0, fd.1, { Q1 with F := putT Q1.F fd.1 fd.2 }) else none)
      else some (er, (0, 0), Q1)
theorem PoolAt.putF2 (r s : P2) (h1 : PoolAt w p c l f X Y Z Q) (h2 : ∀ b, x b → b < w.heap.size ∧ ¬ X b ∧ ¬ Y b ∧ ¬ Z b ∧ b ≠ p) (hl : Q.F.length ≤ 1000) (hr : WfP r) (hs : WfP s) : Calls Tryz.prog 56 #[.pointer (some ⟨f, 0, none⟩), P2V r, P2V s] w fun e w' => e = .returned (.bool (canT Q.F r s)) ∧ Pool w' p c x { Q with F := putT Q.F r s } ∧ Safe x w w' ∧ w'.heap[p]? = w.heap[p]? := by
  refine (putT_any r s h1.fresh hl hr hs).mono ?_
  rintro e w' ⟨rfl, k1, k2⟩
  have h0 := lt_size h1.self
  have k3 := h1.fresh_op h2 k1 k2
  exact ⟨rfl, k3.1, k3.2, k2.block h0 ⟨h0, fun k => (h1.zp p k).1 rfl⟩⟩
theorem give_len {n : Nat} {page : Int} {b : List UInt8} {er : Int} {fd : Fd} {Q' : PS} (h : Ok Q) (hs : Q.seq + 1 ≤ 1099511627776) (hm : Q.give n page b = some (er, fd, Q')) : Q'.F.length ≤ 1000 := by have := (h.give hs hm).tabs; omega
theorem Ok.put {n : Nat} {page : Int} {d : List UInt8} {er : Int} {r : P2} {Q' : PS} (h : Ok Q) (hm : Q.put n page d = some (er, r, Q')) : Ok Q' := by
  unfold PS.put at hm
  split at hm
  · cases hm; exact h
  · split at hm
    · cases hm; exact h
    · next h2 =>
      have h3 : MayS page (Q.seq + 1) d := Classical.not_not.1 h2
      split at hm
      · cases hm; exact h
      · split at hm
        · cases hm
        · next h1 =>
          have h4 := h.give h3.2.1.2 h1
          split at hm
          · split at hm
            · next h5 => cases hm; exact { h4 with tabs := ⟨h4.tabs.1, h5.2.2⟩ }
            · cases hm
          · cases hm; exact h4
set_option maxRecDepth 100000 in
set_option maxHeartbeats 6000000 in
theorem q_put (n : Nat) (page : Int) (A : Option Addr) (m : Nat) (d : List UInt8) {er : Int} {r : P2} {Q' : PS} (h : Pool w p c x Q) (ok : Ok Q) (hd : RB w w.heap.size A d) (hm : Q.put n page d = some (er, r, Q')) : Calls Tryz.prog 25 #[.pointer (some ⟨p, 0, none⟩), .int .i64 page, .slice A d.length m] w fun e w' => e = .returned (.tuple #[P2V r, .int .i64 er]) ∧ Pool w' p c x Q' ∧ Safe x w w' := by
  have HX := Lib.hid h.there
  obtain ⟨W, hW⟩ : ∃ W, w.alloc (.cells #[.int .i64 0, .int .i64 0] 33) = W := ⟨_, rfl⟩
  have HBW : Hid (Below w.heap.size w W) := Lib.hid (by rw [← hW]; exact (Below.refl _ _).alloc (Nat.le_refl _) _)
  have HRB : Hid (W.heap[w.heap.size]? = some (.cells #[.int .i64 0, .int .i64 0] 33 (0, 0))) := Lib.hid (by rw [← hW]; exact heap_alloc_new _ _)
  have hrlt := lt_size HRB.out
  have HPW : Hid (Pool W p c (fun b => x b ∨ b = w.heap.size) Q) := Lib.hid ((h.more HBW.out).less fun b k => k.imp id fun e => ⟨by omega, by omega⟩)
  obtain ⟨l0, f0, hpt0⟩ := HPW.out.parts
  have HTW := Lib.hid hpt0
  have HDW : Hid (RB W W.heap.size A d) := Lib.hid ((hd.below HBW.out (Nat.le_refl _)).mono HBW.out.size)
  have HO := Lib.hid ok
  have HRR : Hid (∀ V, Safe (fun b => x b ∨ b = w.heap.size) W V → V.heap[w.heap.size]? = some (.cells #[.int .i64 0, .int .i64 0] 33 (0, 0))) := Lib.hid fun V hV => (hV.block hrlt (.inr rfl)).trans HRB.out
  unfold PS.put at hm
  clear h ok hd hpt0
  by_cases h1 : page = 0
  · rw [if_pos h1] at hm
    have HE : Hid (er = 1 ∧ r = (0, 0) ∧ Q' = Q) := Lib.hid (by have := Option.some.inj hm; exact ⟨(congrArg (fun z : Int × P2 × PS => z.1) this).symm, (congrArg (fun z : Int × P2 × PS => z.2.1) this).symm, (congrArg (fun z : Int × P2 × PS => z.2.2) this).symm⟩)
    subst h1
    clear hm
    go_enter Tryz.func25, Tryz.ntmps25
    go_upto_region 2 with (go_at_call 52; (with_reducible refine (q_is HTW.out).mono ?_); rintro e w1 ⟨rfl, hw1⟩; subst hw1)
    obtain ⟨f0, f1, fr0, fr1⟩ := cells2q (HRR.out W (show Safe (fun b => x b ∨ b = w.heap.size) W W from .refl _ _))
    obtain ⟨m0, m1, -, -⟩ := cells2q (two_set (HRR.out W (show Safe (fun b => x b ∨ b = w.heap.size) W W from .refl _ _)) (.int .i64 0) (.int .i64 0))
    clear hW
    go_wp2_with fail
    refine bodyPost_ret (by simp [results, Tryz.results25, go_sem, m0, m1]; try rfl) rfl ?_
    rw [HE.out.1, HE.out.2.1, HE.out.2.2]
    exact ⟨rfl, ((HPW.out).two (.inr rfl) _ _).less fun b k => .inl k, safe_two ((safe_of_below HBW.out).then' (show Safe (fun b => x b ∨ b = w.heap.size) W W from .refl _ _) fun _ _ k => .inl k) (Nat.le_refl _) _ _⟩
  · rw [if_neg h1] at hm
    by_cases h2 : MayS page (Q.seq + 1) d
    case neg =>
      rw [if_pos h2] at hm
      have HE : Hid (er = 1 ∧ r = (0, 0) ∧ Q' = Q) := Lib.hid (by have := Option.some.inj hm; exact ⟨(congrArg (fun z : Int × P2 × PS => z.1) this).symm, (congrArg (fun z : Int × P2 × PS => z.2.1) this).symm, (congrArg (fun z : Int × P2 × PS => z.2.2) this).symm⟩)
      have HSE : Hid (Q.sheetE page d = 1) := Lib.hid (if_neg h2)
      clear hm h2
      go_enter Tryz.func25, Tryz.ntmps25
      go_upto_region 5 with (first | (go_at_call 52; (with_reducible refine (q_is HTW.out).mono ?_); rintro e w1 ⟨rfl, hw1⟩; subst hw1) | (go_at_call 53; (with_reducible refine (q_sheet page A m d HTW.out HO.out HDW.out).mono ?_); rintro e w2 ⟨A2, c2, L2, rfl, hL2, hc2, hb2⟩; rw [HSE.out]; have HC2 := Lib.hid hc2; have HB2 := Lib.hid hb2; clear hc2 hb2))
      obtain ⟨f0, f1, fr0, fr1⟩ := cells2q (HRR.out w2 (show Safe (fun b => x b ∨ b = w.heap.size) W w2 from safe_of_below HB2.out))
      obtain ⟨m0, m1, -, -⟩ := cells2q (two_set (HRR.out w2 (show Safe (fun b => x b ∨ b = w.heap.size) W w2 from safe_of_below HB2.out)) (.int .i64 0) (.int .i64 0))
      clear hW
      go_wp2_with fail
      refine bodyPost_ret (by simp [results, Tryz.results25, go_sem, m0, m1]; try rfl) rfl ?_
      rw [HE.out.1, HE.out.2.1, HE.out.2.2]
      exact ⟨rfl, ((HPW.out.below HB2.out).two (.inr rfl) _ _).less fun b k => .inl k, safe_two ((safe_of_below HBW.out).then' (show Safe (fun b => x b ∨ b = w.heap.size) W w2 from safe_of_below HB2.out) fun _ _ k => .inl k) (Nat.le_refl _) _ _⟩
    case pos =>
      rw [if_neg (fun k => k h2)] at hm
      have HSE : Hid (Q.sheetE page d = 0) := Lib.hid (if_pos h2)
      have HSB : Hid (Q.sheetB page d = sheetL page.toNat (Q.seq + 1).toNat d) := Lib.hid (if_pos h2)
      have HSQ := Lib.hid h2.2.1.2
      have HLL : Hid (Q.L.length ≤ 1000 ∧ Q.F.length ≤ 1000) := Lib.hid (by have := HO.out.tabs; omega)
      have HWL : Hid (IntKind.i64.wrap ((Q.L.length : Int) + (Q.F.length : Int)) = (Q.L.length : Int) + (Q.F.length : Int)) := Lib.hid (i64w_id _ (by have := HO.out.tabs; omega))
      have HWK : Hid (IntKind.i64.wrap (Q.K + 1) = Q.K + 1 ∧ IntKind.i64.wrap (Q.K + 1 + 5) = Q.K + 6) := Lib.hid (by have := HO.out.may.2.2.2.1; exact ⟨i64w_id _ (by omega), (i64w_id _ (by omega)).trans (by omega)⟩)
      clear h2
      by_cases h3 : Q.K + 6 ≤ ((Q.L.length + Q.F.length : Nat) : Int)
      · rw [if_pos h3] at hm
        have HE : Hid (er = 18 ∧ r = (0, 0) ∧ Q' = Q) := Lib.hid (by have := Option.some.inj hm; exact ⟨(congrArg (fun z : Int × P2 × PS => z.1) this).symm, (congrArg (fun z : Int × P2 × PS => z.2.1) this).symm, (congrArg (fun z : Int × P2 × PS => z.2.2) this).symm⟩)
        have HGE : Hid (Q.K + 6 ≤ (Q.L.length : Int) + (Q.F.length : Int)) := Lib.hid (by omega)
        clear hm h3
        go_enter Tryz.func25, Tryz.ntmps25
        go_upto_region 6 with (first | (go_at_call 52; (with_reducible refine (q_is HTW.out).mono ?_); rintro e w1 ⟨rfl, hw1⟩; subst hw1) | (go_at_call 53; (with_reducible refine (q_sheet page A m d HTW.out HO.out HDW.out).mono ?_); rintro e w2 ⟨A2, c2, L2, rfl, hL2, hc2, hb2⟩; rw [HSE.out]; have HC2 := Lib.hid hc2; have HB2 := Lib.hid hb2; clear hc2 hb2))
        have HT2 := Lib.hid (HTW.out.below HB2.out)
        have HS2 : Hid (Safe (fun b => x b ∨ b = w.heap.size) W w2) := Lib.hid (safe_of_below HB2.out)
        refine region_st (fun j v w' => match j with | 0 => v = .pointer (some ⟨p, 0, none⟩) | 1 => v = .pointer (some ⟨p, 0, none⟩) | 2 => v = .pointer (some ⟨p, 7, none⟩) | 3 => v = .pointer (some ⟨l0, 0, none⟩) | 4 => v = .int .i64 (Q.L.length : Int) | 5 => v = .pointer (some ⟨p, 0, none⟩) | 6 => v = .pointer (some ⟨p, 0, none⟩) | 7 => v = .pointer (some ⟨p, 8, none⟩) | 8 => v = .pointer (some ⟨f0, 0, none⟩) | 9 => v = .int .i64 (Q.F.length : Int) | 10 => v = .int .i64 ((Q.L.length : Int) + (Q.F.length : Int)) | 11 => v = .pointer (some ⟨p, 0, none⟩) | 12 => v = .pointer (some ⟨p, 0, none⟩) | 13 => v = .pointer (some ⟨p, 1, none⟩) | 14 => v = .pointer (some ⟨p, 4, none⟩) | 15 => v = .int .i64 Q.K | 16 => v = .int .i64 (Q.K + 1) | 17 => v = .int .i64 (Q.K + 6) | 18 => v = .bool true | _ => True) (fun _ w' => Below w2.heap.size w2 w') (fun w1 w2 => Below w1.heap.size w1 w2) (by kernel_rfl) (by kernel_rfl) (by kernel_rfl) ?hR ?hG ?hops ?hend
        case hR =>
          intro j v w1 w2 hv hb
          match j, hv with
          | 0, hv => exact hv
          | 1, hv => exact hv
          | 2, hv => exact hv
          | 3, hv => exact hv
          | 4, hv => exact hv
          | 5, hv => exact hv
          | 6, hv => exact hv
          | 7, hv => exact hv
          | 8, hv => exact hv
          | 9, hv => exact hv
          | 10, hv => exact hv
          | 11, hv => exact hv
          | 12, hv => exact hv
          | 13, hv => exact hv
          | 14, hv => exact hv
          | 15, hv => exact hv
          | 16, hv => exact hv
          | 17, hv => exact hv
          | 18, hv => exact hv
          | _ + 19, _ => exact trivial
        case hG => exact (Below.refl _ _).drew
        case hops =>
          refine OpsOkS.cons ?o0 (OpsOkS.cons ?o1 (OpsOkS.cons ?o2 (OpsOkS.cons ?o3 (OpsOkS.cons ?o4 (OpsOkS.cons ?o5 (OpsOkS.cons ?o6 (OpsOkS.cons ?o7 (OpsOkS.cons ?o8 (OpsOkS.cons ?o9 (OpsOkS.cons ?o10 (OpsOkS.cons ?o11 (OpsOkS.cons ?o12 (OpsOkS.cons ?o13 (OpsOkS.cons ?o14 (OpsOkS.cons ?o15 (OpsOkS.cons ?o16 (OpsOkS.cons ?o17 (OpsOkS.cons ?o18 OpsOkS.nil))))))))))))))))))
          case o0 =>
            intro a w1 Kx hG need old hsz fresh hKx
            have e0 : a.tmps[0]?.getD undef = .pointer (some ⟨p, 0, none⟩) := by rw [← Array.getD_eq_getD_getElem?]; exact old 0 (by kernel_rfl)
            refine op_value (v := .pointer (some ⟨p, 0, none⟩)) (wanted_none rfl) ?_ (hKx _ w1 rfl hG (Below.refl _ _))
            simp [execOp, go_sem, e0]
          case o1 =>
            intro a w1 Kx hG need old hsz fresh hKx
            have e0 : a.tmps[30]?.getD undef = .pointer (some ⟨p, 0, none⟩) := by rw [← Array.getD_eq_getD_getElem?]; exact (need 0 (by kernel_rfl) (by kernel_rfl))
            refine op_value (v := .pointer (some ⟨p, 0, none⟩)) (wanted_none rfl) ?_ (hKx _ w1 rfl hG (Below.refl _ _))
            simp [execOp, go_sem, e0]
          case o2 =>
            intro a w1 Kx hG need old hsz fresh hKx
            have e0 : a.tmps[31]?.getD undef = .pointer (some ⟨p, 0, none⟩) := by rw [← Array.getD_eq_getD_getElem?]; exact (need 1 (by kernel_rfl) (by kernel_rfl))
            refine op_value (v := .pointer (some ⟨p, 7, none⟩)) (wanted_none rfl) ?_ (hKx _ w1 rfl hG (Below.refl _ _))
            simp [execOp, go_sem, e0]
          case o3 =>
            intro a w1 Kx hG need old hsz fresh hKx
            have e0 : a.tmps[32]?.getD undef = .pointer (some ⟨p, 7, none⟩) := by rw [← Array.getD_eq_getD_getElem?]; exact (need 2 (by kernel_rfl) (by kernel_rfl))
            have k0 := (hG.cell (p := ⟨p, 7, none⟩) HT2.out.lt).trans HT2.out.c7
            refine op_value (v := .pointer (some ⟨l0, 0, none⟩)) (wanted_none rfl) ?_ (hKx _ w1 rfl hG (Below.refl _ _))
            simp [execOp, go_sem, e0, k0]
          case o4 =>
            intro a w1 Kx hG need old hsz fresh hKx
            have e0 : a.tmps[33]?.getD undef = .pointer (some ⟨l0, 0, none⟩) := by rw [← Array.getD_eq_getD_getElem?]; exact (need 3 (by kernel_rfl) (by kernel_rfl))
            refine op_call (wanted_none rfl) (f := 54) (args := #[.pointer (some ⟨l0, 0, none⟩)]) ?run ((lenT_any (HT2.out.live.below hG) HLL.out.1).mono ?post)
            case run => simp [go_sem, e0]
            case post =>
              rintro e w2 ⟨rfl, hb2⟩
              exact ⟨_, rfl, hKx _ w2 rfl (hG.trans (hb2.mono hG.size)) hb2⟩
          case o5 =>
            intro a w1 Kx hG need old hsz fresh hKx
            have e0 : a.tmps[0]?.getD undef = .pointer (some ⟨p, 0, none⟩) := by rw [← Array.getD_eq_getD_getElem?]; exact old 0 (by kernel_rfl)
            refine op_value (v := .pointer (some ⟨p, 0, none⟩)) (wanted_none rfl) ?_ (hKx _ w1 rfl hG (Below.refl _ _))
            simp [execOp, go_sem, e0]
          case o6 =>
            intro a w1 Kx hG need old hsz fresh hKx
            have e0 : a.tmps[35]?.getD undef = .pointer (some ⟨p, 0, none⟩) := by rw [← Array.getD_eq_getD_getElem?]; exact (need 5 (by kernel_rfl) (by kernel_rfl))
            refine op_value (v := .pointer (some ⟨p, 0, none⟩)) (wanted_none rfl) ?_ (hKx _ w1 rfl hG (Below.refl _ _))
            simp [execOp, go_sem, e0]
          case o7 =>
            intro a w1 Kx hG need old hsz fresh hKx
            have e0 : a.tmps[36]?.getD undef = .pointer (some ⟨p, 0, none⟩) := by rw [← Array.getD_eq_getD_getElem?]; exact (need 6 (by kernel_rfl) (by kernel_rfl))
            refine op_value (v := .pointer (some ⟨p, 8, none⟩)) (wanted_none rfl) ?_ (hKx _ w1 rfl hG (Below.refl _ _))
            simp [execOp, go_sem, e0]
          case o8 =>
            intro a w1 Kx hG need old hsz fresh hKx
            have e0 : a.tmps[37]?.getD undef = .pointer (some ⟨p, 8, none⟩) := by rw [← Array.getD_eq_getD_getElem?]; exact (need 7 (by kernel_rfl) (by kernel_rfl))
            have k0 := (hG.cell (p := ⟨p, 8, none⟩) HT2.out.lt).trans HT2.out.c8
            refine op_value (v := .pointer (some ⟨f0, 0, none⟩)) (wanted_none rfl) ?_ (hKx _ w1 rfl hG (Below.refl _ _))
            simp [execOp, go_sem, e0, k0]
          case o9 =>
            intro a w1 Kx hG need old hsz fresh hKx
            have e0 : a.tmps[38]?.getD undef = .pointer (some ⟨f0, 0, none⟩) := by rw [← Array.getD_eq_getD_getElem?]; exact (need 8 (by kernel_rfl) (by kernel_rfl))
            refine op_call (wanted_none rfl) (f := 54) (args := #[.pointer (some ⟨f0, 0, none⟩)]) ?run ((lenT_any (HT2.out.fresh.below hG) HLL.out.2).mono ?post)
            case run => simp [go_sem, e0]
            case post =>
              rintro e w2 ⟨rfl, hb2⟩
              exact ⟨_, rfl, hKx _ w2 rfl (hG.trans (hb2.mono hG.size)) hb2⟩
          case o10 =>
            intro a w1 Kx hG need old hsz fresh hKx
            have e0 : a.tmps[34]?.getD undef = .int .i64 (Q.L.length : Int) := by rw [← Array.getD_eq_getD_getElem?]; exact (need 4 (by kernel_rfl) (by kernel_rfl))
            have e1 : a.tmps[39]?.getD undef = .int .i64 (Q.F.length : Int) := by rw [← Array.getD_eq_getD_getElem?]; exact (need 9 (by kernel_rfl) (by kernel_rfl))
            refine op_value (v := .int .i64 ((Q.L.length : Int) + (Q.F.length : Int))) (wanted_none rfl) ?_ (hKx _ w1 rfl hG (Below.refl _ _))
            simp [execOp, go_sem, e0, e1, HWL.out]
          case o11 =>
            intro a w1 Kx hG need old hsz fresh hKx
            have e0 : a.tmps[0]?.getD undef = .pointer (some ⟨p, 0, none⟩) := by rw [← Array.getD_eq_getD_getElem?]; exact old 0 (by kernel_rfl)
            refine op_value (v := .pointer (some ⟨p, 0, none⟩)) (wanted_none rfl) ?_ (hKx _ w1 rfl hG (Below.refl _ _))
            simp [execOp, go_sem, e0]
          case o12 =>
            intro a w1 Kx hG need old hsz fresh hKx
            have e0 : a.tmps[41]?.getD undef = .pointer (some ⟨p, 0, none⟩) := by rw [← Array.getD_eq_getD_getElem?]; exact (need 11 (by kernel_rfl) (by kernel_rfl))
            refine op_value (v := .pointer (some ⟨p, 0, none⟩)) (wanted_none rfl) ?_ (hKx _ w1 rfl hG (Below.refl _ _))
            simp [execOp, go_sem, e0]
          case o13 =>
            intro a w1 Kx hG need old hsz fresh hKx
            have e0 : a.tmps[42]?.getD undef = .pointer (some ⟨p, 0, none⟩) := by rw [← Array.getD_eq_getD_getElem?]; exact (need 12 (by kernel_rfl) (by kernel_rfl))
            refine op_value (v := .pointer (some ⟨p, 1, none⟩)) (wanted_none rfl) ?_ (hKx _ w1 rfl hG (Below.refl _ _))
            simp [execOp, go_sem, e0]
          case o14 =>
            intro a w1 Kx hG need old hsz fresh hKx
            have e0 : a.tmps[43]?.getD undef = .pointer (some ⟨p, 1, none⟩) := by rw [← Array.getD_eq_getD_getElem?]; exact (need 13 (by kernel_rfl) (by kernel_rfl))
            refine op_value (v := .pointer (some ⟨p, 4, none⟩)) (wanted_none rfl) ?_ (hKx _ w1 rfl hG (Below.refl _ _))
            simp [execOp, go_sem, e0]
          case o15 =>
            intro a w1 Kx hG need old hsz fresh hKx
            have e0 : a.tmps[44]?.getD undef = .pointer (some ⟨p, 4, none⟩) := by rw [← Array.getD_eq_getD_getElem?]; exact (need 14 (by kernel_rfl) (by kernel_rfl))
            have k0 := (hG.cell (p := ⟨p, 4, none⟩) HT2.out.lt).trans HT2.out.c4
            refine op_value (v := .int .i64 Q.K) (wanted_none rfl) ?_ (hKx _ w1 rfl hG (Below.refl _ _))
            simp [execOp, go_sem, e0, k0]
          case o16 =>
            intro a w1 Kx hG need old hsz fresh hKx
            have e0 : a.tmps[45]?.getD undef = .int .i64 Q.K := by rw [← Array.getD_eq_getD_getElem?]; exact (need 15 (by kernel_rfl) (by kernel_rfl))
            refine op_value (v := .int .i64 (Q.K + 1)) (wanted_none rfl) ?_ (hKx _ w1 rfl hG (Below.refl _ _))
            simp [execOp, go_sem, e0, HWK.out.1]
          case o17 =>
            intro a w1 Kx hG need old hsz fresh hKx
            have e0 : a.tmps[46]?.getD undef = .int .i64 (Q.K + 1) := by rw [← Array.getD_eq_getD_getElem?]; exact (need 16 (by kernel_rfl) (by kernel_rfl))
            refine op_value (v := .int .i64 (Q.K + 6)) (wanted_none rfl) ?_ (hKx _ w1 rfl hG (Below.refl _ _))
            simp [execOp, go_sem, e0, HWK.out.2]
          case o18 =>
            intro a w1 Kx hG need old hsz fresh hKx
            have e0 : a.tmps[40]?.getD undef = .int .i64 ((Q.L.length : Int) + (Q.F.length : Int)) := by rw [← Array.getD_eq_getD_getElem?]; exact (need 10 (by kernel_rfl) (by kernel_rfl))
            have e1 : a.tmps[47]?.getD undef = .int .i64 (Q.K + 6) := by rw [← Array.getD_eq_getD_getElem?]; exact (need 17 (by kernel_rfl) (by kernel_rfl))
            refine op_value (v := .bool true) (wanted_none rfl) ?_ (hKx _ w1 rfl hG (Below.refl _ _))
            simp [execOp, go_sem, e0, e1]; have := HGE.out; omega
        case hend =>
          intro a w6 hG hde hsz hφ hold
          obtain rfl := act_puts [(30, .pointer (some ⟨p, 0, none⟩)), (31, .pointer (some ⟨p, 0, none⟩)), (32, .pointer (some ⟨p, 7, none⟩)), (33, .pointer (some ⟨l0, 0, none⟩)), (34, .int .i64 (Q.L.length : Int)), (35, .pointer (some ⟨p, 0, none⟩)), (36, .pointer (some ⟨p, 0, none⟩)), (37, .pointer (some ⟨p, 8, none⟩)), (38, .pointer (some ⟨f0, 0, none⟩)), (39, .int .i64 (Q.F.length : Int)), (40, .int .i64 ((Q.L.length : Int) + (Q.F.length : Int))), (41, .pointer (some ⟨p, 0, none⟩)), (42, .pointer (some ⟨p, 0, none⟩)), (43, .pointer (some ⟨p, 1, none⟩)), (44, .pointer (some ⟨p, 4, none⟩)), (45, .int .i64 Q.K), (46, .int .i64 (Q.K + 1)), (47, .int .i64 (Q.K + 6)), (48, .bool true)] [30, 31, 32, 33, 34, 35, 36, 37, 38, 39, 40, 41, 42, 43, 44, 45, 46, 47, 48] rfl (by kernel_rfl) (by kernel_rfl) hde hsz (List.forall_mem_cons.2 ⟨(show a.tmps.getD 30 undef = .pointer (some ⟨p, 0, none⟩) from (hφ 0 (by kernel_rfl))), (List.forall_mem_cons.2 ⟨(show a.tmps.getD 31 undef = .pointer (some ⟨p, 0, none⟩) from (hφ 1 (by kernel_rfl))), (List.forall_mem_cons.2 ⟨(show a.tmps.getD 32 undef = .pointer (some ⟨p, 7, none⟩) from (hφ 2 (by kernel_rfl))), (List.forall_mem_cons.2 ⟨(show a.tmps.getD 33 undef = .pointer (some ⟨l0, 0, none⟩) from (hφ 3 (by kernel_rfl))), (List.forall_mem_cons.2 ⟨(show a.tmps.getD 34 undef = .int .i64 (Q.L.length : Int) from (hφ 4 (by kernel_rfl))), (List.forall_mem_cons.2 ⟨(show a.tmps.getD 35 undef = .pointer (some ⟨p, 0, none⟩) from (hφ 5 (by kernel_rfl))), (List.forall_mem_cons.2 ⟨(show a.tmps.getD 36 undef = .pointer (some ⟨p, 0, none⟩) from (hφ 6 (by kernel_rfl))), (List.forall_mem_cons.2 ⟨(show a.tmps.getD 37 undef = .pointer (some ⟨p, 8, none⟩) from (hφ 7 (by kernel_rfl))), (List.forall_mem_cons.2 ⟨(show a.tmps.getD 38 undef = .pointer (some ⟨f0, 0, none⟩) from (hφ 8 (by kernel_rfl))), (List.forall_mem_cons.2 ⟨(show a.tmps.getD 39 undef = .int .i64 (Q.F.length : Int) from (hφ 9 (by kernel_rfl))), (List.forall_mem_cons.2 ⟨(show a.tmps.getD 40 undef = .int .i64 ((Q.L.length : Int) + (Q.F.length : Int)) from (hφ 10 (by kernel_rfl))), (List.forall_mem_cons.2 ⟨(show a.tmps.getD 41 undef = .pointer (some ⟨p, 0, none⟩) from (hφ 11 (by kernel_rfl))), (List.forall_mem_cons.2 ⟨(show a.tmps.getD 42 undef = .pointer (some ⟨p, 0, none⟩) from (hφ 12 (by kernel_rfl))), (List.forall_mem_cons.2 ⟨(show a.tmps.getD 43 undef = .pointer (some ⟨p, 1, none⟩) from (hφ 13 (by kernel_rfl))), (List.forall_mem_cons.2 ⟨(show a.tmps.getD 44 undef = .pointer (some ⟨p, 4, none⟩) from (hφ 14 (by kernel_rfl))), (List.forall_mem_cons.2 ⟨(show a.tmps.getD 45 undef = .int .i64 Q.K from (hφ 15 (by kernel_rfl))), (List.forall_mem_cons.2 ⟨(show a.tmps.getD 46 undef = .int .i64 (Q.K + 1) from (hφ 16 (by kernel_rfl))), (List.forall_mem_cons.2 ⟨(show a.tmps.getD 47 undef = .int .i64 (Q.K + 6) from (hφ 17 (by kernel_rfl))), (List.forall_mem_cons.2 ⟨(show a.tmps.getD 48 undef = .bool true from (hφ 18 (by kernel_rfl))), (fun _ h => absurd h (by simp))⟩)⟩)⟩)⟩)⟩)⟩)⟩)⟩)⟩)⟩)⟩)⟩)⟩)⟩)⟩)⟩)⟩)⟩)⟩) hold
          clear hφ hold hsz hde
          simp only [putAll]
          go_frame
          clear hW
          have HS6 : Hid (Safe (fun b => x b ∨ b = w.heap.size) W w6) := Lib.hid (HS2.out.then (safe_of_below hG))
          obtain ⟨f0, f1, fr0, fr1⟩ := cells2q (HRR.out w6 HS6.out)
          obtain ⟨m0, m1, -, -⟩ := cells2q (two_set (HRR.out w6 HS6.out) (.int .i64 0) (.int .i64 0))
          go_wp2_with fail
          refine bodyPost_ret (by simp [results, Tryz.results25, go_sem, m0, m1]; try rfl) rfl ?_
          rw [HE.out.1, HE.out.2.1, HE.out.2.2]
          exact ⟨rfl, (((HPW.out.below HB2.out).below hG).two (.inr rfl) _ _).less fun b k => .inl k, safe_two ((safe_of_below HBW.out).then' HS6.out fun _ _ k => .inl k) (Nat.le_refl _) _ _⟩
      · rw [if_neg h3] at hm
        have HGE : Hid (¬ Q.K + 6 ≤ (Q.L.length : Int) + (Q.F.length : Int)) := Lib.hid (by omega)
        clear h3
        cases hg : Q.give n page (sheetL page.toNat (Q.seq + 1).toNat d) with
        | none => rw [hg] at hm; cases hm
        | some R =>
          obtain ⟨e1, fd, Q1⟩ := R
          rw [hg] at hm
          simp only at hm
          have HG := Lib.hid hg
          have HL1 := Lib.hid (give_len HO.out HSQ.out hg)
          have HM := Lib.hid hm
          clear hm hg
          go_enter Tryz.func25, Tryz.ntmps25
          go_upto_region 6 with (first | (go_at_call 52; (with_reducible refine (q_is HTW.out).mono ?_); rintro e w1 ⟨rfl, hw1⟩; subst hw1) | (go_at_call 53; (with_reducible refine (q_sheet page A m d HTW.out HO.out HDW.out).mono ?_); rintro e w2 ⟨A2, c2, L2, rfl, hL2, hc2, hb2⟩; rw [HSE.out]; have HC2 := Lib.hid hc2; have HB2 := Lib.hid hb2; clear hc2 hb2))
          have HT2 := Lib.hid (HTW.out.below HB2.out)
          have HS2 : Hid (Safe (fun b => x b ∨ b = w.heap.size) W w2) := Lib.hid (safe_of_below HB2.out)
          refine region_st (fun j v w' => match j with | 0 => v = .pointer (some ⟨p, 0, none⟩) | 1 => v = .pointer (some ⟨p, 0, none⟩) | 2 => v = .pointer (some ⟨p, 7, none⟩) | 3 => v = .pointer (some ⟨l0, 0, none⟩) | 4 => v = .int .i64 (Q.L.length : Int) | 5 => v = .pointer (some ⟨p, 0, none⟩) | 6 => v = .pointer (some ⟨p, 0, none⟩) | 7 => v = .pointer (some ⟨p, 8, none⟩) | 8 => v = .pointer (some ⟨f0, 0, none⟩) | 9 => v = .int .i64 (Q.F.length : Int) | 10 => v = .int .i64 ((Q.L.length : Int) + (Q.F.length : Int)) | 11 => v = .pointer (some ⟨p, 0, none⟩) | 12 => v = .pointer (some ⟨p, 0, none⟩) | 13 => v = .pointer (some ⟨p, 1, none⟩) | 14 => v = .pointer (some ⟨p, 4, none⟩) | 15 => v = .int .i64 Q.K | 16 => v = .int .i64 (Q.K + 1) | 17 => v = .int .i64 (Q.K + 6) | 18 => v = .bool false | _ => True) (fun _ w' => Below w2.heap.size w2 w') (fun w1 w2 => Below w1.heap.size w1 w2) (by kernel_rfl) (by kernel_rfl) (by kernel_rfl) ?hR ?hG ?hops ?hend
          case hR =>
            intro j v w1 w2 hv hb
            match j, hv with
            | 0, hv => exact hv
            | 1, hv => exact hv
            | 2, hv => exact hv
            | 3, hv => exact hv
            | 4, hv => exact hv
            | 5, hv => exact hv
            | 6, hv => exact hv
            | 7, hv => exact hv
            | 8, hv => exact hv
            | 9, hv => exact hv
            | 10, hv => exact hv
            | 11, hv => exact hv
            | 12, hv => exact hv
            | 13, hv => exact hv
            | 14, hv => exact hv
            | 15, hv => exact hv
            | 16, hv => exact hv
            | 17, hv => exact hv
            | 18, hv => exact hv
            | _ + 19, _ => exact trivial
          case hG => exact (Below.refl _ _).drew
          case hops =>
            refine OpsOkS.cons ?o0 (OpsOkS.cons ?o1 (OpsOkS.cons ?o2 (OpsOkS.cons ?o3 (OpsOkS.cons ?o4 (OpsOkS.cons ?o5 (OpsOkS.cons ?o6 (OpsOkS.cons ?o7 (OpsOkS.cons ?o8 (OpsOkS.cons ?o9 (OpsOkS.cons ?o10 (OpsOkS.cons ?o11 (OpsOkS.cons ?o12 (OpsOkS.cons ?o13 (OpsOkS.cons ?o14 (OpsOkS.cons ?o15 (OpsOkS.cons ?o16 (OpsOkS.cons ?o17 (OpsOkS.cons ?o18 OpsOkS.nil))))))))))))))))))
            case o0 =>
              intro a w1 Kx hG need old hsz fresh hKx
              have e0 : a.tmps[0]?.getD undef = .pointer (some ⟨p, 0, none⟩) := by rw [← Array.getD_eq_getD_getElem?]; exact old 0 (by kernel_rfl)
              refine op_value (v := .pointer (some ⟨p, 0, none⟩)) (wanted_none rfl) ?_ (hKx _ w1 rfl hG (Below.refl _ _))
              simp [execOp, go_sem, e0]
            case o1 =>
              intro a w1 Kx hG need old hsz fresh hKx
              have e0 : a.tmps[30]?.getD undef = .pointer (some ⟨p, 0, none⟩) := by rw [← Array.getD_eq_getD_getElem?]; exact (need 0 (by kernel_rfl) (by kernel_rfl))
              refine op_value (v := .pointer (some ⟨p, 0, none⟩)) (wanted_none rfl) ?_ (hKx _ w1 rfl hG (Below.refl _ _))
              simp [execOp, go_sem, e0]
            case o2 =>
              intro a w1 Kx hG need old hsz fresh hKx
              have e0 : a.tmps[31]?.getD undef = .pointer (some ⟨p, 0, none⟩) := by rw [← Array.getD_eq_getD_getElem?]; exact (need 1 (by kernel_rfl) (by kernel_rfl))
              refine op_value (v := .pointer (some ⟨p, 7, none⟩)) (wanted_none rfl) ?_ (hKx _ w1 rfl hG (Below.refl _ _))
              simp [execOp, go_sem, e0]
            case o3 =>
              intro a w1 Kx hG need old hsz fresh hKx
              have e0 : a.tmps[32]?.getD undef = .pointer (some ⟨p, 7, none⟩) := by rw [← Array.getD_eq_getD_getElem?]; exact (need 2 (by kernel_rfl) (by kernel_rfl))
              have k0 := (hG.cell (p := ⟨p, 7, none⟩) HT2.out.lt).trans HT2.out.c7
              refine op_value (v := .pointer (some ⟨l0, 0, none⟩)) (wanted_none rfl) ?_ (hKx _ w1 rfl hG (Below.refl _ _))
              simp [execOp, go_sem, e0, k0]
            case o4 =>
              intro a w1 Kx hG need old hsz fresh hKx
              have e0 : a.tmps[33]?.getD undef = .pointer (some ⟨l0, 0, none⟩) := by rw [← Array.getD_eq_getD_getElem?]; exact (need 3 (by kernel_rfl) (by kernel_rfl))
              refine op_call (wanted_none rfl) (f := 54) (args := #[.pointer (some ⟨l0, 0, none⟩)]) ?run ((lenT_any (HT2.out.live.below hG) HLL.out.1).mono ?post)
              case run => simp [go_sem, e0]
              case post =>
                rintro e w2 ⟨rfl, hb2⟩
                exact ⟨_, rfl, hKx _ w2 rfl (hG.trans (hb2.mono hG.size)) hb2⟩
            case o5 =>
              intro a w1 Kx hG need old hsz fresh hKx
              have e0 : a.tmps[0]?.getD undef = .pointer (some ⟨p, 0, none⟩) := by rw [← Array.getD_eq_getD_getElem?]; exact old 0 (by kernel_rfl)
              refine op_value (v := .pointer (some ⟨p, 0, none⟩)) (wanted_none rfl) ?_ (hKx _ w1 rfl hG (Below.refl _ _))
              simp [execOp, go_sem, e0]
            case o6 =>
              intro a w1 Kx hG need old hsz fresh hKx
              have e0 : a.tmps[35]?.getD undef = .pointer (some ⟨p, 0, none⟩) := by rw [← Array.getD_eq_getD_getElem?]; exact (need 5 (by kernel_rfl) (by kernel_rfl))
              refine op_value (v := .pointer (some ⟨p, 0, none⟩)) (wanted_none rfl) ?_ (hKx _ w1 rfl hG (Below.refl _ _))
              simp [execOp, go_sem, e0]
            case o7 =>
              intro a w1 Kx hG need old hsz fresh hKx
              have e0 : a.tmps[36]?.getD undef = .pointer (some ⟨p, 0, none⟩) := by rw [← Array.getD_eq_getD_getElem?]; exact (need 6 (by kernel_rfl) (by kernel_rfl))
              refine op_value (v := .pointer (some ⟨p, 8, none⟩)) (wanted_none rfl) ?_ (hKx _ w1 rfl hG (Below.refl _ _))
              simp [execOp, go_sem, e0]
            case o8 =>
              intro a w1 Kx hG need old hsz fresh hKx
              have e0 : a.tmps[37]?.getD undef = .pointer (some ⟨p, 8, none⟩) := by rw [← Array.getD_eq_getD_getElem?]; exact (need 7 (by kernel_rfl) (by kernel_rfl))
              have k0 := (hG.cell (p := ⟨p, 8, none⟩) HT2.out.lt).trans HT2.out.c8
              refine op_value (v := .pointer (some ⟨f0, 0, none⟩)) (wanted_none rfl) ?_ (hKx _ w1 rfl hG (Below.refl _ _))
              simp [execOp, go_sem, e0, k0]
            case o9 =>
              intro a w1 Kx hG need old hsz fresh hKx
              have e0 : a.tmps[38]?.getD undef = .pointer (some ⟨f0, 0, none⟩) := by rw [← Array.getD_eq_getD_getElem?]; exact (need 8 (by kernel_rfl) (by kernel_rfl))
              refine op_call (wanted_none rfl) (f := 54) (args := #[.pointer (some ⟨f0, 0, none⟩)]) ?run ((lenT_any (HT2.out.fresh.below hG) HLL.out.2).mono ?post)
              case run => simp [go_sem, e0]
              case post =>
                rintro e w2 ⟨rfl, hb2⟩
                exact ⟨_, rfl, hKx _ w2 rfl (hG.trans (hb2.mono hG.size)) hb2⟩
            case o10 =>
              intro a w1 Kx hG need old hsz fresh hKx
              have e0 : a.tmps[34]?.getD undef = .int .i64 (Q.L.length : Int) := by rw [← Array.getD_eq_getD_getElem?]; exact (need 4 (by kernel_rfl) (by kernel_rfl))
              have e1 : a.tmps[39]?.getD undef = .int .i64 (Q.F.length : Int) := by rw [← Array.getD_eq_getD_getElem?]; exact (need 9 (by kernel_rfl) (by kernel_rfl))
              refine op_value (v := .int .i64 ((Q.L.length : Int) + (Q.F.length : Int))) (wanted_none rfl) ?_ (hKx _ w1 rfl hG (Below.refl _ _))
              simp [execOp, go_sem, e0, e1, HWL.out]
            case o11 =>
              intro a w1 Kx hG need old hsz fresh hKx
              have e0 : a.tmps[0]?.getD undef = .pointer (some ⟨p, 0, none⟩) := by rw [← Array.getD_eq_getD_getElem?]; exact old 0 (by kernel_rfl)
              refine op_value (v := .pointer (some ⟨p, 0, none⟩)) (wanted_none rfl) ?_ (hKx _ w1 rfl hG (Below.refl _ _))
              simp [execOp, go_sem, e0]
            case o12 =>
              intro a w1 Kx hG need old hsz fresh hKx
              have e0 : a.tmps[41]?.getD undef = .pointer (some ⟨p, 0, none⟩) := by rw [← Array.getD_eq_getD_getElem?]; exact (need 11 (by kernel_rfl) (by kernel_rfl))
              refine op_value (v := .pointer (some ⟨p, 0, none⟩)) (wanted_none rfl) ?_ (hKx _ w1 rfl hG (Below.refl _ _))
              simp [execOp, go_sem, e0]
            case o13 =>
              intro a w1 Kx hG need old hsz fresh hKx
              have e0 : a.tmps[42]?.getD undef = .pointer (some ⟨p, 0, none⟩) := by rw [← Array.getD_eq_getD_getElem?]; exact (need 12 (by kernel_rfl) (by kernel_rfl))
              refine op_value (v := .pointer (some ⟨p, 1, none⟩)) (wanted_none rfl) ?_ (hKx _ w1 rfl hG (Below.refl _ _))
              simp [execOp, go_sem, e0]
            case o14 =>
              intro a w1 Kx hG need old hsz fresh hKx
              have e0 : a.tmps[43]?.getD undef = .pointer (some ⟨p, 1, none⟩) := by rw [← Array.getD_eq_getD_getElem?]; exact (need 13 (by kernel_rfl) (by kernel_rfl))
              refine op_value (v := .pointer (some ⟨p, 4, none⟩)) (wanted_none rfl) ?_ (hKx _ w1 rfl hG (Below.refl _ _))
              simp [execOp, go_sem, e0]
            case o15 =>
              intro a w1 Kx hG need old hsz fresh hKx
              have e0 : a.tmps[44]?.getD undef = .pointer (some ⟨p, 4, none⟩) := by rw [← Array.getD_eq_getD_getElem?]; exact (need 14 (by kernel_rfl) (by kernel_rfl))
              have k0 := (hG.cell (p := ⟨p, 4, none⟩) HT2.out.lt).trans HT2.out.c4
              refine op_value (v := .int .i64 Q.K) (wanted_none rfl) ?_ (hKx _ w1 rfl hG (Below.refl _ _))
              simp [execOp, go_sem, e0, k0]
            case o16 =>
              intro a w1 Kx hG need old hsz fresh hKx
              have e0 : a.tmps[45]?.getD undef = .int .i64 Q.K := by rw [← Array.getD_eq_getD_getElem?]; exact (need 15 (by kernel_rfl) (by kernel_rfl))
              refine op_value (v := .int .i64 (Q.K + 1)) (wanted_none rfl) ?_ (hKx _ w1 rfl hG (Below.refl _ _))
              simp [execOp, go_sem, e0, HWK.out.1]
            case o17 =>
              intro a w1 Kx hG need old hsz fresh hKx
              have e0 : a.tmps[46]?.getD undef = .int .i64 (Q.K + 1) := by rw [← Array.getD_eq_getD_getElem?]; exact (need 16 (by kernel_rfl) (by kernel_rfl))
              refine op_value (v := .int .i64 (Q.K + 6)) (wanted_none rfl) ?_ (hKx _ w1 rfl hG (Below.refl _ _))
              simp [execOp, go_sem, e0, HWK.out.2]
            case o18 =>
              intro a w1 Kx hG need old hsz fresh hKx
              have e0 : a.tmps[40]?.getD undef = .int .i64 ((Q.L.length : Int) + (Q.F.length : Int)) := by rw [← Array.getD_eq_getD_getElem?]; exact (need 10 (by kernel_rfl) (by kernel_rfl))
              have e1 : a.tmps[47]?.getD undef = .int .i64 (Q.K + 6) := by rw [← Array.getD_eq_getD_getElem?]; exact (need 17 (by kernel_rfl) (by kernel_rfl))
              refine op_value (v := .bool false) (wanted_none rfl) ?_ (hKx _ w1 rfl hG (Below.refl _ _))
              simp [execOp, go_sem, e0, e1]; have := HGE.out; omega
          case hend =>
            intro a w6 hG hde hsz hφ hold
            obtain rfl := act_puts [(30, .pointer (some ⟨p, 0, none⟩)), (31, .pointer (some ⟨p, 0, none⟩)), (32, .pointer (some ⟨p, 7, none⟩)), (33, .pointer (some ⟨l0, 0, none⟩)), (34, .int .i64 (Q.L.length : Int)), (35, .pointer (some ⟨p, 0, none⟩)), (36, .pointer (some ⟨p, 0, none⟩)), (37, .pointer (some ⟨p, 8, none⟩)), (38, .pointer (some ⟨f0, 0, none⟩)), (39, .int .i64 (Q.F.length : Int)), (40, .int .i64 ((Q.L.length : Int) + (Q.F.length : Int))), (41, .pointer (some ⟨p, 0, none⟩)), (42, .pointer (some ⟨p, 0, none⟩)), (43, .pointer (some ⟨p, 1, none⟩)), (44, .pointer (some ⟨p, 4, none⟩)), (45, .int .i64 Q.K), (46, .int .i64 (Q.K + 1)), (47, .int .i64 (Q.K + 6)), (48, .bool false)] [30, 31, 32, 33, 34, 35, 36, 37, 38, 39, 40, 41, 42, 43, 44, 45, 46, 47, 48] rfl (by kernel_rfl) (by kernel_rfl) hde hsz (List.forall_mem_cons.2 ⟨(show a.tmps.getD 30 undef = .pointer (some ⟨p, 0, none⟩) from (hφ 0 (by kernel_rfl))), (List.forall_mem_cons.2 ⟨(show a.tmps.getD 31 undef = .pointer (some ⟨p, 0, none⟩) from (hφ 1 (by kernel_rfl))), (List.forall_mem_cons.2 ⟨(show a.tmps.getD 32 undef = .pointer (some ⟨p, 7, none⟩) from (hφ 2 (by kernel_rfl))), (List.forall_mem_cons.2 ⟨(show a.tmps.getD 33 undef = .pointer (some ⟨l0, 0, none⟩) from (hφ 3 (by kernel_rfl))), (List.forall_mem_cons.2 ⟨(show a.tmps.getD 34 undef = .int .i64 (Q.L.length : Int) from (hφ 4 (by kernel_rfl))), (List.forall_mem_cons.2 ⟨(show a.tmps.getD 35 undef = .pointer (some ⟨p, 0, none⟩) from (hφ 5 (by kernel_rfl))), (List.forall_mem_cons.2 ⟨(show a.tmps.getD 36 undef = .pointer (some ⟨p, 0, none⟩) from (hφ 6 (by kernel_rfl))), (List.forall_mem_cons.2 ⟨(show a.tmps.getD 37 undef = .pointer (some ⟨p, 8, none⟩) from (hφ 7 (by kernel_rfl))), (List.forall_mem_cons.2 ⟨(show a.tmps.getD 38 undef = .pointer (some ⟨f0, 0, none⟩) from (hφ 8 (by kernel_rfl))), (List.forall_mem_cons.2 ⟨(show a.tmps.getD 39 undef = .int .i64 (Q.F.length : Int) from (hφ 9 (by kernel_rfl))), (List.forall_mem_cons.2 ⟨(show a.tmps.getD 40 undef = .int .i64 ((Q.L.length : Int) + (Q.F.length : Int)) from (hφ 10 (by kernel_rfl))), (List.forall_mem_cons.2 ⟨(show a.tmps.getD 41 undef = .pointer (some ⟨p, 0, none⟩) from (hφ 11 (by kernel_rfl))), (List.forall_mem_cons.2 ⟨(show a.tmps.getD 42 undef = .pointer (some ⟨p, 0, none⟩) from (hφ 12 (by kernel_rfl))), (List.forall_mem_cons.2 ⟨(show a.tmps.getD 43 undef = .pointer (some ⟨p, 1, none⟩) from (hφ 13 (by kernel_rfl))), (List.forall_mem_cons.2 ⟨(show a.tmps.getD 44 undef = .pointer (some ⟨p, 4, none⟩) from (hφ 14 (by kernel_rfl))), (List.forall_mem_cons.2 ⟨(show a.tmps.getD 45 undef = .int .i64 Q.K from (hφ 15 (by kernel_rfl))), (List.forall_mem_cons.2 ⟨(show a.tmps.getD 46 undef = .int .i64 (Q.K + 1) from (hφ 16 (by kernel_rfl))), (List.forall_mem_cons.2 ⟨(show a.tmps.getD 47 undef = .int .i64 (Q.K + 6) from (hφ 17 (by kernel_rfl))), (List.forall_mem_cons.2 ⟨(show a.tmps.getD 48 undef = .bool false from (hφ 18 (by kernel_rfl))), (fun _ h => absurd h (by simp))⟩)⟩)⟩)⟩)⟩)⟩)⟩)⟩)⟩)⟩)⟩)⟩)⟩)⟩)⟩)⟩)⟩)⟩)⟩) hold
            clear hφ hold hsz hde
            simp only [putAll]
            go_frame
            clear hW
            have HS6 : Hid (Safe (fun b => x b ∨ b = w.heap.size) W w6) := Lib.hid (HS2.out.then (safe_of_below hG))
            have HP6 : Hid (Pool w6 p c (fun b => (x b ∨ b = w.heap.size) ∨ New W w6 b) Q) := Lib.hid (HPW.out.more (HB2.out.trans (hG.mono HB2.out.size)))
            have HC6 : Hid (CB w6 (fun b => (x b ∨ b = w.heap.size) ∨ New W w6 b) A2 L2) := Lib.hid (HC2.out.keep (fun b k => hG.block b k.2) fun b k => .inr ⟨k.1, Nat.lt_of_lt_of_le k.2 hG.size⟩)
            have HL2 : Hid (Q.give n page L2 = some (e1, fd, Q1)) := Lib.hid (by rw [hL2.out, HSB.out]; exact HG.out)
            clear hL2 HC2
            go_upto_region 9 with (go_at_call 55; (with_reducible refine (q_give n page A2 c2 L2 HP6.out HO.out HSQ.out HC6.out HL2.out).mono ?_); rintro e w7 ⟨rfl, h7, hs7⟩; have HP7 := Lib.hid h7; have HS7 : Hid (Safe (fun b => x b ∨ b = w.heap.size) W w7) := Lib.hid (HS6.out.then' hs7 fun _ _ k => .inl k); clear h7 hs7)
            have HB8 : Hid (Below w7.heap.size w7 (w7.alloc (.cells #[.int .i64 fd.1.1, .int .i64 fd.1.2, .int .i64 fd.2.1, .int .i64 fd.2.2] 71))) := Lib.hid ((Below.refl _ _).alloc (Nat.le_refl _) _)
            have hg8 := heap_alloc_new w7 (.cells #[.int .i64 fd.1.1, .int .i64 fd.1.2, .int .i64 fd.2.1, .int .i64 fd.2.2] 71)
            generalize w7.alloc (.cells #[.int .i64 fd.1.1, .int .i64 fd.1.2, .int .i64 fd.2.1, .int .i64 fd.2.2] 71) = w8 at HB8 hg8 ⊢
            have HG8 := Lib.hid hg8
            have hg8l := lt_size hg8
            have HS8 : Hid (Safe (fun b => x b ∨ b = w.heap.size) W w8) := Lib.hid (HS7.out.then (safe_of_below HB8.out))
            have HP8 : Hid (Pool w8 p c (fun b => (x b ∨ b = w.heap.size) ∨ b = w7.heap.size) Q1) := Lib.hid ((HP7.out.more HB8.out).less fun b k => by
              rcases k with k | k
              · exact .inl (.inl k)
              · exact .inr ⟨by omega, by omega⟩)
            clear hg8
            by_cases he : e1 = 0
            · subst he
              have hm := HM.out
              rw [if_pos rfl] at hm
              by_cases hw : WfP fd.1 ∧ WfP fd.2 ∧ (putT Q1.F fd.1 fd.2).length ≤ 200
              case neg => rw [if_neg hw] at hm; cases hm
              case pos =>
                rw [if_pos hw] at hm
                have HE : Hid (er = 0 ∧ r = fd.1 ∧ Q' = { Q1 with F := putT Q1.F fd.1 fd.2 }) := Lib.hid (by have := Option.some.inj hm; exact ⟨(congrArg (fun z : Int × P2 × PS => z.1) this).symm, (congrArg (fun z : Int × P2 × PS => z.2.1) this).symm, (congrArg (fun z : Int × P2 × PS => z.2.2) this).symm⟩)
                have HWF := Lib.hid hw
                clear hm hw HM
                obtain ⟨l8, f8, X, Y, Z, hat, hout⟩ := HP8.out
                have c8 := hat.parts.c8
                obtain ⟨b0, b1, b2, b3, -⟩ := cells4q HG8.out
                have HAT := Lib.hid hat
                have HOUT := Lib.hid hout
                clear hat hout
                go_upto_region 11 with fail
                go_region_held3 (fun V => V.cell? ⟨p, 8, none⟩ = some (.pointer (some ⟨f8, 0, none⟩)) ∧ V.cell? ⟨w7.heap.size, 0, none⟩ = some (.int .i64 fd.1.1) ∧ V.cell? ⟨w7.heap.size, 1, none⟩ = some (.int .i64 fd.1.2) ∧ V.cell? ⟨w7.heap.size, 2, none⟩ = some (.int .i64 fd.2.1) ∧ V.cell? ⟨w7.heap.size, 3, none⟩ = some (.int .i64 fd.2.2))
                  (first | exact ⟨c8, b0, b1, b2, b3⟩ | exact HK9.out)
                  (first
                    | (go_at_call 56; (with_reducible refine (PoolAt.putF2 fd.1 fd.2 (HAT.out.below (Below.refl _ _).drew) HOUT.out HL1.out HWF.out.1 HWF.out.2.1).mono ?_); rintro e w9 ⟨rfl, h9, hs9, hp9⟩; have HP9 := Lib.hid h9; have HS9 : Hid (Safe (fun b => (x b ∨ b = w.heap.size) ∨ b = w7.heap.size) w8 w9) := Lib.hid ((safe_of_below (Below.refl _ _).drew).then hs9); have HK9 : Hid (w9.cell? ⟨p, 8, none⟩ = some (.pointer (some ⟨f8, 0, none⟩)) ∧ w9.cell? ⟨w7.heap.size, 0, none⟩ = some (.int .i64 fd.1.1) ∧ w9.cell? ⟨w7.heap.size, 1, none⟩ = some (.int .i64 fd.1.2) ∧ w9.cell? ⟨w7.heap.size, 2, none⟩ = some (.int .i64 fd.2.1) ∧ w9.cell? ⟨w7.heap.size, 3, none⟩ = some (.int .i64 fd.2.2)) := Lib.hid (by have k := cells4q ((HS9.out.block hg8l (.inr rfl)).trans HG8.out); exact ⟨(World.cell?_of_block (a := ⟨p, 8, none⟩) hp9).trans c8, k.1, k.2.1, k.2.2.1, k.2.2.2.1⟩); clear h9 hs9 hp9))
                have HS19 : Hid (Safe (fun b => x b ∨ b = w.heap.size) W w9) := Lib.hid (HS8.out.then' HS9.out fun _ _ k => .inl k)
                obtain ⟨d0, d1, -, -, -⟩ := cells4q ((HS9.out.block hg8l (.inr rfl)).trans HG8.out)
                obtain ⟨f0, f1, fr0, fr1⟩ := cells2q (HRR.out w9 HS19.out)
                obtain ⟨m0, m1, -, -⟩ := cells2q (two_set (HRR.out w9 HS19.out) (.int .i64 fd.1.1) (.int .i64 fd.1.2))
                clear c8 b0 b1 b2 b3
                go_wp2_with fail
                refine bodyPost_ret (by simp [results, Tryz.results25, go_sem, m0, m1]; try rfl) rfl ?_
                rw [HE.out.1, HE.out.2.1, HE.out.2.2]
                exact ⟨rfl, (HP9.out.two (.inl (.inr rfl)) _ _).less fun b k => .inl (.inl k), safe_two ((safe_of_below HBW.out).then' HS19.out fun _ _ k => .inl k) (Nat.le_refl _) _ _⟩
            · have HE : Hid (er = e1 ∧ r = (0, 0) ∧ Q' = Q1) := Lib.hid (by have hm := HM.out; rw [if_neg he] at hm; have := Option.some.inj hm; exact ⟨(congrArg (fun z : Int × P2 × PS => z.1) this).symm, (congrArg (fun z : Int × P2 × PS => z.2.1) this).symm, (congrArg (fun z : Int × P2 × PS => z.2.2) this).symm⟩)
              clear HM
              go_upto_region 10 with fail
              obtain ⟨f0, f1, fr0, fr1⟩ := cells2q (HRR.out w8 HS8.out)
              obtain ⟨m0, m1, -, -⟩ := cells2q (two_set (HRR.out w8 HS8.out) (.int .i64 0) (.int .i64 0))
              go_wp2_with fail
              refine bodyPost_ret (by simp [results, Tryz.results25, go_sem, m0, m1]; try rfl) rfl ?_
              rw [HE.out.1, HE.out.2.1, HE.out.2.2]
              exact ⟨rfl, (HP8.out.two (.inl (.inr rfl)) _ _).less fun b k => .inl (.inl k), safe_two ((safe_of_below HBW.out).then' HS8.out fun _ _ k => .inl k) (Nat.le_refl _) _ _⟩
end
end Go.Proofs.YtnadcdgpfopcaaaGreat
