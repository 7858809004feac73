/- SpanForms, over the landed contracts (written by mkspo.py). -/
import Derived.Test.YtljlmaddbpihnaaSpS
namespace Go.Proofs.Ytljlmaddbpihnaa
open Go.RowKit

set_option maxHeartbeats 8000000 in
set_option maxRecDepth 100000 in
theorem spforms_law
    (lpc : ∀ (a n : Int) (w : World), Wf6 a → Wf6 n → Calls Try.prog 8 #[.int .i64 a, .int .i64 n] w (PcRead w (piecesF a n)))
    (lft : ∀ (a n : Int) (w : World), Wf6 a → Wf6 n → Calls Try.prog 12 #[.int .i64 a, .int .i64 n] w fun e w' => e = .returned (.bool (fitsF a n)) ∧ Below w.heap.size w w')
    (lcut : ∀ (z a n : Int) (w : World), Wf6 z → Wf6 a → Wf6 n → Calls Try.prog 14 #[.int .i64 z, .int .i64 a, .int .i64 n] w fun e w' => e = .returned (.int .i64 (cutF z a n)) ∧ Below w.heap.size w w')
    (lpg : ∀ (z : Int) (w : World), Wf6 z → Calls Try.prog 10 #[.int .i64 z] w fun e w' => e = .returned (.int .i64 (pagesF z)) ∧ Below w.heap.size w w')
    (awk : ∀ w : World, Calls Try.prog 16 #[] w fun x w' => x = .returned (.bool true) ∧ Below w.heap.size w w')
    (a n z : Int) (w : World) (ha : Wf6 a) (hn : Wf6 n) (hz : Wf6 z) : Calls Try.prog 3 #[.int .i64 a, .int .i64 n, .int .i64 z] w fun e w' => e = .returned (.bool true) ∧ Below w.heap.size w w' := by
  have H1 := Lib.hid (fun w1 => lpc a n w1 ha hn)
  have H2 := Lib.hid (fun w1 => piecesr_any a n w1)
  have H3 := Lib.hid (fun w1 => lft a n w1 ha hn)
  have H4 := Lib.hid (fun w1 => fitsr_any a n w1)
  have H5 := Lib.hid (fun w1 => lcut z a n w1 hz ha hn)
  have H6 := Lib.hid (fun w1 => cutr_any z a n w1 hz)
  have H7 := Lib.hid (fun w1 => lpg z w1 hz)
  have H8 := Lib.hid (fun w1 => pagesr_any z w1)
  have HAW := Lib.hid awk
  have hl5 : (piecesF a n).length ≤ 5 := by
    unfold piecesF
    split
    · next h =>
      have := fitsF_iff.1 h
      rw [piecesP_len]
      exact cntP_le (by omega)
    · simp
  clear lpc lft lcut lpg awk ha hn hz
  generalize piecesF a n = l at H1 H2 hl5
  generalize fitsF a n = fb at H3 H4
  generalize cutF z a n = cz at H5 H6
  generalize pagesF z = pz at H7 H8
  go_enter Try.func3, Try.ntmps3
  go_upto_region 5 with (first
    | (go_at_call 8; (with_reducible refine (H1.out _).mono ?_); rintro e w1 ⟨q, c, rfl, hz, hc, hb1⟩; have HZ := Lib.hid hz; have HB1 := Lib.hid hb1; clear hz hb1)
    | (go_at_call 9; (with_reducible refine (H2.out _).mono ?_); rintro e w2 ⟨q2, c2, rfl, ho, hb2⟩; have HO := Lib.hid ho.lies.1; have HB0 := Lib.hid hb2; have HB2 := Lib.hid (HB1.out.trans (hb2.mono HB1.out.size)); clear ho hb2)
    | fail)
  have HZL : Hid (∀ w1, Below w2.heap.size w2 w1 → PcLies w1 q l) := Lib.hid fun w1 hb => HZ.out.below (HB0.out.trans (hb.mono HB0.out.size))
  have HOL : Hid (∀ w1, Below w2.heap.size w2 w1 → PcLies w1 q2 l) := Lib.hid fun w1 hb => HO.out.below hb
  go_loopw [9, 23] (fun _ v23 wr => ∃ jx : Nat, jx ≤ l.length ∧ v23 = .int .i64 jx ∧ Hid (Below w2.heap.size w2 wr)) (fun _ v23 _ => l.length - (RowKit.intOf v23).toNat)
  case atStart => exact ⟨0, Nat.zero_le _, rfl, Lib.hid (Below.refl _ _)⟩
  case round =>
    obtain ⟨jx, hj, rfl, HB⟩ := hrel
    have HBW := Lib.hid (HB2.out.trans (HB.out.mono HB2.out.size))
    by_cases hj1 : jx < l.length
    · have d2 : decide ((jx : Int) < (l.length : Int)) = true := decide_eq_true (by omega)
      obtain ⟨B, o, rfl, hBs, hcc⟩ := HZL.out wr HB.out (by omega)
      obtain ⟨D, u, rfl, hDs, hdd⟩ := HOL.out wr HB.out (by omega)
      obtain ⟨⟨x, y, k⟩, hx⟩ : ∃ x, x = l[jx]'hj1 := ⟨_, rfl⟩
      have kb := hcc jx hj1
      have kd := hdd jx hj1
      rw [← hx] at kb kd
      dsimp only at kb kd
      have HCB : Hid (∀ w1, Below wr.heap.size wr w1 → w1.cell? ⟨B, o + jx * 3, none⟩ = some (.int .i64 x) ∧ w1.cell? ⟨B, o + jx * 3 + 1, none⟩ = some (.int .i64 y) ∧ w1.cell? ⟨B, o + jx * 3 + 2, none⟩ = some (.int .i64 k)) := Lib.hid fun w1 hb => ⟨(hb.cell (p := ⟨B, o + jx * 3, none⟩) hBs).trans kb.1, (hb.cell (p := ⟨B, o + jx * 3 + 1, none⟩) hBs).trans kb.2.1, (hb.cell (p := ⟨B, o + jx * 3 + 2, none⟩) hBs).trans kb.2.2⟩
      have HCD : Hid (∀ w1, Below wr.heap.size wr w1 → w1.cell? ⟨D, u + jx * 3, none⟩ = some (.int .i64 x) ∧ w1.cell? ⟨D, u + jx * 3 + 1, none⟩ = some (.int .i64 y) ∧ w1.cell? ⟨D, u + jx * 3 + 2, none⟩ = some (.int .i64 k)) := Lib.hid fun w1 hb => ⟨(hb.cell (p := ⟨D, u + jx * 3, none⟩) hDs).trans kd.1, (hb.cell (p := ⟨D, u + jx * 3 + 1, none⟩) hDs).trans kd.2.1, (hb.cell (p := ⟨D, u + jx * 3 + 2, none⟩) hDs).trans kd.2.2⟩
      have HJL : Hid ((jx : Int) < (l.length : Int)) := Lib.hid (by omega)
      clear hcc hdd kb kd hx
      go_upto_region 7 with fail
      refine region_st (fun j v w' => match j with | 0 => v = .slice (some ⟨B, o, none⟩) l.length c | 1 => v = .int .i64 (jx : Nat) | 2 => v = .pointer (some ⟨B, o + jx * 3, none⟩) | 3 => v = .agg #[.int .i64 x, .int .i64 y, .int .i64 k] | 4 => v = .slice (some ⟨D, u, none⟩) l.length c2 | 5 => v = .int .i64 (jx : Nat) | 6 => v = .pointer (some ⟨D, u + jx * 3, none⟩) | 7 => v = .agg #[.int .i64 x, .int .i64 y, .int .i64 k] | 8 => v = .bool false | _ => True) (fun _ w' => Below wr.heap.size wr w') (fun w1 w2 => Below w1.heap.size w1 w2) (by kernel_rfl) (by kernel_rfl) (by kernel_rfl) ?hR ?hG ?hops ?hend
      case hR =>
        intro j v w1 w2 hv hb
        match j, hv with
        | 0, hv => exact hv
        | 1, hv => exact hv
        | 2, hv => exact hv
        | 3, hv => exact hv
        | 4, hv => exact hv
        | 5, hv => exact hv
        | 6, hv => exact hv
        | 7, hv => exact hv
        | 8, hv => exact hv
        | _ + 9, _ => exact trivial
      case hG => exact (Below.refl _ _).drew
      case hops =>
        refine OpsOkS.cons ?o0 (OpsOkS.cons ?o1 (OpsOkS.cons ?o2 (OpsOkS.cons ?o3 (OpsOkS.cons ?o4 (OpsOkS.cons ?o5 (OpsOkS.cons ?o6 (OpsOkS.cons ?o7 (OpsOkS.cons ?o8 OpsOkS.nil))))))))
        case o0 =>
          intro a w1 Kx hG need old hsz fresh hKx
          have e0 : a.tmps[7]?.getD undef = .slice (some ⟨B, o, none⟩) l.length c := by rw [← Array.getD_eq_getD_getElem?]; exact old 7 (by kernel_rfl)
          refine op_value (v := .slice (some ⟨B, o, none⟩) l.length c) (wanted_none rfl) ?_ (hKx _ w1 rfl hG (Below.refl _ _))
          simp [execOp, go_sem, e0]
        case o1 =>
          intro a w1 Kx hG need old hsz fresh hKx
          have e0 : a.tmps[9]?.getD undef = .int .i64 (jx : Nat) := by rw [← Array.getD_eq_getD_getElem?]; exact old 9 (by kernel_rfl)
          refine op_value (v := .int .i64 (jx : Nat)) (wanted_none rfl) ?_ (hKx _ w1 rfl hG (Below.refl _ _))
          simp [execOp, go_sem, e0]
        case o2 =>
          intro a w1 Kx hG need old hsz fresh hKx
          have e0 : a.tmps[26]?.getD undef = .slice (some ⟨B, o, none⟩) l.length c := by rw [← Array.getD_eq_getD_getElem?]; exact (need 0 (by kernel_rfl) (by kernel_rfl))
          have e1 : a.tmps[27]?.getD undef = .int .i64 (jx : Nat) := by rw [← Array.getD_eq_getD_getElem?]; exact (need 1 (by kernel_rfl) (by kernel_rfl))
          refine op_value (v := .pointer (some ⟨B, o + jx * 3, none⟩)) (wanted_none rfl) ?_ (hKx _ w1 rfl hG (Below.refl _ _))
          simp [execOp, go_sem, e0, e1, HJL.out] <;> (have := HJL.out; omega)
        case o3 =>
          intro a w1 Kx hG need old hsz fresh hKx
          have e0 : a.tmps[28]?.getD undef = .pointer (some ⟨B, o + jx * 3, none⟩) := by rw [← Array.getD_eq_getD_getElem?]; exact (need 2 (by kernel_rfl) (by kernel_rfl))
          obtain ⟨j0, j1, j2⟩ := HCB.out w1 hG
          refine op_value (v := .agg #[.int .i64 x, .int .i64 y, .int .i64 k]) (wanted_none rfl) ?_ (hKx _ w1 rfl hG (Below.refl _ _))
          simp [execOp, go_sem, e0, j0, j1, j2]
        case o4 =>
          intro a w1 Kx hG need old hsz fresh hKx
          have e0 : a.tmps[8]?.getD undef = .slice (some ⟨D, u, none⟩) l.length c2 := by rw [← Array.getD_eq_getD_getElem?]; exact old 8 (by kernel_rfl)
          refine op_value (v := .slice (some ⟨D, u, none⟩) l.length c2) (wanted_none rfl) ?_ (hKx _ w1 rfl hG (Below.refl _ _))
          simp [execOp, go_sem, e0]
        case o5 =>
          intro a w1 Kx hG need old hsz fresh hKx
          have e0 : a.tmps[9]?.getD undef = .int .i64 (jx : Nat) := by rw [← Array.getD_eq_getD_getElem?]; exact old 9 (by kernel_rfl)
          refine op_value (v := .int .i64 (jx : Nat)) (wanted_none rfl) ?_ (hKx _ w1 rfl hG (Below.refl _ _))
          simp [execOp, go_sem, e0]
        case o6 =>
          intro a w1 Kx hG need old hsz fresh hKx
          have e0 : a.tmps[30]?.getD undef = .slice (some ⟨D, u, none⟩) l.length c2 := by rw [← Array.getD_eq_getD_getElem?]; exact (need 4 (by kernel_rfl) (by kernel_rfl))
          have e1 : a.tmps[31]?.getD undef = .int .i64 (jx : Nat) := by rw [← Array.getD_eq_getD_getElem?]; exact (need 5 (by kernel_rfl) (by kernel_rfl))
          refine op_value (v := .pointer (some ⟨D, u + jx * 3, none⟩)) (wanted_none rfl) ?_ (hKx _ w1 rfl hG (Below.refl _ _))
          simp [execOp, go_sem, e0, e1, HJL.out] <;> (have := HJL.out; omega)
        case o7 =>
          intro a w1 Kx hG need old hsz fresh hKx
          have e0 : a.tmps[32]?.getD undef = .pointer (some ⟨D, u + jx * 3, none⟩) := by rw [← Array.getD_eq_getD_getElem?]; exact (need 6 (by kernel_rfl) (by kernel_rfl))
          obtain ⟨j0, j1, j2⟩ := HCD.out w1 hG
          refine op_value (v := .agg #[.int .i64 x, .int .i64 y, .int .i64 k]) (wanted_none rfl) ?_ (hKx _ w1 rfl hG (Below.refl _ _))
          simp [execOp, go_sem, e0, j0, j1, j2]
        case o8 =>
          intro a w1 Kx hG need old hsz fresh hKx
          have e0 : a.tmps[29]?.getD undef = .agg #[.int .i64 x, .int .i64 y, .int .i64 k] := by rw [← Array.getD_eq_getD_getElem?]; exact (need 3 (by kernel_rfl) (by kernel_rfl))
          have e1 : a.tmps[33]?.getD undef = .agg #[.int .i64 x, .int .i64 y, .int .i64 k] := by rw [← Array.getD_eq_getD_getElem?]; exact (need 7 (by kernel_rfl) (by kernel_rfl))
          refine op_value (v := .bool false) (wanted_none rfl) ?_ (hKx _ w1 rfl hG (Below.refl _ _))
          simp [execOp, go_sem, e0, e1]
      case hend =>
        intro a w6 hG hde hsz hφ hold
        obtain rfl := act_puts [(26, .slice (some ⟨B, o, none⟩) l.length c), (27, .int .i64 (jx : Nat)), (28, .pointer (some ⟨B, o + jx * 3, none⟩)), (29, .agg #[.int .i64 x, .int .i64 y, .int .i64 k]), (30, .slice (some ⟨D, u, none⟩) l.length c2), (31, .int .i64 (jx : Nat)), (32, .pointer (some ⟨D, u + jx * 3, none⟩)), (33, .agg #[.int .i64 x, .int .i64 y, .int .i64 k]), (34, .bool false)] [26, 27, 28, 29, 30, 31, 32, 33, 34] rfl (by kernel_rfl) (by kernel_rfl) hde hsz (List.forall_mem_cons.2 ⟨(show a.tmps.getD 26 undef = .slice (some ⟨B, o, none⟩) l.length c from (hφ 0 (by kernel_rfl))), (List.forall_mem_cons.2 ⟨(show a.tmps.getD 27 undef = .int .i64 (jx : Nat) from (hφ 1 (by kernel_rfl))), (List.forall_mem_cons.2 ⟨(show a.tmps.getD 28 undef = .pointer (some ⟨B, o + jx * 3, none⟩) from (hφ 2 (by kernel_rfl))), (List.forall_mem_cons.2 ⟨(show a.tmps.getD 29 undef = .agg #[.int .i64 x, .int .i64 y, .int .i64 k] from (hφ 3 (by kernel_rfl))), (List.forall_mem_cons.2 ⟨(show a.tmps.getD 30 undef = .slice (some ⟨D, u, none⟩) l.length c2 from (hφ 4 (by kernel_rfl))), (List.forall_mem_cons.2 ⟨(show a.tmps.getD 31 undef = .int .i64 (jx : Nat) from (hφ 5 (by kernel_rfl))), (List.forall_mem_cons.2 ⟨(show a.tmps.getD 32 undef = .pointer (some ⟨D, u + jx * 3, none⟩) from (hφ 6 (by kernel_rfl))), (List.forall_mem_cons.2 ⟨(show a.tmps.getD 33 undef = .agg #[.int .i64 x, .int .i64 y, .int .i64 k] from (hφ 7 (by kernel_rfl))), (List.forall_mem_cons.2 ⟨(show a.tmps.getD 34 undef = .bool false from (hφ 8 (by kernel_rfl))), (fun _ h => absurd h (by simp))⟩)⟩)⟩)⟩)⟩)⟩)⟩)⟩)⟩) hold
        clear hφ hold hsz hde
        simp only [putAll]
        go_frame
        go_wp2_with fail
        go_roundw
        case rel => exact ⟨jx + 1, by omega, by go_num, Lib.hid (HB.out.trans (hG.mono HB.out.size))⟩
        case measure => simp [RowKit.intOf]; omega
    · have d2 : decide ((jx : Int) < (l.length : Int)) = false := decide_eq_false (by omega)
      cases fb
      all_goals
        go_wp2_with (first
          | (go_at_call 10; (with_reducible refine (H7.out _).mono ?_); rintro e w3 ⟨rfl, hb3⟩; have HB3 := Lib.hid (HBW.out.trans (hb3.mono HBW.out.size)); clear hb3)
          | (go_at_call 11; (with_reducible refine (H8.out _).mono ?_); rintro e w4 ⟨rfl, hb3⟩; have HB4 := Lib.hid (HB3.out.trans (hb3.mono HB3.out.size)); clear hb3)
          | (go_at_call 12; (with_reducible refine (H3.out _).mono ?_); rintro e w5 ⟨rfl, hb3⟩; have HB5 := Lib.hid (HB4.out.trans (hb3.mono HB4.out.size)); clear hb3)
          | (go_at_call 13; (with_reducible refine (H4.out _).mono ?_); rintro e w6 ⟨rfl, hb3⟩; have HB6 := Lib.hid (HB5.out.trans (hb3.mono HB5.out.size)); clear hb3)
          | (go_at_call 14; (with_reducible refine (H5.out _).mono ?_); rintro e w7 ⟨rfl, hb3⟩; have HB7 := Lib.hid (HB6.out.trans (hb3.mono HB6.out.size)); clear hb3)
          | (go_at_call 15; (with_reducible refine (H6.out _).mono ?_); rintro e w8 ⟨rfl, hb3⟩; have HB8 := Lib.hid (HB7.out.trans (hb3.mono HB7.out.size)); clear hb3)
          | (go_at_call 16; (with_reducible refine (HAW.out _).mono ?_); rintro e w9 ⟨rfl, hb3⟩; have HB9 := Lib.hid (HB8.out.trans (hb3.mono HB8.out.size)); clear hb3)
          | fail)
        go_ret
        exact ⟨rfl, HB9.out⟩
end Go.Proofs.Ytljlmaddbpihnaa
