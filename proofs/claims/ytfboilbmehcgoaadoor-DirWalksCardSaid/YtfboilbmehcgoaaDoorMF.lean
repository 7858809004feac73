/- The reference's MayEntries (written by mkmayr.py). -/
import Derived.Test.YtfboilbmehcgoaaDoorME
namespace Go.Proofs.YtfboilbmehcgoaaDoor
open Go.RowKit Go.Lib

theorem leq_ltB (z s : ByteArray) : (Op.bytesLess s.toList z.toList || s.toList == z.toList) = !ltB z s := by
  rw [less_ltB, eq_eqB]
  cases h : ltB z s with
  | true =>
    rw [ltB_asy h, decide_eq_false (fun e => ltB_ne h e.symm)]; rfl
  | false =>
    by_cases e : s = z
    · rw [decide_eq_true e]; simp
    · rw [decide_eq_false e, ltB_tot h (fun x => e x.symm)]; rfl
set_option maxRecDepth 100000 in
set_option maxHeartbeats 8000000 in
theorem mayr_any (A : Option Addr) (c : Nat) (l : List Ent) (w : World) (hA : ELies w A l) : Calls Tryd.prog 56 #[.slice A l.length c] w fun x w' => x = .returned (.bool (mayEs l)) ∧ Below w.heap.size w w' := by
  by_cases h10 : l.length ≤ 10
  case neg =>
    rw [mayEs_long h10]
    have d1 : decide ((10 : Int) < (l.length : Int)) = true := decide_eq_true (by omega)
    go_enter Tryd.func56, Tryd.ntmps56
    go_wp2_with fail
    go_ret
    exact ⟨rfl, Below.refl _ _⟩
  have d1 : decide ((10 : Int) < (l.length : Int)) = false := decide_eq_false (by omega)
  have HA := Lib.hid hA
  obtain ⟨R, hR⟩ : ∃ R, mayEs l = R := ⟨_, rfl⟩
  rw [hR]
  replace hR := Lib.hid hR
  clear hA
  go_enter Tryd.func56, Tryd.ntmps56
  go_wp2_with fail
  go_loopw [3, 4, 10] (fun _ _ v10 wr => ∃ jx : Nat, jx ≤ l.length ∧ v10 = .int .i64 jx ∧ Hid ((∀ i (h : i < l.length), i < jx → mayE l[i] = true) ∧ (∀ i (h : i + 1 < l.length), i + 1 < jx → ltB l[i].1 l[i + 1].1 = true)) ∧ Below w.heap.size w wr) (fun _ _ v10 _ => l.length - (RowKit.intOf v10).toNat)
  case atStart => exact ⟨0, Nat.zero_le _, rfl, Lib.hid ⟨fun i _ h => absurd h (Nat.not_lt_zero i), fun i _ h => absurd h (Nat.not_lt_zero _)⟩, Below.refl _ _⟩
  case round =>
    obtain ⟨jx, hj, rfl, HI, hB⟩ := hrel
    have HB := Lib.hid hB
    have hs := hB.size
    clear hB
    by_cases hj1 : jx < l.length
    · obtain ⟨B, o, rfl, hBs, hc⟩ := (HA.out.below HB.out) (by omega)
      have d2 : decide ((jx : Int) < (l.length : Int)) = true := decide_eq_true (by omega)
      obtain ⟨k0, k1⟩ := hc jx hj1
      obtain ⟨q, hq⟩ : ∃ q, l[jx] = q := ⟨_, rfl⟩
      have hq2 := Lib.hid hq
      rw [hq] at k0 k1
      obtain ⟨s, n⟩ := q
      have hq3 : Hid (mayE l[jx] = (mayL s.data.toList && decide (1 ≤ n) && decide (n ≤ 11))) := Lib.hid (by rw [hq]; rfl)
      obtain ⟨m, hm⟩ : ∃ m, mayL s.data.toList = m := ⟨_, rfl⟩
      rw [hm] at hq3
      have HC : Hid (∀ w1, Calls Tryd.prog 71 #[.string s] w1 fun e w' => e = .returned (.bool m) ∧ Below w1.heap.size w1 w') := Lib.hid fun w1 => (name_any s w1).mono fun e w' h => ⟨by rw [h.1, hm], by rw [h.2]; exact Below.refl _ _⟩
      clear hm hq
      have hc' := Lib.hid hc
      clear hc
      have HBW := Lib.hid (HB.out.alloc (by omega) (.cells #[.string s, .int .i64 n] 34))
      have HRW := Lib.hid ((Below.refl wr.heap.size wr).alloc (Nat.le_refl _) (.cells #[.string s, .int .i64 n] 34))
      have HX := Lib.hid (box_cells wr (.string s) (.int .i64 n) 34)
      have hlt : Hid (wr.heap.size < (wr.alloc (.cells #[.string s, .int .i64 n] 34)).heap.size) := Lib.hid (by simp)
      obtain ⟨k, hk⟩ : ∃ k, k = jx - 1 := ⟨_, rfl⟩
      have hkl : k < l.length := by omega
      have hcd := (hc'.out k hkl).1
      obtain ⟨t, ht⟩ : ∃ t, ltB l[k].1 s = t := ⟨_, rfl⟩
      have ht2 := Lib.hid ht
      obtain ⟨z, hz⟩ : ∃ z, l[k].1 = z := ⟨_, rfl⟩
      rw [hz] at hcd ht
      have ht3 : Hid ((Op.bytesLess s.toList z.toList || s.toList == z.toList) = !t) := Lib.hid (by rw [leq_ltB, ht])
      have hkk := Lib.hid hk
      have HIX : ∀ w, (Instr.indexAt 30 (.slice (some ⟨B, o, none⟩) l.length c) (.int .i64 (k : Nat))).run Tryd.prog w = .ok (.pointer (some ⟨B, o + k * 2, none⟩)) w := fun w => by
        have e0 : ¬ ((k : Int) < 0) := by omega
        simp [go_sem, hkl]
      have HIX2 := Lib.hid HIX
      have HWK : Hid (0 < jx → IntKind.i64.wrap ((jx : Int) - 1) = (k : Nat)) := Lib.hid fun h => by rw [i64w_idE _ (by omega)]; omega
      clear hz ht hk HIX
      go_wp2_with fail
      generalize wr.alloc _ = W at HBW HRW HX hlt ⊢
      have HK : Hid (∀ w1, Below W.heap.size W w1 → w1.cell? ⟨wr.heap.size, 0, none⟩ = some (.string s) ∧ w1.cell? ⟨wr.heap.size, 1, none⟩ = some (.int .i64 n) ∧ w1.cell? ⟨B, o + k * 2, none⟩ = some (.string z)) := Lib.hid fun w1 h => ⟨(h.cell (p := ⟨wr.heap.size, 0, none⟩) hlt.out).trans HX.out.1, (h.cell (p := ⟨wr.heap.size, 1, none⟩) hlt.out).trans HX.out.2, (h.cell (p := ⟨B, o + k * 2, none⟩) (Nat.lt_of_lt_of_le hBs HRW.out.size)).trans ((HRW.out.cell (p := ⟨B, o + k * 2, none⟩) hBs).trans hcd)⟩
      clear k0 k1 hcd
      cases m with
      | false =>
        have hF : R = false := by rw [← hR.out]; exact mayEs_one hj1 (by rw [hq3.out]; rfl)
        subst hF
        refine region_st (fun j v w' => match j with | 0 => v = .pointer (some ⟨wr.heap.size, 0, none⟩) | 1 => v = .string s | 2 => v = .bool false | 3 => v = .bool true | 4 => v = .bool true | 5 => v = undef | 6 => v = undef | 7 => v = undef | 8 => v = undef | 9 => v = undef | 10 => v = undef | 11 => v = undef | 12 => v = undef | 13 => v = undef | 14 => v = undef | 15 => v = undef | 16 => v = undef | 17 => v = undef | 18 => v = .bool true | 19 => v = .bool true | 20 => v = undef | 21 => v = undef | 22 => v = undef | 23 => v = .bool true | 24 => v = .bool true | 25 => v = undef | 26 => v = undef | 27 => v = undef | 28 => v = .bool true | _ => True) (fun _ w' => Below W.heap.size W w') (fun w1 w2 => Below w1.heap.size w1 w2) (by kernel_rfl) (by kernel_rfl) (by kernel_rfl) ?hR ?hG ?hops ?hend
        case hR =>
          intro j v w1 w2 hv hb
          match j, hv with
          | 0, hv => exact hv
          | 1, hv => exact hv
          | 2, hv => exact hv
          | 3, hv => exact hv
          | 4, hv => exact hv
          | 5, hv => exact hv
          | 6, hv => exact hv
          | 7, hv => exact hv
          | 8, hv => exact hv
          | 9, hv => exact hv
          | 10, hv => exact hv
          | 11, hv => exact hv
          | 12, hv => exact hv
          | 13, hv => exact hv
          | 14, hv => exact hv
          | 15, hv => exact hv
          | 16, hv => exact hv
          | 17, hv => exact hv
          | 18, hv => exact hv
          | 19, hv => exact hv
          | 20, hv => exact hv
          | 21, hv => exact hv
          | 22, hv => exact hv
          | 23, hv => exact hv
          | 24, hv => exact hv
          | 25, hv => exact hv
          | 26, hv => exact hv
          | 27, hv => exact hv
          | 28, hv => exact hv
          | _ + 29, _ => exact trivial
        case hG => exact (Below.refl _ _).drew
        case hops =>
          refine OpsOkS.cons ?o0 (OpsOkS.cons ?o1 (OpsOkS.cons ?o2 (OpsOkS.cons ?o3 (OpsOkS.cons ?o4 (OpsOkS.cons ?o5 (OpsOkS.cons ?o6 (OpsOkS.cons ?o7 (OpsOkS.cons ?o8 (OpsOkS.cons ?o9 (OpsOkS.cons ?o10 (OpsOkS.cons ?o11 (OpsOkS.cons ?o12 (OpsOkS.cons ?o13 (OpsOkS.cons ?o14 (OpsOkS.cons ?o15 (OpsOkS.cons ?o16 (OpsOkS.cons ?o17 (OpsOkS.cons ?o18 (OpsOkS.cons ?o19 (OpsOkS.cons ?o20 (OpsOkS.cons ?o21 (OpsOkS.cons ?o22 (OpsOkS.cons ?o23 (OpsOkS.cons ?o24 (OpsOkS.cons ?o25 (OpsOkS.cons ?o26 (OpsOkS.cons ?o27 (OpsOkS.cons ?o28 OpsOkS.nil))))))))))))))))))))))))))))
          case o0 =>
            intro a w1 Kx hG need old hsz fresh hKx
            have e0 : a.tmps[4]?.getD undef = .pointer (some ⟨wr.heap.size, 0, none⟩) := by rw [← Array.getD_eq_getD_getElem?]; exact old 4 (by kernel_rfl)
            refine op_value (v := .pointer (some ⟨wr.heap.size, 0, none⟩)) (wanted_none rfl) ?_ (hKx _ w1 rfl hG (Below.refl _ _))
            simp [execOp, go_sem, e0]
          case o1 =>
            intro a w1 Kx hG need old hsz fresh hKx
            have e0 : a.tmps[15]?.getD undef = .pointer (some ⟨wr.heap.size, 0, none⟩) := by rw [← Array.getD_eq_getD_getElem?]; exact (need 0 (by kernel_rfl) (by kernel_rfl))
            have k0 := (HK.out w1 hG).1
            refine op_value (v := .string s) (wanted_none rfl) ?_ (hKx _ w1 rfl hG (Below.refl _ _))
            simp [execOp, go_sem, e0, k0]
          case o2 =>
            intro a w1 Kx hG need old hsz fresh hKx
            have e0 : a.tmps[16]?.getD undef = .string s := by rw [← Array.getD_eq_getD_getElem?]; exact (need 1 (by kernel_rfl) (by kernel_rfl))
            refine op_call (wanted_none rfl) (f := 71) (args := #[.string s]) ?run ((HC.out w1).mono ?post)
            case run => simp [go_sem, e0]
            case post =>
              rintro e w2 ⟨rfl, hb2⟩
              exact ⟨_, rfl, hKx _ w2 rfl (hG.trans (hb2.mono hG.size)) hb2⟩
          case o3 =>
            intro a w1 Kx hG need old hsz fresh hKx
            have e0 : a.tmps[17]?.getD undef = .bool false := by rw [← Array.getD_eq_getD_getElem?]; exact (need 2 (by kernel_rfl) (by kernel_rfl))
            refine op_value (v := .bool true) (wanted_none rfl) ?_ (hKx _ w1 rfl hG (Below.refl _ _))
            simp [execOp, go_sem, e0]
          case o4 =>
            intro a w1 Kx hG need old hsz fresh hKx
            have e0 : a.tmps[18]?.getD undef = .bool true := by rw [← Array.getD_eq_getD_getElem?]; exact (need 3 (by kernel_rfl) (by kernel_rfl))
            refine op_value (v := .bool true) (wanted_none rfl) ?_ (hKx _ w1 rfl hG (Below.refl _ _))
            simp [execOp, go_sem, e0]
          case o5 =>
            intro a w1 Kx hG need old hsz fresh hKx
            exact skip_op (j := 4) rfl (need 4 (by kernel_rfl) (by kernel_rfl)) (by decide) (hKx undef w1 rfl hG (Below.refl _ _))
          case o6 =>
            intro a w1 Kx hG need old hsz fresh hKx
            exact skip_op (j := 4) rfl (need 4 (by kernel_rfl) (by kernel_rfl)) (by decide) (hKx undef w1 rfl hG (Below.refl _ _))
          case o7 =>
            intro a w1 Kx hG need old hsz fresh hKx
            exact skip_op (j := 4) rfl (need 4 (by kernel_rfl) (by kernel_rfl)) (by decide) (hKx undef w1 rfl hG (Below.refl _ _))
          case o8 =>
            intro a w1 Kx hG need old hsz fresh hKx
            exact skip_undef (j := 7) rfl (need 7 (by kernel_rfl) (by kernel_rfl)) (hKx undef w1 rfl hG (Below.refl _ _))
          case o9 =>
            intro a w1 Kx hG need old hsz fresh hKx
            exact skip_undef (j := 7) rfl (need 7 (by kernel_rfl) (by kernel_rfl)) (hKx undef w1 rfl hG (Below.refl _ _))
          case o10 =>
            intro a w1 Kx hG need old hsz fresh hKx
            exact skip_undef (j := 7) rfl (need 7 (by kernel_rfl) (by kernel_rfl)) (hKx undef w1 rfl hG (Below.refl _ _))
          case o11 =>
            intro a w1 Kx hG need old hsz fresh hKx
            exact skip_undef (j := 7) rfl (need 7 (by kernel_rfl) (by kernel_rfl)) (hKx undef w1 rfl hG (Below.refl _ _))
          case o12 =>
            intro a w1 Kx hG need old hsz fresh hKx
            exact skip_undef (j := 7) rfl (need 7 (by kernel_rfl) (by kernel_rfl)) (hKx undef w1 rfl hG (Below.refl _ _))
          case o13 =>
            intro a w1 Kx hG need old hsz fresh hKx
            exact skip_undef (j := 7) rfl (need 7 (by kernel_rfl) (by kernel_rfl)) (hKx undef w1 rfl hG (Below.refl _ _))
          case o14 =>
            intro a w1 Kx hG need old hsz fresh hKx
            exact skip_undef (j := 7) rfl (need 7 (by kernel_rfl) (by kernel_rfl)) (hKx undef w1 rfl hG (Below.refl _ _))
          case o15 =>
            intro a w1 Kx hG need old hsz fresh hKx
            exact skip_undef (j := 7) rfl (need 7 (by kernel_rfl) (by kernel_rfl)) (hKx undef w1 rfl hG (Below.refl _ _))
          case o16 =>
            intro a w1 Kx hG need old hsz fresh hKx
            exact skip_undef (j := 7) rfl (need 7 (by kernel_rfl) (by kernel_rfl)) (hKx undef w1 rfl hG (Below.refl _ _))
          case o17 =>
            intro a w1 Kx hG need old hsz fresh hKx
            exact skip_op (j := 4) rfl (need 4 (by kernel_rfl) (by kernel_rfl)) (by decide) (hKx undef w1 rfl hG (Below.refl _ _))
          case o18 =>
            intro a w1 Kx hG need old hsz fresh hKx
            have e0 : a.tmps[19]?.getD undef = .bool true := by rw [← Array.getD_eq_getD_getElem?]; exact (need 4 (by kernel_rfl) (by kernel_rfl))
            refine op_value (v := .bool true) (wanted_none rfl) ?_ (hKx _ w1 rfl hG (Below.refl _ _))
            simp [execOp, go_sem, asBool, e0]
          case o19 =>
            intro a w1 Kx hG need old hsz fresh hKx
            have e0 : a.tmps[33]?.getD undef = .bool true := by rw [← Array.getD_eq_getD_getElem?]; exact (need 18 (by kernel_rfl) (by kernel_rfl))
            refine op_value (v := .bool true) (wanted_none rfl) ?_ (hKx _ w1 rfl hG (Below.refl _ _))
            simp [execOp, go_sem, e0]
          case o20 =>
            intro a w1 Kx hG need old hsz fresh hKx
            exact skip_op (j := 19) rfl (need 19 (by kernel_rfl) (by kernel_rfl)) (by decide) (hKx undef w1 rfl hG (Below.refl _ _))
          case o21 =>
            intro a w1 Kx hG need old hsz fresh hKx
            exact skip_op (j := 19) rfl (need 19 (by kernel_rfl) (by kernel_rfl)) (by decide) (hKx undef w1 rfl hG (Below.refl _ _))
          case o22 =>
            intro a w1 Kx hG need old hsz fresh hKx
            exact skip_op (j := 19) rfl (need 19 (by kernel_rfl) (by kernel_rfl)) (by decide) (hKx undef w1 rfl hG (Below.refl _ _))
          case o23 =>
            intro a w1 Kx hG need old hsz fresh hKx
            have e0 : a.tmps[34]?.getD undef = .bool true := by rw [← Array.getD_eq_getD_getElem?]; exact (need 19 (by kernel_rfl) (by kernel_rfl))
            refine op_value (v := .bool true) (wanted_none rfl) ?_ (hKx _ w1 rfl hG (Below.refl _ _))
            simp [execOp, go_sem, asBool, e0]
          case o24 =>
            intro a w1 Kx hG need old hsz fresh hKx
            have e0 : a.tmps[38]?.getD undef = .bool true := by rw [← Array.getD_eq_getD_getElem?]; exact (need 23 (by kernel_rfl) (by kernel_rfl))
            refine op_value (v := .bool true) (wanted_none rfl) ?_ (hKx _ w1 rfl hG (Below.refl _ _))
            simp [execOp, go_sem, e0]
          case o25 =>
            intro a w1 Kx hG need old hsz fresh hKx
            exact skip_op (j := 24) rfl (need 24 (by kernel_rfl) (by kernel_rfl)) (by decide) (hKx undef w1 rfl hG (Below.refl _ _))
          case o26 =>
            intro a w1 Kx hG need old hsz fresh hKx
            exact skip_op (j := 24) rfl (need 24 (by kernel_rfl) (by kernel_rfl)) (by decide) (hKx undef w1 rfl hG (Below.refl _ _))
          case o27 =>
            intro a w1 Kx hG need old hsz fresh hKx
            exact skip_op (j := 24) rfl (need 24 (by kernel_rfl) (by kernel_rfl)) (by decide) (hKx undef w1 rfl hG (Below.refl _ _))
          case o28 =>
            intro a w1 Kx hG need old hsz fresh hKx
            have e0 : a.tmps[39]?.getD undef = .bool true := by rw [← Array.getD_eq_getD_getElem?]; exact (need 24 (by kernel_rfl) (by kernel_rfl))
            refine op_value (v := .bool true) (wanted_none rfl) ?_ (hKx _ w1 rfl hG (Below.refl _ _))
            simp [execOp, go_sem, asBool, e0]
        case hend =>
          intro a w6 hG hde hsz hφ hold
          obtain rfl := act_puts [(15, .pointer (some ⟨wr.heap.size, 0, none⟩)), (16, .string s), (17, .bool false), (18, .bool true), (19, .bool true), (20, undef), (21, undef), (22, undef), (23, undef), (24, undef), (25, undef), (26, undef), (27, undef), (28, undef), (29, undef), (30, undef), (31, undef), (32, undef), (33, .bool true), (34, .bool true), (35, undef), (36, undef), (37, undef), (38, .bool true), (39, .bool true), (40, undef), (41, undef), (42, undef), (43, .bool true)] [15, 16, 17, 18, 19, 20, 21, 22, 23, 24, 25, 26, 27, 28, 29, 30, 31, 32, 33, 34, 35, 36, 37, 38, 39, 40, 41, 42, 43] rfl (by kernel_rfl) (by kernel_rfl) hde hsz (List.forall_mem_cons.2 ⟨(show a.tmps.getD 15 undef = .pointer (some ⟨wr.heap.size, 0, none⟩) from (hφ 0 (by kernel_rfl))), (List.forall_mem_cons.2 ⟨(show a.tmps.getD 16 undef = .string s from (hφ 1 (by kernel_rfl))), (List.forall_mem_cons.2 ⟨(show a.tmps.getD 17 undef = .bool false from (hφ 2 (by kernel_rfl))), (List.forall_mem_cons.2 ⟨(show a.tmps.getD 18 undef = .bool true from (hφ 3 (by kernel_rfl))), (List.forall_mem_cons.2 ⟨(show a.tmps.getD 19 undef = .bool true from (hφ 4 (by kernel_rfl))), (List.forall_mem_cons.2 ⟨(show a.tmps.getD 20 undef = undef from (hφ 5 (by kernel_rfl))), (List.forall_mem_cons.2 ⟨(show a.tmps.getD 21 undef = undef from (hφ 6 (by kernel_rfl))), (List.forall_mem_cons.2 ⟨(show a.tmps.getD 22 undef = undef from (hφ 7 (by kernel_rfl))), (List.forall_mem_cons.2 ⟨(show a.tmps.getD 23 undef = undef from (hφ 8 (by kernel_rfl))), (List.forall_mem_cons.2 ⟨(show a.tmps.getD 24 undef = undef from (hφ 9 (by kernel_rfl))), (List.forall_mem_cons.2 ⟨(show a.tmps.getD 25 undef = undef from (hφ 10 (by kernel_rfl))), (List.forall_mem_cons.2 ⟨(show a.tmps.getD 26 undef = undef from (hφ 11 (by kernel_rfl))), (List.forall_mem_cons.2 ⟨(show a.tmps.getD 27 undef = undef from (hφ 12 (by kernel_rfl))), (List.forall_mem_cons.2 ⟨(show a.tmps.getD 28 undef = undef from (hφ 13 (by kernel_rfl))), (List.forall_mem_cons.2 ⟨(show a.tmps.getD 29 undef = undef from (hφ 14 (by kernel_rfl))), (List.forall_mem_cons.2 ⟨(show a.tmps.getD 30 undef = undef from (hφ 15 (by kernel_rfl))), (List.forall_mem_cons.2 ⟨(show a.tmps.getD 31 undef = undef from (hφ 16 (by kernel_rfl))), (List.forall_mem_cons.2 ⟨(show a.tmps.getD 32 undef = undef from (hφ 17 (by kernel_rfl))), (List.forall_mem_cons.2 ⟨(show a.tmps.getD 33 undef = .bool true from (hφ 18 (by kernel_rfl))), (List.forall_mem_cons.2 ⟨(show a.tmps.getD 34 undef = .bool true from (hφ 19 (by kernel_rfl))), (List.forall_mem_cons.2 ⟨(show a.tmps.getD 35 undef = undef from (hφ 20 (by kernel_rfl))), (List.forall_mem_cons.2 ⟨(show a.tmps.getD 36 undef = undef from (hφ 21 (by kernel_rfl))), (List.forall_mem_cons.2 ⟨(show a.tmps.getD 37 undef = undef from (hφ 22 (by kernel_rfl))), (List.forall_mem_cons.2 ⟨(show a.tmps.getD 38 undef = .bool true from (hφ 23 (by kernel_rfl))), (List.forall_mem_cons.2 ⟨(show a.tmps.getD 39 undef = .bool true from (hφ 24 (by kernel_rfl))), (List.forall_mem_cons.2 ⟨(show a.tmps.getD 40 undef = undef from (hφ 25 (by kernel_rfl))), (List.forall_mem_cons.2 ⟨(show a.tmps.getD 41 undef = undef from (hφ 26 (by kernel_rfl))), (List.forall_mem_cons.2 ⟨(show a.tmps.getD 42 undef = undef from (hφ 27 (by kernel_rfl))), (List.forall_mem_cons.2 ⟨(show a.tmps.getD 43 undef = .bool true from (hφ 28 (by kernel_rfl))), (fun _ h => absurd h (by simp))⟩)⟩)⟩)⟩)⟩)⟩)⟩)⟩)⟩)⟩)⟩)⟩)⟩)⟩)⟩)⟩)⟩)⟩)⟩)⟩)⟩)⟩)⟩)⟩)⟩)⟩)⟩)⟩)⟩) hold
          clear hφ hold hsz hde
          simp only [putAll]
          go_frame
          go_wp2_with fail
          go_ret
          exact ⟨rfl, HBW.out.trans (hG.mono HBW.out.size)⟩
      | true =>
        by_cases hj0 : jx = 0
        · have hjz := Lib.hid hj0
          by_cases hn1 : n < 1
          · have hF : R = false := by rw [← hR.out]; exact mayEs_one hj1 (by rw [hq3.out, decide_eq_false (show ¬ 1 ≤ n by omega)]; rfl)
            subst hF
            refine region_st (fun j v w' => match j with | 0 => v = .pointer (some ⟨wr.heap.size, 0, none⟩) | 1 => v = .string s | 2 => v = .bool true | 3 => v = .bool false | 4 => v = .bool false | 5 => v = .int .i64 (jx : Nat) | 6 => v = .bool false | 7 => v = .bool false | 8 => v = undef | 9 => v = undef | 10 => v = undef | 11 => v = undef | 12 => v = undef | 13 => v = undef | 14 => v = undef | 15 => v = undef | 16 => v = undef | 17 => v = .bool false | 18 => v = .bool false | 19 => v = .bool false | 20 => v = .pointer (some ⟨wr.heap.size, 1, none⟩) | 21 => v = .int .i64 n | 22 => v = .bool true | 23 => v = .bool true | 24 => v = .bool true | 25 => v = undef | 26 => v = undef | 27 => v = undef | 28 => v = .bool true | _ => True) (fun _ w' => Below W.heap.size W w') (fun w1 w2 => Below w1.heap.size w1 w2) (by kernel_rfl) (by kernel_rfl) (by kernel_rfl) ?hR ?hG ?hops ?hend
            case hR =>
              intro j v w1 w2 hv hb
              match j, hv with
              | 0, hv => exact hv
              | 1, hv => exact hv
              | 2, hv => exact hv
              | 3, hv => exact hv
              | 4, hv => exact hv
              | 5, hv => exact hv
              | 6, hv => exact hv
              | 7, hv => exact hv
              | 8, hv => exact hv
              | 9, hv => exact hv
              | 10, hv => exact hv
              | 11, hv => exact hv
              | 12, hv => exact hv
              | 13, hv => exact hv
              | 14, hv => exact hv
              | 15, hv => exact hv
              | 16, hv => exact hv
              | 17, hv => exact hv
              | 18, hv => exact hv
              | 19, hv => exact hv
              | 20, hv => exact hv
              | 21, hv => exact hv
              | 22, hv => exact hv
              | 23, hv => exact hv
              | 24, hv => exact hv
              | 25, hv => exact hv
              | 26, hv => exact hv
              | 27, hv => exact hv
              | 28, hv => exact hv
              | _ + 29, _ => exact trivial
            case hG => exact (Below.refl _ _).drew
            case hops =>
              refine OpsOkS.cons ?o0 (OpsOkS.cons ?o1 (OpsOkS.cons ?o2 (OpsOkS.cons ?o3 (OpsOkS.cons ?o4 (OpsOkS.cons ?o5 (OpsOkS.cons ?o6 (OpsOkS.cons ?o7 (OpsOkS.cons ?o8 (OpsOkS.cons ?o9 (OpsOkS.cons ?o10 (OpsOkS.cons ?o11 (OpsOkS.cons ?o12 (OpsOkS.cons ?o13 (OpsOkS.cons ?o14 (OpsOkS.cons ?o15 (OpsOkS.cons ?o16 (OpsOkS.cons ?o17 (OpsOkS.cons ?o18 (OpsOkS.cons ?o19 (OpsOkS.cons ?o20 (OpsOkS.cons ?o21 (OpsOkS.cons ?o22 (OpsOkS.cons ?o23 (OpsOkS.cons ?o24 (OpsOkS.cons ?o25 (OpsOkS.cons ?o26 (OpsOkS.cons ?o27 (OpsOkS.cons ?o28 OpsOkS.nil))))))))))))))))))))))))))))
              case o0 =>
                intro a w1 Kx hG need old hsz fresh hKx
                have e0 : a.tmps[4]?.getD undef = .pointer (some ⟨wr.heap.size, 0, none⟩) := by rw [← Array.getD_eq_getD_getElem?]; exact old 4 (by kernel_rfl)
                refine op_value (v := .pointer (some ⟨wr.heap.size, 0, none⟩)) (wanted_none rfl) ?_ (hKx _ w1 rfl hG (Below.refl _ _))
                simp [execOp, go_sem, e0]
              case o1 =>
                intro a w1 Kx hG need old hsz fresh hKx
                have e0 : a.tmps[15]?.getD undef = .pointer (some ⟨wr.heap.size, 0, none⟩) := by rw [← Array.getD_eq_getD_getElem?]; exact (need 0 (by kernel_rfl) (by kernel_rfl))
                have k0 := (HK.out w1 hG).1
                refine op_value (v := .string s) (wanted_none rfl) ?_ (hKx _ w1 rfl hG (Below.refl _ _))
                simp [execOp, go_sem, e0, k0]
              case o2 =>
                intro a w1 Kx hG need old hsz fresh hKx
                have e0 : a.tmps[16]?.getD undef = .string s := by rw [← Array.getD_eq_getD_getElem?]; exact (need 1 (by kernel_rfl) (by kernel_rfl))
                refine op_call (wanted_none rfl) (f := 71) (args := #[.string s]) ?run ((HC.out w1).mono ?post)
                case run => simp [go_sem, e0]
                case post =>
                  rintro e w2 ⟨rfl, hb2⟩
                  exact ⟨_, rfl, hKx _ w2 rfl (hG.trans (hb2.mono hG.size)) hb2⟩
              case o3 =>
                intro a w1 Kx hG need old hsz fresh hKx
                have e0 : a.tmps[17]?.getD undef = .bool true := by rw [← Array.getD_eq_getD_getElem?]; exact (need 2 (by kernel_rfl) (by kernel_rfl))
                refine op_value (v := .bool false) (wanted_none rfl) ?_ (hKx _ w1 rfl hG (Below.refl _ _))
                simp [execOp, go_sem, e0]
              case o4 =>
                intro a w1 Kx hG need old hsz fresh hKx
                have e0 : a.tmps[18]?.getD undef = .bool false := by rw [← Array.getD_eq_getD_getElem?]; exact (need 3 (by kernel_rfl) (by kernel_rfl))
                refine op_value (v := .bool false) (wanted_none rfl) ?_ (hKx _ w1 rfl hG (Below.refl _ _))
                simp [execOp, go_sem, e0]
              case o5 =>
                intro a w1 Kx hG need old hsz fresh hKx
                have e0 : a.tmps[3]?.getD undef = .int .i64 (jx : Nat) := by rw [← Array.getD_eq_getD_getElem?]; exact old 3 (by kernel_rfl)
                refine op_value (v := .int .i64 (jx : Nat)) (wanted_of (j := 4) rfl (need 4 (by kernel_rfl) (by kernel_rfl))) ?_ (hKx _ w1 rfl hG (Below.refl _ _))
                simp [execOp, go_sem, e0]
              case o6 =>
                intro a w1 Kx hG need old hsz fresh hKx
                have e0 : a.tmps[20]?.getD undef = .int .i64 (jx : Nat) := by rw [← Array.getD_eq_getD_getElem?]; exact (need 5 (by kernel_rfl) (by kernel_rfl))
                refine op_value (v := .bool false) (wanted_of (j := 4) rfl (need 4 (by kernel_rfl) (by kernel_rfl))) ?_ (hKx _ w1 rfl hG (Below.refl _ _))
                simp [execOp, go_sem, e0]; exact hjz.out
              case o7 =>
                intro a w1 Kx hG need old hsz fresh hKx
                have e0 : a.tmps[21]?.getD undef = .bool false := by rw [← Array.getD_eq_getD_getElem?]; exact (need 6 (by kernel_rfl) (by kernel_rfl))
                refine op_value (v := .bool false) (wanted_of (j := 4) rfl (need 4 (by kernel_rfl) (by kernel_rfl))) ?_ (hKx _ w1 rfl hG (Below.refl _ _))
                simp [execOp, go_sem, e0]
              case o8 =>
                intro a w1 Kx hG need old hsz fresh hKx
                exact skip_op (j := 7) rfl (need 7 (by kernel_rfl) (by kernel_rfl)) (by decide) (hKx undef w1 rfl hG (Below.refl _ _))
              case o9 =>
                intro a w1 Kx hG need old hsz fresh hKx
                exact skip_op (j := 7) rfl (need 7 (by kernel_rfl) (by kernel_rfl)) (by decide) (hKx undef w1 rfl hG (Below.refl _ _))
              case o10 =>
                intro a w1 Kx hG need old hsz fresh hKx
                exact skip_op (j := 7) rfl (need 7 (by kernel_rfl) (by kernel_rfl)) (by decide) (hKx undef w1 rfl hG (Below.refl _ _))
              case o11 =>
                intro a w1 Kx hG need old hsz fresh hKx
                exact skip_op (j := 7) rfl (need 7 (by kernel_rfl) (by kernel_rfl)) (by decide) (hKx undef w1 rfl hG (Below.refl _ _))
              case o12 =>
                intro a w1 Kx hG need old hsz fresh hKx
                exact skip_op (j := 7) rfl (need 7 (by kernel_rfl) (by kernel_rfl)) (by decide) (hKx undef w1 rfl hG (Below.refl _ _))
              case o13 =>
                intro a w1 Kx hG need old hsz fresh hKx
                exact skip_op (j := 7) rfl (need 7 (by kernel_rfl) (by kernel_rfl)) (by decide) (hKx undef w1 rfl hG (Below.refl _ _))
              case o14 =>
                intro a w1 Kx hG need old hsz fresh hKx
                exact skip_op (j := 7) rfl (need 7 (by kernel_rfl) (by kernel_rfl)) (by decide) (hKx undef w1 rfl hG (Below.refl _ _))
              case o15 =>
                intro a w1 Kx hG need old hsz fresh hKx
                exact skip_op (j := 7) rfl (need 7 (by kernel_rfl) (by kernel_rfl)) (by decide) (hKx undef w1 rfl hG (Below.refl _ _))
              case o16 =>
                intro a w1 Kx hG need old hsz fresh hKx
                exact skip_op (j := 7) rfl (need 7 (by kernel_rfl) (by kernel_rfl)) (by decide) (hKx undef w1 rfl hG (Below.refl _ _))
              case o17 =>
                intro a w1 Kx hG need old hsz fresh hKx
                have e0 : a.tmps[22]?.getD undef = .bool false := by rw [← Array.getD_eq_getD_getElem?]; exact (need 7 (by kernel_rfl) (by kernel_rfl))
                refine op_value (v := .bool false) (wanted_of (j := 4) rfl (need 4 (by kernel_rfl) (by kernel_rfl))) ?_ (hKx _ w1 rfl hG (Below.refl _ _))
                simp [execOp, go_sem, asBool, e0]
              case o18 =>
                intro a w1 Kx hG need old hsz fresh hKx
                have e0 : a.tmps[19]?.getD undef = .bool false := by rw [← Array.getD_eq_getD_getElem?]; exact (need 4 (by kernel_rfl) (by kernel_rfl))
                have e1 : a.tmps[32]?.getD undef = .bool false := by rw [← Array.getD_eq_getD_getElem?]; exact (need 17 (by kernel_rfl) (by kernel_rfl))
                refine op_value (v := .bool false) (wanted_none rfl) ?_ (hKx _ w1 rfl hG (Below.refl _ _))
                simp [execOp, go_sem, asBool, e0, e1]
              case o19 =>
                intro a w1 Kx hG need old hsz fresh hKx
                have e0 : a.tmps[33]?.getD undef = .bool false := by rw [← Array.getD_eq_getD_getElem?]; exact (need 18 (by kernel_rfl) (by kernel_rfl))
                refine op_value (v := .bool false) (wanted_none rfl) ?_ (hKx _ w1 rfl hG (Below.refl _ _))
                simp [execOp, go_sem, e0]
              case o20 =>
                intro a w1 Kx hG need old hsz fresh hKx
                have e0 : a.tmps[4]?.getD undef = .pointer (some ⟨wr.heap.size, 0, none⟩) := by rw [← Array.getD_eq_getD_getElem?]; exact old 4 (by kernel_rfl)
                refine op_value (v := .pointer (some ⟨wr.heap.size, 1, none⟩)) (wanted_of (j := 19) rfl (need 19 (by kernel_rfl) (by kernel_rfl))) ?_ (hKx _ w1 rfl hG (Below.refl _ _))
                simp [execOp, go_sem, e0]
              case o21 =>
                intro a w1 Kx hG need old hsz fresh hKx
                have e0 : a.tmps[35]?.getD undef = .pointer (some ⟨wr.heap.size, 1, none⟩) := by rw [← Array.getD_eq_getD_getElem?]; exact (need 20 (by kernel_rfl) (by kernel_rfl))
                have k0 := (HK.out w1 hG).2.1
                refine op_value (v := .int .i64 n) (wanted_of (j := 19) rfl (need 19 (by kernel_rfl) (by kernel_rfl))) ?_ (hKx _ w1 rfl hG (Below.refl _ _))
                simp [execOp, go_sem, e0, k0]
              case o22 =>
                intro a w1 Kx hG need old hsz fresh hKx
                have e0 : a.tmps[36]?.getD undef = .int .i64 n := by rw [← Array.getD_eq_getD_getElem?]; exact (need 21 (by kernel_rfl) (by kernel_rfl))
                refine op_value (v := .bool true) (wanted_of (j := 19) rfl (need 19 (by kernel_rfl) (by kernel_rfl))) ?_ (hKx _ w1 rfl hG (Below.refl _ _))
                simp [execOp, go_sem, e0]; omega
              case o23 =>
                intro a w1 Kx hG need old hsz fresh hKx
                have e0 : a.tmps[34]?.getD undef = .bool false := by rw [← Array.getD_eq_getD_getElem?]; exact (need 19 (by kernel_rfl) (by kernel_rfl))
                have e1 : a.tmps[37]?.getD undef = .bool true := by rw [← Array.getD_eq_getD_getElem?]; exact (need 22 (by kernel_rfl) (by kernel_rfl))
                refine op_value (v := .bool true) (wanted_none rfl) ?_ (hKx _ w1 rfl hG (Below.refl _ _))
                simp [execOp, go_sem, asBool, e0, e1]
              case o24 =>
                intro a w1 Kx hG need old hsz fresh hKx
                have e0 : a.tmps[38]?.getD undef = .bool true := by rw [← Array.getD_eq_getD_getElem?]; exact (need 23 (by kernel_rfl) (by kernel_rfl))
                refine op_value (v := .bool true) (wanted_none rfl) ?_ (hKx _ w1 rfl hG (Below.refl _ _))
                simp [execOp, go_sem, e0]
              case o25 =>
                intro a w1 Kx hG need old hsz fresh hKx
                exact skip_op (j := 24) rfl (need 24 (by kernel_rfl) (by kernel_rfl)) (by decide) (hKx undef w1 rfl hG (Below.refl _ _))
              case o26 =>
                intro a w1 Kx hG need old hsz fresh hKx
                exact skip_op (j := 24) rfl (need 24 (by kernel_rfl) (by kernel_rfl)) (by decide) (hKx undef w1 rfl hG (Below.refl _ _))
              case o27 =>
                intro a w1 Kx hG need old hsz fresh hKx
                exact skip_op (j := 24) rfl (need 24 (by kernel_rfl) (by kernel_rfl)) (by decide) (hKx undef w1 rfl hG (Below.refl _ _))
              case o28 =>
                intro a w1 Kx hG need old hsz fresh hKx
                have e0 : a.tmps[39]?.getD undef = .bool true := by rw [← Array.getD_eq_getD_getElem?]; exact (need 24 (by kernel_rfl) (by kernel_rfl))
                refine op_value (v := .bool true) (wanted_none rfl) ?_ (hKx _ w1 rfl hG (Below.refl _ _))
                simp [execOp, go_sem, asBool, e0]
            case hend =>
              intro a w6 hG hde hsz hφ hold
              obtain rfl := act_puts [(15, .pointer (some ⟨wr.heap.size, 0, none⟩)), (16, .string s), (17, .bool true), (18, .bool false), (19, .bool false), (20, .int .i64 (jx : Nat)), (21, .bool false), (22, .bool false), (23, undef), (24, undef), (25, undef), (26, undef), (27, undef), (28, undef), (29, undef), (30, undef), (31, undef), (32, .bool false), (33, .bool false), (34, .bool false), (35, .pointer (some ⟨wr.heap.size, 1, none⟩)), (36, .int .i64 n), (37, .bool true), (38, .bool true), (39, .bool true), (40, undef), (41, undef), (42, undef), (43, .bool true)] [15, 16, 17, 18, 19, 20, 21, 22, 23, 24, 25, 26, 27, 28, 29, 30, 31, 32, 33, 34, 35, 36, 37, 38, 39, 40, 41, 42, 43] rfl (by kernel_rfl) (by kernel_rfl) hde hsz (List.forall_mem_cons.2 ⟨(show a.tmps.getD 15 undef = .pointer (some ⟨wr.heap.size, 0, none⟩) from (hφ 0 (by kernel_rfl))), (List.forall_mem_cons.2 ⟨(show a.tmps.getD 16 undef = .string s from (hφ 1 (by kernel_rfl))), (List.forall_mem_cons.2 ⟨(show a.tmps.getD 17 undef = .bool true from (hφ 2 (by kernel_rfl))), (List.forall_mem_cons.2 ⟨(show a.tmps.getD 18 undef = .bool false from (hφ 3 (by kernel_rfl))), (List.forall_mem_cons.2 ⟨(show a.tmps.getD 19 undef = .bool false from (hφ 4 (by kernel_rfl))), (List.forall_mem_cons.2 ⟨(show a.tmps.getD 20 undef = .int .i64 (jx : Nat) from (hφ 5 (by kernel_rfl))), (List.forall_mem_cons.2 ⟨(show a.tmps.getD 21 undef = .bool false from (hφ 6 (by kernel_rfl))), (List.forall_mem_cons.2 ⟨(show a.tmps.getD 22 undef = .bool false from (hφ 7 (by kernel_rfl))), (List.forall_mem_cons.2 ⟨(show a.tmps.getD 23 undef = undef from (hφ 8 (by kernel_rfl))), (List.forall_mem_cons.2 ⟨(show a.tmps.getD 24 undef = undef from (hφ 9 (by kernel_rfl))), (List.forall_mem_cons.2 ⟨(show a.tmps.getD 25 undef = undef from (hφ 10 (by kernel_rfl))), (List.forall_mem_cons.2 ⟨(show a.tmps.getD 26 undef = undef from (hφ 11 (by kernel_rfl))), (List.forall_mem_cons.2 ⟨(show a.tmps.getD 27 undef = undef from (hφ 12 (by kernel_rfl))), (List.forall_mem_cons.2 ⟨(show a.tmps.getD 28 undef = undef from (hφ 13 (by kernel_rfl))), (List.forall_mem_cons.2 ⟨(show a.tmps.getD 29 undef = undef from (hφ 14 (by kernel_rfl))), (List.forall_mem_cons.2 ⟨(show a.tmps.getD 30 undef = undef from (hφ 15 (by kernel_rfl))), (List.forall_mem_cons.2 ⟨(show a.tmps.getD 31 undef = undef from (hφ 16 (by kernel_rfl))), (List.forall_mem_cons.2 ⟨(show a.tmps.getD 32 undef = .bool false from (hφ 17 (by kernel_rfl))), (List.forall_mem_cons.2 ⟨(show a.tmps.getD 33 undef = .bool false from (hφ 18 (by kernel_rfl))), (List.forall_mem_cons.2 ⟨(show a.tmps.getD 34 undef = .bool false from (hφ 19 (by kernel_rfl))), (List.forall_mem_cons.2 ⟨(show a.tmps.getD 35 undef = .pointer (some ⟨wr.heap.size, 1, none⟩) from (hφ 20 (by kernel_rfl))), (List.forall_mem_cons.2 ⟨(show a.tmps.getD 36 undef = .int .i64 n from (hφ 21 (by kernel_rfl))), (List.forall_mem_cons.2 ⟨(show a.tmps.getD 37 undef = .bool true from (hφ 22 (by kernel_rfl))), (List.forall_mem_cons.2 ⟨(show a.tmps.getD 38 undef = .bool true from (hφ 23 (by kernel_rfl))), (List.forall_mem_cons.2 ⟨(show a.tmps.getD 39 undef = .bool true from (hφ 24 (by kernel_rfl))), (List.forall_mem_cons.2 ⟨(show a.tmps.getD 40 undef = undef from (hφ 25 (by kernel_rfl))), (List.forall_mem_cons.2 ⟨(show a.tmps.getD 41 undef = undef from (hφ 26 (by kernel_rfl))), (List.forall_mem_cons.2 ⟨(show a.tmps.getD 42 undef = undef from (hφ 27 (by kernel_rfl))), (List.forall_mem_cons.2 ⟨(show a.tmps.getD 43 undef = .bool true from (hφ 28 (by kernel_rfl))), (fun _ h => absurd h (by simp))⟩)⟩)⟩)⟩)⟩)⟩)⟩)⟩)⟩)⟩)⟩)⟩)⟩)⟩)⟩)⟩)⟩)⟩)⟩)⟩)⟩)⟩)⟩)⟩)⟩)⟩)⟩)⟩)⟩) hold
              clear hφ hold hsz hde
              simp only [putAll]
              go_frame
              go_wp2_with fail
              go_ret
              exact ⟨rfl, HBW.out.trans (hG.mono HBW.out.size)⟩
          · by_cases hn2 : 12 ≤ n
            · have hF : R = false := by rw [← hR.out]; exact mayEs_one hj1 (by rw [hq3.out, decide_eq_false (show ¬ n ≤ 11 by omega)]; simp)
              subst hF
              refine region_st (fun j v w' => match j with | 0 => v = .pointer (some ⟨wr.heap.size, 0, none⟩) | 1 => v = .string s | 2 => v = .bool true | 3 => v = .bool false | 4 => v = .bool false | 5 => v = .int .i64 (jx : Nat) | 6 => v = .bool false | 7 => v = .bool false | 8 => v = undef | 9 => v = undef | 10 => v = undef | 11 => v = undef | 12 => v = undef | 13 => v = undef | 14 => v = undef | 15 => v = undef | 16 => v = undef | 17 => v = .bool false | 18 => v = .bool false | 19 => v = .bool false | 20 => v = .pointer (some ⟨wr.heap.size, 1, none⟩) | 21 => v = .int .i64 n | 22 => v = .bool false | 23 => v = .bool false | 24 => v = .bool false | 25 => v = .pointer (some ⟨wr.heap.size, 1, none⟩) | 26 => v = .int .i64 n | 27 => v = .bool true | 28 => v = .bool true | _ => True) (fun _ w' => Below W.heap.size W w') (fun w1 w2 => Below w1.heap.size w1 w2) (by kernel_rfl) (by kernel_rfl) (by kernel_rfl) ?hR ?hG ?hops ?hend
              case hR =>
                intro j v w1 w2 hv hb
                match j, hv with
                | 0, hv => exact hv
                | 1, hv => exact hv
                | 2, hv => exact hv
                | 3, hv => exact hv
                | 4, hv => exact hv
                | 5, hv => exact hv
                | 6, hv => exact hv
                | 7, hv => exact hv
                | 8, hv => exact hv
                | 9, hv => exact hv
                | 10, hv => exact hv
                | 11, hv => exact hv
                | 12, hv => exact hv
                | 13, hv => exact hv
                | 14, hv => exact hv
                | 15, hv => exact hv
                | 16, hv => exact hv
                | 17, hv => exact hv
                | 18, hv => exact hv
                | 19, hv => exact hv
                | 20, hv => exact hv
                | 21, hv => exact hv
                | 22, hv => exact hv
                | 23, hv => exact hv
                | 24, hv => exact hv
                | 25, hv => exact hv
                | 26, hv => exact hv
                | 27, hv => exact hv
                | 28, hv => exact hv
                | _ + 29, _ => exact trivial
              case hG => exact (Below.refl _ _).drew
              case hops =>
                refine OpsOkS.cons ?o0 (OpsOkS.cons ?o1 (OpsOkS.cons ?o2 (OpsOkS.cons ?o3 (OpsOkS.cons ?o4 (OpsOkS.cons ?o5 (OpsOkS.cons ?o6 (OpsOkS.cons ?o7 (OpsOkS.cons ?o8 (OpsOkS.cons ?o9 (OpsOkS.cons ?o10 (OpsOkS.cons ?o11 (OpsOkS.cons ?o12 (OpsOkS.cons ?o13 (OpsOkS.cons ?o14 (OpsOkS.cons ?o15 (OpsOkS.cons ?o16 (OpsOkS.cons ?o17 (OpsOkS.cons ?o18 (OpsOkS.cons ?o19 (OpsOkS.cons ?o20 (OpsOkS.cons ?o21 (OpsOkS.cons ?o22 (OpsOkS.cons ?o23 (OpsOkS.cons ?o24 (OpsOkS.cons ?o25 (OpsOkS.cons ?o26 (OpsOkS.cons ?o27 (OpsOkS.cons ?o28 OpsOkS.nil))))))))))))))))))))))))))))
                case o0 =>
                  intro a w1 Kx hG need old hsz fresh hKx
                  have e0 : a.tmps[4]?.getD undef = .pointer (some ⟨wr.heap.size, 0, none⟩) := by rw [← Array.getD_eq_getD_getElem?]; exact old 4 (by kernel_rfl)
                  refine op_value (v := .pointer (some ⟨wr.heap.size, 0, none⟩)) (wanted_none rfl) ?_ (hKx _ w1 rfl hG (Below.refl _ _))
                  simp [execOp, go_sem, e0]
                case o1 =>
                  intro a w1 Kx hG need old hsz fresh hKx
                  have e0 : a.tmps[15]?.getD undef = .pointer (some ⟨wr.heap.size, 0, none⟩) := by rw [← Array.getD_eq_getD_getElem?]; exact (need 0 (by kernel_rfl) (by kernel_rfl))
                  have k0 := (HK.out w1 hG).1
                  refine op_value (v := .string s) (wanted_none rfl) ?_ (hKx _ w1 rfl hG (Below.refl _ _))
                  simp [execOp, go_sem, e0, k0]
                case o2 =>
                  intro a w1 Kx hG need old hsz fresh hKx
                  have e0 : a.tmps[16]?.getD undef = .string s := by rw [← Array.getD_eq_getD_getElem?]; exact (need 1 (by kernel_rfl) (by kernel_rfl))
                  refine op_call (wanted_none rfl) (f := 71) (args := #[.string s]) ?run ((HC.out w1).mono ?post)
                  case run => simp [go_sem, e0]
                  case post =>
                    rintro e w2 ⟨rfl, hb2⟩
                    exact ⟨_, rfl, hKx _ w2 rfl (hG.trans (hb2.mono hG.size)) hb2⟩
                case o3 =>
                  intro a w1 Kx hG need old hsz fresh hKx
                  have e0 : a.tmps[17]?.getD undef = .bool true := by rw [← Array.getD_eq_getD_getElem?]; exact (need 2 (by kernel_rfl) (by kernel_rfl))
                  refine op_value (v := .bool false) (wanted_none rfl) ?_ (hKx _ w1 rfl hG (Below.refl _ _))
                  simp [execOp, go_sem, e0]
                case o4 =>
                  intro a w1 Kx hG need old hsz fresh hKx
                  have e0 : a.tmps[18]?.getD undef = .bool false := by rw [← Array.getD_eq_getD_getElem?]; exact (need 3 (by kernel_rfl) (by kernel_rfl))
                  refine op_value (v := .bool false) (wanted_none rfl) ?_ (hKx _ w1 rfl hG (Below.refl _ _))
                  simp [execOp, go_sem, e0]
                case o5 =>
                  intro a w1 Kx hG need old hsz fresh hKx
                  have e0 : a.tmps[3]?.getD undef = .int .i64 (jx : Nat) := by rw [← Array.getD_eq_getD_getElem?]; exact old 3 (by kernel_rfl)
                  refine op_value (v := .int .i64 (jx : Nat)) (wanted_of (j := 4) rfl (need 4 (by kernel_rfl) (by kernel_rfl))) ?_ (hKx _ w1 rfl hG (Below.refl _ _))
                  simp [execOp, go_sem, e0]
                case o6 =>
                  intro a w1 Kx hG need old hsz fresh hKx
                  have e0 : a.tmps[20]?.getD undef = .int .i64 (jx : Nat) := by rw [← Array.getD_eq_getD_getElem?]; exact (need 5 (by kernel_rfl) (by kernel_rfl))
                  refine op_value (v := .bool false) (wanted_of (j := 4) rfl (need 4 (by kernel_rfl) (by kernel_rfl))) ?_ (hKx _ w1 rfl hG (Below.refl _ _))
                  simp [execOp, go_sem, e0]; exact hjz.out
                case o7 =>
                  intro a w1 Kx hG need old hsz fresh hKx
                  have e0 : a.tmps[21]?.getD undef = .bool false := by rw [← Array.getD_eq_getD_getElem?]; exact (need 6 (by kernel_rfl) (by kernel_rfl))
                  refine op_value (v := .bool false) (wanted_of (j := 4) rfl (need 4 (by kernel_rfl) (by kernel_rfl))) ?_ (hKx _ w1 rfl hG (Below.refl _ _))
                  simp [execOp, go_sem, e0]
                case o8 =>
                  intro a w1 Kx hG need old hsz fresh hKx
                  exact skip_op (j := 7) rfl (need 7 (by kernel_rfl) (by kernel_rfl)) (by decide) (hKx undef w1 rfl hG (Below.refl _ _))
                case o9 =>
                  intro a w1 Kx hG need old hsz fresh hKx
                  exact skip_op (j := 7) rfl (need 7 (by kernel_rfl) (by kernel_rfl)) (by decide) (hKx undef w1 rfl hG (Below.refl _ _))
                case o10 =>
                  intro a w1 Kx hG need old hsz fresh hKx
                  exact skip_op (j := 7) rfl (need 7 (by kernel_rfl) (by kernel_rfl)) (by decide) (hKx undef w1 rfl hG (Below.refl _ _))
                case o11 =>
                  intro a w1 Kx hG need old hsz fresh hKx
                  exact skip_op (j := 7) rfl (need 7 (by kernel_rfl) (by kernel_rfl)) (by decide) (hKx undef w1 rfl hG (Below.refl _ _))
                case o12 =>
                  intro a w1 Kx hG need old hsz fresh hKx
                  exact skip_op (j := 7) rfl (need 7 (by kernel_rfl) (by kernel_rfl)) (by decide) (hKx undef w1 rfl hG (Below.refl _ _))
                case o13 =>
                  intro a w1 Kx hG need old hsz fresh hKx
                  exact skip_op (j := 7) rfl (need 7 (by kernel_rfl) (by kernel_rfl)) (by decide) (hKx undef w1 rfl hG (Below.refl _ _))
                case o14 =>
                  intro a w1 Kx hG need old hsz fresh hKx
                  exact skip_op (j := 7) rfl (need 7 (by kernel_rfl) (by kernel_rfl)) (by decide) (hKx undef w1 rfl hG (Below.refl _ _))
                case o15 =>
                  intro a w1 Kx hG need old hsz fresh hKx
                  exact skip_op (j := 7) rfl (need 7 (by kernel_rfl) (by kernel_rfl)) (by decide) (hKx undef w1 rfl hG (Below.refl _ _))
                case o16 =>
                  intro a w1 Kx hG need old hsz fresh hKx
                  exact skip_op (j := 7) rfl (need 7 (by kernel_rfl) (by kernel_rfl)) (by decide) (hKx undef w1 rfl hG (Below.refl _ _))
                case o17 =>
                  intro a w1 Kx hG need old hsz fresh hKx
                  have e0 : a.tmps[22]?.getD undef = .bool false := by rw [← Array.getD_eq_getD_getElem?]; exact (need 7 (by kernel_rfl) (by kernel_rfl))
                  refine op_value (v := .bool false) (wanted_of (j := 4) rfl (need 4 (by kernel_rfl) (by kernel_rfl))) ?_ (hKx _ w1 rfl hG (Below.refl _ _))
                  simp [execOp, go_sem, asBool, e0]
                case o18 =>
                  intro a w1 Kx hG need old hsz fresh hKx
                  have e0 : a.tmps[19]?.getD undef = .bool false := by rw [← Array.getD_eq_getD_getElem?]; exact (need 4 (by kernel_rfl) (by kernel_rfl))
                  have e1 : a.tmps[32]?.getD undef = .bool false := by rw [← Array.getD_eq_getD_getElem?]; exact (need 17 (by kernel_rfl) (by kernel_rfl))
                  refine op_value (v := .bool false) (wanted_none rfl) ?_ (hKx _ w1 rfl hG (Below.refl _ _))
                  simp [execOp, go_sem, asBool, e0, e1]
                case o19 =>
                  intro a w1 Kx hG need old hsz fresh hKx
                  have e0 : a.tmps[33]?.getD undef = .bool false := by rw [← Array.getD_eq_getD_getElem?]; exact (need 18 (by kernel_rfl) (by kernel_rfl))
                  refine op_value (v := .bool false) (wanted_none rfl) ?_ (hKx _ w1 rfl hG (Below.refl _ _))
                  simp [execOp, go_sem, e0]
                case o20 =>
                  intro a w1 Kx hG need old hsz fresh hKx
                  have e0 : a.tmps[4]?.getD undef = .pointer (some ⟨wr.heap.size, 0, none⟩) := by rw [← Array.getD_eq_getD_getElem?]; exact old 4 (by kernel_rfl)
                  refine op_value (v := .pointer (some ⟨wr.heap.size, 1, none⟩)) (wanted_of (j := 19) rfl (need 19 (by kernel_rfl) (by kernel_rfl))) ?_ (hKx _ w1 rfl hG (Below.refl _ _))
                  simp [execOp, go_sem, e0]
                case o21 =>
                  intro a w1 Kx hG need old hsz fresh hKx
                  have e0 : a.tmps[35]?.getD undef = .pointer (some ⟨wr.heap.size, 1, none⟩) := by rw [← Array.getD_eq_getD_getElem?]; exact (need 20 (by kernel_rfl) (by kernel_rfl))
                  have k0 := (HK.out w1 hG).2.1
                  refine op_value (v := .int .i64 n) (wanted_of (j := 19) rfl (need 19 (by kernel_rfl) (by kernel_rfl))) ?_ (hKx _ w1 rfl hG (Below.refl _ _))
                  simp [execOp, go_sem, e0, k0]
                case o22 =>
                  intro a w1 Kx hG need old hsz fresh hKx
                  have e0 : a.tmps[36]?.getD undef = .int .i64 n := by rw [← Array.getD_eq_getD_getElem?]; exact (need 21 (by kernel_rfl) (by kernel_rfl))
                  refine op_value (v := .bool false) (wanted_of (j := 19) rfl (need 19 (by kernel_rfl) (by kernel_rfl))) ?_ (hKx _ w1 rfl hG (Below.refl _ _))
                  simp [execOp, go_sem, e0]; omega
                case o23 =>
                  intro a w1 Kx hG need old hsz fresh hKx
                  have e0 : a.tmps[34]?.getD undef = .bool false := by rw [← Array.getD_eq_getD_getElem?]; exact (need 19 (by kernel_rfl) (by kernel_rfl))
                  have e1 : a.tmps[37]?.getD undef = .bool false := by rw [← Array.getD_eq_getD_getElem?]; exact (need 22 (by kernel_rfl) (by kernel_rfl))
                  refine op_value (v := .bool false) (wanted_none rfl) ?_ (hKx _ w1 rfl hG (Below.refl _ _))
                  simp [execOp, go_sem, asBool, e0, e1]
                case o24 =>
                  intro a w1 Kx hG need old hsz fresh hKx
                  have e0 : a.tmps[38]?.getD undef = .bool false := by rw [← Array.getD_eq_getD_getElem?]; exact (need 23 (by kernel_rfl) (by kernel_rfl))
                  refine op_value (v := .bool false) (wanted_none rfl) ?_ (hKx _ w1 rfl hG (Below.refl _ _))
                  simp [execOp, go_sem, e0]
                case o25 =>
                  intro a w1 Kx hG need old hsz fresh hKx
                  have e0 : a.tmps[4]?.getD undef = .pointer (some ⟨wr.heap.size, 0, none⟩) := by rw [← Array.getD_eq_getD_getElem?]; exact old 4 (by kernel_rfl)
                  refine op_value (v := .pointer (some ⟨wr.heap.size, 1, none⟩)) (wanted_of (j := 24) rfl (need 24 (by kernel_rfl) (by kernel_rfl))) ?_ (hKx _ w1 rfl hG (Below.refl _ _))
                  simp [execOp, go_sem, e0]
                case o26 =>
                  intro a w1 Kx hG need old hsz fresh hKx
                  have e0 : a.tmps[40]?.getD undef = .pointer (some ⟨wr.heap.size, 1, none⟩) := by rw [← Array.getD_eq_getD_getElem?]; exact (need 25 (by kernel_rfl) (by kernel_rfl))
                  have k0 := (HK.out w1 hG).2.1
                  refine op_value (v := .int .i64 n) (wanted_of (j := 24) rfl (need 24 (by kernel_rfl) (by kernel_rfl))) ?_ (hKx _ w1 rfl hG (Below.refl _ _))
                  simp [execOp, go_sem, e0, k0]
                case o27 =>
                  intro a w1 Kx hG need old hsz fresh hKx
                  have e0 : a.tmps[41]?.getD undef = .int .i64 n := by rw [← Array.getD_eq_getD_getElem?]; exact (need 26 (by kernel_rfl) (by kernel_rfl))
                  refine op_value (v := .bool true) (wanted_of (j := 24) rfl (need 24 (by kernel_rfl) (by kernel_rfl))) ?_ (hKx _ w1 rfl hG (Below.refl _ _))
                  simp [execOp, go_sem, e0]; omega
                case o28 =>
                  intro a w1 Kx hG need old hsz fresh hKx
                  have e0 : a.tmps[39]?.getD undef = .bool false := by rw [← Array.getD_eq_getD_getElem?]; exact (need 24 (by kernel_rfl) (by kernel_rfl))
                  have e1 : a.tmps[42]?.getD undef = .bool true := by rw [← Array.getD_eq_getD_getElem?]; exact (need 27 (by kernel_rfl) (by kernel_rfl))
                  refine op_value (v := .bool true) (wanted_none rfl) ?_ (hKx _ w1 rfl hG (Below.refl _ _))
                  simp [execOp, go_sem, asBool, e0, e1]
              case hend =>
                intro a w6 hG hde hsz hφ hold
                obtain rfl := act_puts [(15, .pointer (some ⟨wr.heap.size, 0, none⟩)), (16, .string s), (17, .bool true), (18, .bool false), (19, .bool false), (20, .int .i64 (jx : Nat)), (21, .bool false), (22, .bool false), (23, undef), (24, undef), (25, undef), (26, undef), (27, undef), (28, undef), (29, undef), (30, undef), (31, undef), (32, .bool false), (33, .bool false), (34, .bool false), (35, .pointer (some ⟨wr.heap.size, 1, none⟩)), (36, .int .i64 n), (37, .bool false), (38, .bool false), (39, .bool false), (40, .pointer (some ⟨wr.heap.size, 1, none⟩)), (41, .int .i64 n), (42, .bool true), (43, .bool true)] [15, 16, 17, 18, 19, 20, 21, 22, 23, 24, 25, 26, 27, 28, 29, 30, 31, 32, 33, 34, 35, 36, 37, 38, 39, 40, 41, 42, 43] rfl (by kernel_rfl) (by kernel_rfl) hde hsz (List.forall_mem_cons.2 ⟨(show a.tmps.getD 15 undef = .pointer (some ⟨wr.heap.size, 0, none⟩) from (hφ 0 (by kernel_rfl))), (List.forall_mem_cons.2 ⟨(show a.tmps.getD 16 undef = .string s from (hφ 1 (by kernel_rfl))), (List.forall_mem_cons.2 ⟨(show a.tmps.getD 17 undef = .bool true from (hφ 2 (by kernel_rfl))), (List.forall_mem_cons.2 ⟨(show a.tmps.getD 18 undef = .bool false from (hφ 3 (by kernel_rfl))), (List.forall_mem_cons.2 ⟨(show a.tmps.getD 19 undef = .bool false from (hφ 4 (by kernel_rfl))), (List.forall_mem_cons.2 ⟨(show a.tmps.getD 20 undef = .int .i64 (jx : Nat) from (hφ 5 (by kernel_rfl))), (List.forall_mem_cons.2 ⟨(show a.tmps.getD 21 undef = .bool false from (hφ 6 (by kernel_rfl))), (List.forall_mem_cons.2 ⟨(show a.tmps.getD 22 undef = .bool false from (hφ 7 (by kernel_rfl))), (List.forall_mem_cons.2 ⟨(show a.tmps.getD 23 undef = undef from (hφ 8 (by kernel_rfl))), (List.forall_mem_cons.2 ⟨(show a.tmps.getD 24 undef = undef from (hφ 9 (by kernel_rfl))), (List.forall_mem_cons.2 ⟨(show a.tmps.getD 25 undef = undef from (hφ 10 (by kernel_rfl))), (List.forall_mem_cons.2 ⟨(show a.tmps.getD 26 undef = undef from (hφ 11 (by kernel_rfl))), (List.forall_mem_cons.2 ⟨(show a.tmps.getD 27 undef = undef from (hφ 12 (by kernel_rfl))), (List.forall_mem_cons.2 ⟨(show a.tmps.getD 28 undef = undef from (hφ 13 (by kernel_rfl))), (List.forall_mem_cons.2 ⟨(show a.tmps.getD 29 undef = undef from (hφ 14 (by kernel_rfl))), (List.forall_mem_cons.2 ⟨(show a.tmps.getD 30 undef = undef from (hφ 15 (by kernel_rfl))), (List.forall_mem_cons.2 ⟨(show a.tmps.getD 31 undef = undef from (hφ 16 (by kernel_rfl))), (List.forall_mem_cons.2 ⟨(show a.tmps.getD 32 undef = .bool false from (hφ 17 (by kernel_rfl))), (List.forall_mem_cons.2 ⟨(show a.tmps.getD 33 undef = .bool false from (hφ 18 (by kernel_rfl))), (List.forall_mem_cons.2 ⟨(show a.tmps.getD 34 undef = .bool false from (hφ 19 (by kernel_rfl))), (List.forall_mem_cons.2 ⟨(show a.tmps.getD 35 undef = .pointer (some ⟨wr.heap.size, 1, none⟩) from (hφ 20 (by kernel_rfl))), (List.forall_mem_cons.2 ⟨(show a.tmps.getD 36 undef = .int .i64 n from (hφ 21 (by kernel_rfl))), (List.forall_mem_cons.2 ⟨(show a.tmps.getD 37 undef = .bool false from (hφ 22 (by kernel_rfl))), (List.forall_mem_cons.2 ⟨(show a.tmps.getD 38 undef = .bool false from (hφ 23 (by kernel_rfl))), (List.forall_mem_cons.2 ⟨(show a.tmps.getD 39 undef = .bool false from (hφ 24 (by kernel_rfl))), (List.forall_mem_cons.2 ⟨(show a.tmps.getD 40 undef = .pointer (some ⟨wr.heap.size, 1, none⟩) from (hφ 25 (by kernel_rfl))), (List.forall_mem_cons.2 ⟨(show a.tmps.getD 41 undef = .int .i64 n from (hφ 26 (by kernel_rfl))), (List.forall_mem_cons.2 ⟨(show a.tmps.getD 42 undef = .bool true from (hφ 27 (by kernel_rfl))), (List.forall_mem_cons.2 ⟨(show a.tmps.getD 43 undef = .bool true from (hφ 28 (by kernel_rfl))), (fun _ h => absurd h (by simp))⟩)⟩)⟩)⟩)⟩)⟩)⟩)⟩)⟩)⟩)⟩)⟩)⟩)⟩)⟩)⟩)⟩)⟩)⟩)⟩)⟩)⟩)⟩)⟩)⟩)⟩)⟩)⟩)⟩) hold
                clear hφ hold hsz hde
                simp only [putAll]
                go_frame
                go_wp2_with fail
                go_ret
                exact ⟨rfl, HBW.out.trans (hG.mono HBW.out.size)⟩
            · have hm2 : Hid (mayE l[jx] = true) := Lib.hid (by rw [hq3.out, decide_eq_true (show 1 ≤ n by omega), decide_eq_true (show n ≤ 11 by omega)]; rfl)
              refine region_st (fun j v w' => match j with | 0 => v = .pointer (some ⟨wr.heap.size, 0, none⟩) | 1 => v = .string s | 2 => v = .bool true | 3 => v = .bool false | 4 => v = .bool false | 5 => v = .int .i64 (jx : Nat) | 6 => v = .bool false | 7 => v = .bool false | 8 => v = undef | 9 => v = undef | 10 => v = undef | 11 => v = undef | 12 => v = undef | 13 => v = undef | 14 => v = undef | 15 => v = undef | 16 => v = undef | 17 => v = .bool false | 18 => v = .bool false | 19 => v = .bool false | 20 => v = .pointer (some ⟨wr.heap.size, 1, none⟩) | 21 => v = .int .i64 n | 22 => v = .bool false | 23 => v = .bool false | 24 => v = .bool false | 25 => v = .pointer (some ⟨wr.heap.size, 1, none⟩) | 26 => v = .int .i64 n | 27 => v = .bool false | 28 => v = .bool false | _ => True) (fun _ w' => Below W.heap.size W w') (fun w1 w2 => Below w1.heap.size w1 w2) (by kernel_rfl) (by kernel_rfl) (by kernel_rfl) ?hR ?hG ?hops ?hend
              case hR =>
                intro j v w1 w2 hv hb
                match j, hv with
                | 0, hv => exact hv
                | 1, hv => exact hv
                | 2, hv => exact hv
                | 3, hv => exact hv
                | 4, hv => exact hv
                | 5, hv => exact hv
                | 6, hv => exact hv
                | 7, hv => exact hv
                | 8, hv => exact hv
                | 9, hv => exact hv
                | 10, hv => exact hv
                | 11, hv => exact hv
                | 12, hv => exact hv
                | 13, hv => exact hv
                | 14, hv => exact hv
                | 15, hv => exact hv
                | 16, hv => exact hv
                | 17, hv => exact hv
                | 18, hv => exact hv
                | 19, hv => exact hv
                | 20, hv => exact hv
                | 21, hv => exact hv
                | 22, hv => exact hv
                | 23, hv => exact hv
                | 24, hv => exact hv
                | 25, hv => exact hv
                | 26, hv => exact hv
                | 27, hv => exact hv
                | 28, hv => exact hv
                | _ + 29, _ => exact trivial
              case hG => exact (Below.refl _ _).drew
              case hops =>
                refine OpsOkS.cons ?o0 (OpsOkS.cons ?o1 (OpsOkS.cons ?o2 (OpsOkS.cons ?o3 (OpsOkS.cons ?o4 (OpsOkS.cons ?o5 (OpsOkS.cons ?o6 (OpsOkS.cons ?o7 (OpsOkS.cons ?o8 (OpsOkS.cons ?o9 (OpsOkS.cons ?o10 (OpsOkS.cons ?o11 (OpsOkS.cons ?o12 (OpsOkS.cons ?o13 (OpsOkS.cons ?o14 (OpsOkS.cons ?o15 (OpsOkS.cons ?o16 (OpsOkS.cons ?o17 (OpsOkS.cons ?o18 (OpsOkS.cons ?o19 (OpsOkS.cons ?o20 (OpsOkS.cons ?o21 (OpsOkS.cons ?o22 (OpsOkS.cons ?o23 (OpsOkS.cons ?o24 (OpsOkS.cons ?o25 (OpsOkS.cons ?o26 (OpsOkS.cons ?o27 (OpsOkS.cons ?o28 OpsOkS.nil))))))))))))))))))))))))))))
                case o0 =>
                  intro a w1 Kx hG need old hsz fresh hKx
                  have e0 : a.tmps[4]?.getD undef = .pointer (some ⟨wr.heap.size, 0, none⟩) := by rw [← Array.getD_eq_getD_getElem?]; exact old 4 (by kernel_rfl)
                  refine op_value (v := .pointer (some ⟨wr.heap.size, 0, none⟩)) (wanted_none rfl) ?_ (hKx _ w1 rfl hG (Below.refl _ _))
                  simp [execOp, go_sem, e0]
                case o1 =>
                  intro a w1 Kx hG need old hsz fresh hKx
                  have e0 : a.tmps[15]?.getD undef = .pointer (some ⟨wr.heap.size, 0, none⟩) := by rw [← Array.getD_eq_getD_getElem?]; exact (need 0 (by kernel_rfl) (by kernel_rfl))
                  have k0 := (HK.out w1 hG).1
                  refine op_value (v := .string s) (wanted_none rfl) ?_ (hKx _ w1 rfl hG (Below.refl _ _))
                  simp [execOp, go_sem, e0, k0]
                case o2 =>
                  intro a w1 Kx hG need old hsz fresh hKx
                  have e0 : a.tmps[16]?.getD undef = .string s := by rw [← Array.getD_eq_getD_getElem?]; exact (need 1 (by kernel_rfl) (by kernel_rfl))
                  refine op_call (wanted_none rfl) (f := 71) (args := #[.string s]) ?run ((HC.out w1).mono ?post)
                  case run => simp [go_sem, e0]
                  case post =>
                    rintro e w2 ⟨rfl, hb2⟩
                    exact ⟨_, rfl, hKx _ w2 rfl (hG.trans (hb2.mono hG.size)) hb2⟩
                case o3 =>
                  intro a w1 Kx hG need old hsz fresh hKx
                  have e0 : a.tmps[17]?.getD undef = .bool true := by rw [← Array.getD_eq_getD_getElem?]; exact (need 2 (by kernel_rfl) (by kernel_rfl))
                  refine op_value (v := .bool false) (wanted_none rfl) ?_ (hKx _ w1 rfl hG (Below.refl _ _))
                  simp [execOp, go_sem, e0]
                case o4 =>
                  intro a w1 Kx hG need old hsz fresh hKx
                  have e0 : a.tmps[18]?.getD undef = .bool false := by rw [← Array.getD_eq_getD_getElem?]; exact (need 3 (by kernel_rfl) (by kernel_rfl))
                  refine op_value (v := .bool false) (wanted_none rfl) ?_ (hKx _ w1 rfl hG (Below.refl _ _))
                  simp [execOp, go_sem, e0]
                case o5 =>
                  intro a w1 Kx hG need old hsz fresh hKx
                  have e0 : a.tmps[3]?.getD undef = .int .i64 (jx : Nat) := by rw [← Array.getD_eq_getD_getElem?]; exact old 3 (by kernel_rfl)
                  refine op_value (v := .int .i64 (jx : Nat)) (wanted_of (j := 4) rfl (need 4 (by kernel_rfl) (by kernel_rfl))) ?_ (hKx _ w1 rfl hG (Below.refl _ _))
                  simp [execOp, go_sem, e0]
                case o6 =>
                  intro a w1 Kx hG need old hsz fresh hKx
                  have e0 : a.tmps[20]?.getD undef = .int .i64 (jx : Nat) := by rw [← Array.getD_eq_getD_getElem?]; exact (need 5 (by kernel_rfl) (by kernel_rfl))
                  refine op_value (v := .bool false) (wanted_of (j := 4) rfl (need 4 (by kernel_rfl) (by kernel_rfl))) ?_ (hKx _ w1 rfl hG (Below.refl _ _))
                  simp [execOp, go_sem, e0]; exact hjz.out
                case o7 =>
                  intro a w1 Kx hG need old hsz fresh hKx
                  have e0 : a.tmps[21]?.getD undef = .bool false := by rw [← Array.getD_eq_getD_getElem?]; exact (need 6 (by kernel_rfl) (by kernel_rfl))
                  refine op_value (v := .bool false) (wanted_of (j := 4) rfl (need 4 (by kernel_rfl) (by kernel_rfl))) ?_ (hKx _ w1 rfl hG (Below.refl _ _))
                  simp [execOp, go_sem, e0]
                case o8 =>
                  intro a w1 Kx hG need old hsz fresh hKx
                  exact skip_op (j := 7) rfl (need 7 (by kernel_rfl) (by kernel_rfl)) (by decide) (hKx undef w1 rfl hG (Below.refl _ _))
                case o9 =>
                  intro a w1 Kx hG need old hsz fresh hKx
                  exact skip_op (j := 7) rfl (need 7 (by kernel_rfl) (by kernel_rfl)) (by decide) (hKx undef w1 rfl hG (Below.refl _ _))
                case o10 =>
                  intro a w1 Kx hG need old hsz fresh hKx
                  exact skip_op (j := 7) rfl (need 7 (by kernel_rfl) (by kernel_rfl)) (by decide) (hKx undef w1 rfl hG (Below.refl _ _))
                case o11 =>
                  intro a w1 Kx hG need old hsz fresh hKx
                  exact skip_op (j := 7) rfl (need 7 (by kernel_rfl) (by kernel_rfl)) (by decide) (hKx undef w1 rfl hG (Below.refl _ _))
                case o12 =>
                  intro a w1 Kx hG need old hsz fresh hKx
                  exact skip_op (j := 7) rfl (need 7 (by kernel_rfl) (by kernel_rfl)) (by decide) (hKx undef w1 rfl hG (Below.refl _ _))
                case o13 =>
                  intro a w1 Kx hG need old hsz fresh hKx
                  exact skip_op (j := 7) rfl (need 7 (by kernel_rfl) (by kernel_rfl)) (by decide) (hKx undef w1 rfl hG (Below.refl _ _))
                case o14 =>
                  intro a w1 Kx hG need old hsz fresh hKx
                  exact skip_op (j := 7) rfl (need 7 (by kernel_rfl) (by kernel_rfl)) (by decide) (hKx undef w1 rfl hG (Below.refl _ _))
                case o15 =>
                  intro a w1 Kx hG need old hsz fresh hKx
                  exact skip_op (j := 7) rfl (need 7 (by kernel_rfl) (by kernel_rfl)) (by decide) (hKx undef w1 rfl hG (Below.refl _ _))
                case o16 =>
                  intro a w1 Kx hG need old hsz fresh hKx
                  exact skip_op (j := 7) rfl (need 7 (by kernel_rfl) (by kernel_rfl)) (by decide) (hKx undef w1 rfl hG (Below.refl _ _))
                case o17 =>
                  intro a w1 Kx hG need old hsz fresh hKx
                  have e0 : a.tmps[22]?.getD undef = .bool false := by rw [← Array.getD_eq_getD_getElem?]; exact (need 7 (by kernel_rfl) (by kernel_rfl))
                  refine op_value (v := .bool false) (wanted_of (j := 4) rfl (need 4 (by kernel_rfl) (by kernel_rfl))) ?_ (hKx _ w1 rfl hG (Below.refl _ _))
                  simp [execOp, go_sem, asBool, e0]
                case o18 =>
                  intro a w1 Kx hG need old hsz fresh hKx
                  have e0 : a.tmps[19]?.getD undef = .bool false := by rw [← Array.getD_eq_getD_getElem?]; exact (need 4 (by kernel_rfl) (by kernel_rfl))
                  have e1 : a.tmps[32]?.getD undef = .bool false := by rw [← Array.getD_eq_getD_getElem?]; exact (need 17 (by kernel_rfl) (by kernel_rfl))
                  refine op_value (v := .bool false) (wanted_none rfl) ?_ (hKx _ w1 rfl hG (Below.refl _ _))
                  simp [execOp, go_sem, asBool, e0, e1]
                case o19 =>
                  intro a w1 Kx hG need old hsz fresh hKx
                  have e0 : a.tmps[33]?.getD undef = .bool false := by rw [← Array.getD_eq_getD_getElem?]; exact (need 18 (by kernel_rfl) (by kernel_rfl))
                  refine op_value (v := .bool false) (wanted_none rfl) ?_ (hKx _ w1 rfl hG (Below.refl _ _))
                  simp [execOp, go_sem, e0]
                case o20 =>
                  intro a w1 Kx hG need old hsz fresh hKx
                  have e0 : a.tmps[4]?.getD undef = .pointer (some ⟨wr.heap.size, 0, none⟩) := by rw [← Array.getD_eq_getD_getElem?]; exact old 4 (by kernel_rfl)
                  refine op_value (v := .pointer (some ⟨wr.heap.size, 1, none⟩)) (wanted_of (j := 19) rfl (need 19 (by kernel_rfl) (by kernel_rfl))) ?_ (hKx _ w1 rfl hG (Below.refl _ _))
                  simp [execOp, go_sem, e0]
                case o21 =>
                  intro a w1 Kx hG need old hsz fresh hKx
                  have e0 : a.tmps[35]?.getD undef = .pointer (some ⟨wr.heap.size, 1, none⟩) := by rw [← Array.getD_eq_getD_getElem?]; exact (need 20 (by kernel_rfl) (by kernel_rfl))
                  have k0 := (HK.out w1 hG).2.1
                  refine op_value (v := .int .i64 n) (wanted_of (j := 19) rfl (need 19 (by kernel_rfl) (by kernel_rfl))) ?_ (hKx _ w1 rfl hG (Below.refl _ _))
                  simp [execOp, go_sem, e0, k0]
                case o22 =>
                  intro a w1 Kx hG need old hsz fresh hKx
                  have e0 : a.tmps[36]?.getD undef = .int .i64 n := by rw [← Array.getD_eq_getD_getElem?]; exact (need 21 (by kernel_rfl) (by kernel_rfl))
                  refine op_value (v := .bool false) (wanted_of (j := 19) rfl (need 19 (by kernel_rfl) (by kernel_rfl))) ?_ (hKx _ w1 rfl hG (Below.refl _ _))
                  simp [execOp, go_sem, e0]; omega
                case o23 =>
                  intro a w1 Kx hG need old hsz fresh hKx
                  have e0 : a.tmps[34]?.getD undef = .bool false := by rw [← Array.getD_eq_getD_getElem?]; exact (need 19 (by kernel_rfl) (by kernel_rfl))
                  have e1 : a.tmps[37]?.getD undef = .bool false := by rw [← Array.getD_eq_getD_getElem?]; exact (need 22 (by kernel_rfl) (by kernel_rfl))
                  refine op_value (v := .bool false) (wanted_none rfl) ?_ (hKx _ w1 rfl hG (Below.refl _ _))
                  simp [execOp, go_sem, asBool, e0, e1]
                case o24 =>
                  intro a w1 Kx hG need old hsz fresh hKx
                  have e0 : a.tmps[38]?.getD undef = .bool false := by rw [← Array.getD_eq_getD_getElem?]; exact (need 23 (by kernel_rfl) (by kernel_rfl))
                  refine op_value (v := .bool false) (wanted_none rfl) ?_ (hKx _ w1 rfl hG (Below.refl _ _))
                  simp [execOp, go_sem, e0]
                case o25 =>
                  intro a w1 Kx hG need old hsz fresh hKx
                  have e0 : a.tmps[4]?.getD undef = .pointer (some ⟨wr.heap.size, 0, none⟩) := by rw [← Array.getD_eq_getD_getElem?]; exact old 4 (by kernel_rfl)
                  refine op_value (v := .pointer (some ⟨wr.heap.size, 1, none⟩)) (wanted_of (j := 24) rfl (need 24 (by kernel_rfl) (by kernel_rfl))) ?_ (hKx _ w1 rfl hG (Below.refl _ _))
                  simp [execOp, go_sem, e0]
                case o26 =>
                  intro a w1 Kx hG need old hsz fresh hKx
                  have e0 : a.tmps[40]?.getD undef = .pointer (some ⟨wr.heap.size, 1, none⟩) := by rw [← Array.getD_eq_getD_getElem?]; exact (need 25 (by kernel_rfl) (by kernel_rfl))
                  have k0 := (HK.out w1 hG).2.1
                  refine op_value (v := .int .i64 n) (wanted_of (j := 24) rfl (need 24 (by kernel_rfl) (by kernel_rfl))) ?_ (hKx _ w1 rfl hG (Below.refl _ _))
                  simp [execOp, go_sem, e0, k0]
                case o27 =>
                  intro a w1 Kx hG need old hsz fresh hKx
                  have e0 : a.tmps[41]?.getD undef = .int .i64 n := by rw [← Array.getD_eq_getD_getElem?]; exact (need 26 (by kernel_rfl) (by kernel_rfl))
                  refine op_value (v := .bool false) (wanted_of (j := 24) rfl (need 24 (by kernel_rfl) (by kernel_rfl))) ?_ (hKx _ w1 rfl hG (Below.refl _ _))
                  simp [execOp, go_sem, e0]; omega
                case o28 =>
                  intro a w1 Kx hG need old hsz fresh hKx
                  have e0 : a.tmps[39]?.getD undef = .bool false := by rw [← Array.getD_eq_getD_getElem?]; exact (need 24 (by kernel_rfl) (by kernel_rfl))
                  have e1 : a.tmps[42]?.getD undef = .bool false := by rw [← Array.getD_eq_getD_getElem?]; exact (need 27 (by kernel_rfl) (by kernel_rfl))
                  refine op_value (v := .bool false) (wanted_none rfl) ?_ (hKx _ w1 rfl hG (Below.refl _ _))
                  simp [execOp, go_sem, asBool, e0, e1]
              case hend =>
                intro a w6 hG hde hsz hφ hold
                obtain rfl := act_puts [(15, .pointer (some ⟨wr.heap.size, 0, none⟩)), (16, .string s), (17, .bool true), (18, .bool false), (19, .bool false), (20, .int .i64 (jx : Nat)), (21, .bool false), (22, .bool false), (23, undef), (24, undef), (25, undef), (26, undef), (27, undef), (28, undef), (29, undef), (30, undef), (31, undef), (32, .bool false), (33, .bool false), (34, .bool false), (35, .pointer (some ⟨wr.heap.size, 1, none⟩)), (36, .int .i64 n), (37, .bool false), (38, .bool false), (39, .bool false), (40, .pointer (some ⟨wr.heap.size, 1, none⟩)), (41, .int .i64 n), (42, .bool false), (43, .bool false)] [15, 16, 17, 18, 19, 20, 21, 22, 23, 24, 25, 26, 27, 28, 29, 30, 31, 32, 33, 34, 35, 36, 37, 38, 39, 40, 41, 42, 43] rfl (by kernel_rfl) (by kernel_rfl) hde hsz (List.forall_mem_cons.2 ⟨(show a.tmps.getD 15 undef = .pointer (some ⟨wr.heap.size, 0, none⟩) from (hφ 0 (by kernel_rfl))), (List.forall_mem_cons.2 ⟨(show a.tmps.getD 16 undef = .string s from (hφ 1 (by kernel_rfl))), (List.forall_mem_cons.2 ⟨(show a.tmps.getD 17 undef = .bool true from (hφ 2 (by kernel_rfl))), (List.forall_mem_cons.2 ⟨(show a.tmps.getD 18 undef = .bool false from (hφ 3 (by kernel_rfl))), (List.forall_mem_cons.2 ⟨(show a.tmps.getD 19 undef = .bool false from (hφ 4 (by kernel_rfl))), (List.forall_mem_cons.2 ⟨(show a.tmps.getD 20 undef = .int .i64 (jx : Nat) from (hφ 5 (by kernel_rfl))), (List.forall_mem_cons.2 ⟨(show a.tmps.getD 21 undef = .bool false from (hφ 6 (by kernel_rfl))), (List.forall_mem_cons.2 ⟨(show a.tmps.getD 22 undef = .bool false from (hφ 7 (by kernel_rfl))), (List.forall_mem_cons.2 ⟨(show a.tmps.getD 23 undef = undef from (hφ 8 (by kernel_rfl))), (List.forall_mem_cons.2 ⟨(show a.tmps.getD 24 undef = undef from (hφ 9 (by kernel_rfl))), (List.forall_mem_cons.2 ⟨(show a.tmps.getD 25 undef = undef from (hφ 10 (by kernel_rfl))), (List.forall_mem_cons.2 ⟨(show a.tmps.getD 26 undef = undef from (hφ 11 (by kernel_rfl))), (List.forall_mem_cons.2 ⟨(show a.tmps.getD 27 undef = undef from (hφ 12 (by kernel_rfl))), (List.forall_mem_cons.2 ⟨(show a.tmps.getD 28 undef = undef from (hφ 13 (by kernel_rfl))), (List.forall_mem_cons.2 ⟨(show a.tmps.getD 29 undef = undef from (hφ 14 (by kernel_rfl))), (List.forall_mem_cons.2 ⟨(show a.tmps.getD 30 undef = undef from (hφ 15 (by kernel_rfl))), (List.forall_mem_cons.2 ⟨(show a.tmps.getD 31 undef = undef from (hφ 16 (by kernel_rfl))), (List.forall_mem_cons.2 ⟨(show a.tmps.getD 32 undef = .bool false from (hφ 17 (by kernel_rfl))), (List.forall_mem_cons.2 ⟨(show a.tmps.getD 33 undef = .bool false from (hφ 18 (by kernel_rfl))), (List.forall_mem_cons.2 ⟨(show a.tmps.getD 34 undef = .bool false from (hφ 19 (by kernel_rfl))), (List.forall_mem_cons.2 ⟨(show a.tmps.getD 35 undef = .pointer (some ⟨wr.heap.size, 1, none⟩) from (hφ 20 (by kernel_rfl))), (List.forall_mem_cons.2 ⟨(show a.tmps.getD 36 undef = .int .i64 n from (hφ 21 (by kernel_rfl))), (List.forall_mem_cons.2 ⟨(show a.tmps.getD 37 undef = .bool false from (hφ 22 (by kernel_rfl))), (List.forall_mem_cons.2 ⟨(show a.tmps.getD 38 undef = .bool false from (hφ 23 (by kernel_rfl))), (List.forall_mem_cons.2 ⟨(show a.tmps.getD 39 undef = .bool false from (hφ 24 (by kernel_rfl))), (List.forall_mem_cons.2 ⟨(show a.tmps.getD 40 undef = .pointer (some ⟨wr.heap.size, 1, none⟩) from (hφ 25 (by kernel_rfl))), (List.forall_mem_cons.2 ⟨(show a.tmps.getD 41 undef = .int .i64 n from (hφ 26 (by kernel_rfl))), (List.forall_mem_cons.2 ⟨(show a.tmps.getD 42 undef = .bool false from (hφ 27 (by kernel_rfl))), (List.forall_mem_cons.2 ⟨(show a.tmps.getD 43 undef = .bool false from (hφ 28 (by kernel_rfl))), (fun _ h => absurd h (by simp))⟩)⟩)⟩)⟩)⟩)⟩)⟩)⟩)⟩)⟩)⟩)⟩)⟩)⟩)⟩)⟩)⟩)⟩)⟩)⟩)⟩)⟩)⟩)⟩)⟩)⟩)⟩)⟩)⟩) hold
                clear hφ hold hsz hde
                simp only [putAll]
                go_frame
                have HB2 := Lib.hid (HBW.out.trans (hG.mono HBW.out.size))
                clear hG hj0 hn1 hn2
                go_wp2_with fail
                go_roundw
                case rel =>
                  refine ⟨jx + 1, by omega, by go_num, Lib.hid ⟨fun i hi h => ?_, fun i hi h => absurd h (by have := hjz.out; omega)⟩, HB2.out⟩
                  obtain rfl : i = jx := by have := hjz.out; omega
                  exact hm2.out
                case measure => simp [RowKit.intOf]; omega
        · have hwk := HWK.out (by omega)
          cases t with
          | false =>
            have hF : R = false := by
              rw [← hR.out]
              obtain ⟨k', rfl⟩ : ∃ k', jx = k' + 1 := ⟨jx - 1, by omega⟩
              have hk2 : k = k' := by have := hkk.out; omega
              subst hk2
              refine mayEs_two hj1 ?_
              have := hq2.out
              rw [this]; exact ht2.out
            subst hF
            refine region_st (fun j v w' => match j with | 0 => v = .pointer (some ⟨wr.heap.size, 0, none⟩) | 1 => v = .string s | 2 => v = .bool true | 3 => v = .bool false | 4 => v = .bool false | 5 => v = .int .i64 (jx : Nat) | 6 => v = .bool true | 7 => v = .bool true | 8 => v = .pointer (some ⟨wr.heap.size, 0, none⟩) | 9 => v = .string s | 10 => v = .slice (some ⟨B, o, none⟩) l.length c | 11 => v = .int .i64 (jx : Nat) | 12 => v = .int .i64 (k : Nat) | 13 => v = .pointer (some ⟨B, o + k * 2, none⟩) | 14 => v = .pointer (some ⟨B, o + k * 2, none⟩) | 15 => v = .string z | 16 => v = .bool true | 17 => v = .bool true | 18 => v = .bool true | 19 => v = .bool true | 20 => v = undef | 21 => v = undef | 22 => v = undef | 23 => v = .bool true | 24 => v = .bool true | 25 => v = undef | 26 => v = undef | 27 => v = undef | 28 => v = .bool true | _ => True) (fun _ w' => Below W.heap.size W w') (fun w1 w2 => Below w1.heap.size w1 w2) (by kernel_rfl) (by kernel_rfl) (by kernel_rfl) ?hR ?hG ?hops ?hend
            case hR =>
              intro j v w1 w2 hv hb
              match j, hv with
              | 0, hv => exact hv
              | 1, hv => exact hv
              | 2, hv => exact hv
              | 3, hv => exact hv
              | 4, hv => exact hv
              | 5, hv => exact hv
              | 6, hv => exact hv
              | 7, hv => exact hv
              | 8, hv => exact hv
              | 9, hv => exact hv
              | 10, hv => exact hv
              | 11, hv => exact hv
              | 12, hv => exact hv
              | 13, hv => exact hv
              | 14, hv => exact hv
              | 15, hv => exact hv
              | 16, hv => exact hv
              | 17, hv => exact hv
              | 18, hv => exact hv
              | 19, hv => exact hv
              | 20, hv => exact hv
              | 21, hv => exact hv
              | 22, hv => exact hv
              | 23, hv => exact hv
              | 24, hv => exact hv
              | 25, hv => exact hv
              | 26, hv => exact hv
              | 27, hv => exact hv
              | 28, hv => exact hv
              | _ + 29, _ => exact trivial
            case hG => exact (Below.refl _ _).drew
            case hops =>
              refine OpsOkS.cons ?o0 (OpsOkS.cons ?o1 (OpsOkS.cons ?o2 (OpsOkS.cons ?o3 (OpsOkS.cons ?o4 (OpsOkS.cons ?o5 (OpsOkS.cons ?o6 (OpsOkS.cons ?o7 (OpsOkS.cons ?o8 (OpsOkS.cons ?o9 (OpsOkS.cons ?o10 (OpsOkS.cons ?o11 (OpsOkS.cons ?o12 (OpsOkS.cons ?o13 (OpsOkS.cons ?o14 (OpsOkS.cons ?o15 (OpsOkS.cons ?o16 (OpsOkS.cons ?o17 (OpsOkS.cons ?o18 (OpsOkS.cons ?o19 (OpsOkS.cons ?o20 (OpsOkS.cons ?o21 (OpsOkS.cons ?o22 (OpsOkS.cons ?o23 (OpsOkS.cons ?o24 (OpsOkS.cons ?o25 (OpsOkS.cons ?o26 (OpsOkS.cons ?o27 (OpsOkS.cons ?o28 OpsOkS.nil))))))))))))))))))))))))))))
              case o0 =>
                intro a w1 Kx hG need old hsz fresh hKx
                have e0 : a.tmps[4]?.getD undef = .pointer (some ⟨wr.heap.size, 0, none⟩) := by rw [← Array.getD_eq_getD_getElem?]; exact old 4 (by kernel_rfl)
                refine op_value (v := .pointer (some ⟨wr.heap.size, 0, none⟩)) (wanted_none rfl) ?_ (hKx _ w1 rfl hG (Below.refl _ _))
                simp [execOp, go_sem, e0]
              case o1 =>
                intro a w1 Kx hG need old hsz fresh hKx
                have e0 : a.tmps[15]?.getD undef = .pointer (some ⟨wr.heap.size, 0, none⟩) := by rw [← Array.getD_eq_getD_getElem?]; exact (need 0 (by kernel_rfl) (by kernel_rfl))
                have k0 := (HK.out w1 hG).1
                refine op_value (v := .string s) (wanted_none rfl) ?_ (hKx _ w1 rfl hG (Below.refl _ _))
                simp [execOp, go_sem, e0, k0]
              case o2 =>
                intro a w1 Kx hG need old hsz fresh hKx
                have e0 : a.tmps[16]?.getD undef = .string s := by rw [← Array.getD_eq_getD_getElem?]; exact (need 1 (by kernel_rfl) (by kernel_rfl))
                refine op_call (wanted_none rfl) (f := 71) (args := #[.string s]) ?run ((HC.out w1).mono ?post)
                case run => simp [go_sem, e0]
                case post =>
                  rintro e w2 ⟨rfl, hb2⟩
                  exact ⟨_, rfl, hKx _ w2 rfl (hG.trans (hb2.mono hG.size)) hb2⟩
              case o3 =>
                intro a w1 Kx hG need old hsz fresh hKx
                have e0 : a.tmps[17]?.getD undef = .bool true := by rw [← Array.getD_eq_getD_getElem?]; exact (need 2 (by kernel_rfl) (by kernel_rfl))
                refine op_value (v := .bool false) (wanted_none rfl) ?_ (hKx _ w1 rfl hG (Below.refl _ _))
                simp [execOp, go_sem, e0]
              case o4 =>
                intro a w1 Kx hG need old hsz fresh hKx
                have e0 : a.tmps[18]?.getD undef = .bool false := by rw [← Array.getD_eq_getD_getElem?]; exact (need 3 (by kernel_rfl) (by kernel_rfl))
                refine op_value (v := .bool false) (wanted_none rfl) ?_ (hKx _ w1 rfl hG (Below.refl _ _))
                simp [execOp, go_sem, e0]
              case o5 =>
                intro a w1 Kx hG need old hsz fresh hKx
                have e0 : a.tmps[3]?.getD undef = .int .i64 (jx : Nat) := by rw [← Array.getD_eq_getD_getElem?]; exact old 3 (by kernel_rfl)
                refine op_value (v := .int .i64 (jx : Nat)) (wanted_of (j := 4) rfl (need 4 (by kernel_rfl) (by kernel_rfl))) ?_ (hKx _ w1 rfl hG (Below.refl _ _))
                simp [execOp, go_sem, e0]
              case o6 =>
                intro a w1 Kx hG need old hsz fresh hKx
                have e0 : a.tmps[20]?.getD undef = .int .i64 (jx : Nat) := by rw [← Array.getD_eq_getD_getElem?]; exact (need 5 (by kernel_rfl) (by kernel_rfl))
                refine op_value (v := .bool true) (wanted_of (j := 4) rfl (need 4 (by kernel_rfl) (by kernel_rfl))) ?_ (hKx _ w1 rfl hG (Below.refl _ _))
                simp [execOp, go_sem, e0]; omega
              case o7 =>
                intro a w1 Kx hG need old hsz fresh hKx
                have e0 : a.tmps[21]?.getD undef = .bool true := by rw [← Array.getD_eq_getD_getElem?]; exact (need 6 (by kernel_rfl) (by kernel_rfl))
                refine op_value (v := .bool true) (wanted_of (j := 4) rfl (need 4 (by kernel_rfl) (by kernel_rfl))) ?_ (hKx _ w1 rfl hG (Below.refl _ _))
                simp [execOp, go_sem, e0]
              case o8 =>
                intro a w1 Kx hG need old hsz fresh hKx
                have e0 : a.tmps[4]?.getD undef = .pointer (some ⟨wr.heap.size, 0, none⟩) := by rw [← Array.getD_eq_getD_getElem?]; exact old 4 (by kernel_rfl)
                refine op_value (v := .pointer (some ⟨wr.heap.size, 0, none⟩)) (wanted_of (j := 7) rfl (need 7 (by kernel_rfl) (by kernel_rfl))) ?_ (hKx _ w1 rfl hG (Below.refl _ _))
                simp [execOp, go_sem, e0]
              case o9 =>
                intro a w1 Kx hG need old hsz fresh hKx
                have e0 : a.tmps[23]?.getD undef = .pointer (some ⟨wr.heap.size, 0, none⟩) := by rw [← Array.getD_eq_getD_getElem?]; exact (need 8 (by kernel_rfl) (by kernel_rfl))
                have k0 := (HK.out w1 hG).1
                refine op_value (v := .string s) (wanted_of (j := 7) rfl (need 7 (by kernel_rfl) (by kernel_rfl))) ?_ (hKx _ w1 rfl hG (Below.refl _ _))
                simp [execOp, go_sem, e0, k0]
              case o10 =>
                intro a w1 Kx hG need old hsz fresh hKx
                have e0 : a.tmps[0]?.getD undef = .slice (some ⟨B, o, none⟩) l.length c := by rw [← Array.getD_eq_getD_getElem?]; exact old 0 (by kernel_rfl)
                refine op_value (v := .slice (some ⟨B, o, none⟩) l.length c) (wanted_of (j := 7) rfl (need 7 (by kernel_rfl) (by kernel_rfl))) ?_ (hKx _ w1 rfl hG (Below.refl _ _))
                simp [execOp, go_sem, e0]
              case o11 =>
                intro a w1 Kx hG need old hsz fresh hKx
                have e0 : a.tmps[3]?.getD undef = .int .i64 (jx : Nat) := by rw [← Array.getD_eq_getD_getElem?]; exact old 3 (by kernel_rfl)
                refine op_value (v := .int .i64 (jx : Nat)) (wanted_of (j := 7) rfl (need 7 (by kernel_rfl) (by kernel_rfl))) ?_ (hKx _ w1 rfl hG (Below.refl _ _))
                simp [execOp, go_sem, e0]
              case o12 =>
                intro a w1 Kx hG need old hsz fresh hKx
                have e0 : a.tmps[26]?.getD undef = .int .i64 (jx : Nat) := by rw [← Array.getD_eq_getD_getElem?]; exact (need 11 (by kernel_rfl) (by kernel_rfl))
                refine op_value (v := .int .i64 (k : Nat)) (wanted_of (j := 7) rfl (need 7 (by kernel_rfl) (by kernel_rfl))) ?_ (hKx _ w1 rfl hG (Below.refl _ _))
                simp [execOp, go_sem, e0, hwk]
              case o13 =>
                intro a w1 Kx hG need old hsz fresh hKx
                have e0 : a.tmps[25]?.getD undef = .slice (some ⟨B, o, none⟩) l.length c := by rw [← Array.getD_eq_getD_getElem?]; exact (need 10 (by kernel_rfl) (by kernel_rfl))
                have e1 : a.tmps[27]?.getD undef = .int .i64 (k : Nat) := by rw [← Array.getD_eq_getD_getElem?]; exact (need 12 (by kernel_rfl) (by kernel_rfl))
                refine op_value (v := .pointer (some ⟨B, o + k * 2, none⟩)) (wanted_of (j := 7) rfl (need 7 (by kernel_rfl) (by kernel_rfl))) ?_ (hKx _ w1 rfl hG (Below.refl _ _))
                simp [execOp, go_sem, e0, e1, HIX2.out]
              case o14 =>
                intro a w1 Kx hG need old hsz fresh hKx
                have e0 : a.tmps[28]?.getD undef = .pointer (some ⟨B, o + k * 2, none⟩) := by rw [← Array.getD_eq_getD_getElem?]; exact (need 13 (by kernel_rfl) (by kernel_rfl))
                refine op_value (v := .pointer (some ⟨B, o + k * 2, none⟩)) (wanted_of (j := 7) rfl (need 7 (by kernel_rfl) (by kernel_rfl))) ?_ (hKx _ w1 rfl hG (Below.refl _ _))
                simp [execOp, go_sem, e0]
              case o15 =>
                intro a w1 Kx hG need old hsz fresh hKx
                have e0 : a.tmps[29]?.getD undef = .pointer (some ⟨B, o + k * 2, none⟩) := by rw [← Array.getD_eq_getD_getElem?]; exact (need 14 (by kernel_rfl) (by kernel_rfl))
                have k0 := (HK.out w1 hG).2.2
                refine op_value (v := .string z) (wanted_of (j := 7) rfl (need 7 (by kernel_rfl) (by kernel_rfl))) ?_ (hKx _ w1 rfl hG (Below.refl _ _))
                simp [execOp, go_sem, e0, k0]
              case o16 =>
                intro a w1 Kx hG need old hsz fresh hKx
                have e0 : a.tmps[24]?.getD undef = .string s := by rw [← Array.getD_eq_getD_getElem?]; exact (need 9 (by kernel_rfl) (by kernel_rfl))
                have e1 : a.tmps[30]?.getD undef = .string z := by rw [← Array.getD_eq_getD_getElem?]; exact (need 15 (by kernel_rfl) (by kernel_rfl))
                refine op_value (v := .bool true) (wanted_of (j := 7) rfl (need 7 (by kernel_rfl) (by kernel_rfl))) ?_ (hKx _ w1 rfl hG (Below.refl _ _))
                simp [execOp, go_sem, e0, e1]; simpa using ht3.out
              case o17 =>
                intro a w1 Kx hG need old hsz fresh hKx
                have e0 : a.tmps[22]?.getD undef = .bool true := by rw [← Array.getD_eq_getD_getElem?]; exact (need 7 (by kernel_rfl) (by kernel_rfl))
                have e1 : a.tmps[31]?.getD undef = .bool true := by rw [← Array.getD_eq_getD_getElem?]; exact (need 16 (by kernel_rfl) (by kernel_rfl))
                refine op_value (v := .bool true) (wanted_of (j := 4) rfl (need 4 (by kernel_rfl) (by kernel_rfl))) ?_ (hKx _ w1 rfl hG (Below.refl _ _))
                simp [execOp, go_sem, asBool, e0, e1]
              case o18 =>
                intro a w1 Kx hG need old hsz fresh hKx
                have e0 : a.tmps[19]?.getD undef = .bool false := by rw [← Array.getD_eq_getD_getElem?]; exact (need 4 (by kernel_rfl) (by kernel_rfl))
                have e1 : a.tmps[32]?.getD undef = .bool true := by rw [← Array.getD_eq_getD_getElem?]; exact (need 17 (by kernel_rfl) (by kernel_rfl))
                refine op_value (v := .bool true) (wanted_none rfl) ?_ (hKx _ w1 rfl hG (Below.refl _ _))
                simp [execOp, go_sem, asBool, e0, e1]
              case o19 =>
                intro a w1 Kx hG need old hsz fresh hKx
                have e0 : a.tmps[33]?.getD undef = .bool true := by rw [← Array.getD_eq_getD_getElem?]; exact (need 18 (by kernel_rfl) (by kernel_rfl))
                refine op_value (v := .bool true) (wanted_none rfl) ?_ (hKx _ w1 rfl hG (Below.refl _ _))
                simp [execOp, go_sem, e0]
              case o20 =>
                intro a w1 Kx hG need old hsz fresh hKx
                exact skip_op (j := 19) rfl (need 19 (by kernel_rfl) (by kernel_rfl)) (by decide) (hKx undef w1 rfl hG (Below.refl _ _))
              case o21 =>
                intro a w1 Kx hG need old hsz fresh hKx
                exact skip_op (j := 19) rfl (need 19 (by kernel_rfl) (by kernel_rfl)) (by decide) (hKx undef w1 rfl hG (Below.refl _ _))
              case o22 =>
                intro a w1 Kx hG need old hsz fresh hKx
                exact skip_op (j := 19) rfl (need 19 (by kernel_rfl) (by kernel_rfl)) (by decide) (hKx undef w1 rfl hG (Below.refl _ _))
              case o23 =>
                intro a w1 Kx hG need old hsz fresh hKx
                have e0 : a.tmps[34]?.getD undef = .bool true := by rw [← Array.getD_eq_getD_getElem?]; exact (need 19 (by kernel_rfl) (by kernel_rfl))
                refine op_value (v := .bool true) (wanted_none rfl) ?_ (hKx _ w1 rfl hG (Below.refl _ _))
                simp [execOp, go_sem, asBool, e0]
              case o24 =>
                intro a w1 Kx hG need old hsz fresh hKx
                have e0 : a.tmps[38]?.getD undef = .bool true := by rw [← Array.getD_eq_getD_getElem?]; exact (need 23 (by kernel_rfl) (by kernel_rfl))
                refine op_value (v := .bool true) (wanted_none rfl) ?_ (hKx _ w1 rfl hG (Below.refl _ _))
                simp [execOp, go_sem, e0]
              case o25 =>
                intro a w1 Kx hG need old hsz fresh hKx
                exact skip_op (j := 24) rfl (need 24 (by kernel_rfl) (by kernel_rfl)) (by decide) (hKx undef w1 rfl hG (Below.refl _ _))
              case o26 =>
                intro a w1 Kx hG need old hsz fresh hKx
                exact skip_op (j := 24) rfl (need 24 (by kernel_rfl) (by kernel_rfl)) (by decide) (hKx undef w1 rfl hG (Below.refl _ _))
              case o27 =>
                intro a w1 Kx hG need old hsz fresh hKx
                exact skip_op (j := 24) rfl (need 24 (by kernel_rfl) (by kernel_rfl)) (by decide) (hKx undef w1 rfl hG (Below.refl _ _))
              case o28 =>
                intro a w1 Kx hG need old hsz fresh hKx
                have e0 : a.tmps[39]?.getD undef = .bool true := by rw [← Array.getD_eq_getD_getElem?]; exact (need 24 (by kernel_rfl) (by kernel_rfl))
                refine op_value (v := .bool true) (wanted_none rfl) ?_ (hKx _ w1 rfl hG (Below.refl _ _))
                simp [execOp, go_sem, asBool, e0]
            case hend =>
              intro a w6 hG hde hsz hφ hold
              obtain rfl := act_puts [(15, .pointer (some ⟨wr.heap.size, 0, none⟩)), (16, .string s), (17, .bool true), (18, .bool false), (19, .bool false), (20, .int .i64 (jx : Nat)), (21, .bool true), (22, .bool true), (23, .pointer (some ⟨wr.heap.size, 0, none⟩)), (24, .string s), (25, .slice (some ⟨B, o, none⟩) l.length c), (26, .int .i64 (jx : Nat)), (27, .int .i64 (k : Nat)), (28, .pointer (some ⟨B, o + k * 2, none⟩)), (29, .pointer (some ⟨B, o + k * 2, none⟩)), (30, .string z), (31, .bool true), (32, .bool true), (33, .bool true), (34, .bool true), (35, undef), (36, undef), (37, undef), (38, .bool true), (39, .bool true), (40, undef), (41, undef), (42, undef), (43, .bool true)] [15, 16, 17, 18, 19, 20, 21, 22, 23, 24, 25, 26, 27, 28, 29, 30, 31, 32, 33, 34, 35, 36, 37, 38, 39, 40, 41, 42, 43] rfl (by kernel_rfl) (by kernel_rfl) hde hsz (List.forall_mem_cons.2 ⟨(show a.tmps.getD 15 undef = .pointer (some ⟨wr.heap.size, 0, none⟩) from (hφ 0 (by kernel_rfl))), (List.forall_mem_cons.2 ⟨(show a.tmps.getD 16 undef = .string s from (hφ 1 (by kernel_rfl))), (List.forall_mem_cons.2 ⟨(show a.tmps.getD 17 undef = .bool true from (hφ 2 (by kernel_rfl))), (List.forall_mem_cons.2 ⟨(show a.tmps.getD 18 undef = .bool false from (hφ 3 (by kernel_rfl))), (List.forall_mem_cons.2 ⟨(show a.tmps.getD 19 undef = .bool false from (hφ 4 (by kernel_rfl))), (List.forall_mem_cons.2 ⟨(show a.tmps.getD 20 undef = .int .i64 (jx : Nat) from (hφ 5 (by kernel_rfl))), (List.forall_mem_cons.2 ⟨(show a.tmps.getD 21 undef = .bool true from (hφ 6 (by kernel_rfl))), (List.forall_mem_cons.2 ⟨(show a.tmps.getD 22 undef = .bool true from (hφ 7 (by kernel_rfl))), (List.forall_mem_cons.2 ⟨(show a.tmps.getD 23 undef = .pointer (some ⟨wr.heap.size, 0, none⟩) from (hφ 8 (by kernel_rfl))), (List.forall_mem_cons.2 ⟨(show a.tmps.getD 24 undef = .string s from (hφ 9 (by kernel_rfl))), (List.forall_mem_cons.2 ⟨(show a.tmps.getD 25 undef = .slice (some ⟨B, o, none⟩) l.length c from (hφ 10 (by kernel_rfl))), (List.forall_mem_cons.2 ⟨(show a.tmps.getD 26 undef = .int .i64 (jx : Nat) from (hφ 11 (by kernel_rfl))), (List.forall_mem_cons.2 ⟨(show a.tmps.getD 27 undef = .int .i64 (k : Nat) from (hφ 12 (by kernel_rfl))), (List.forall_mem_cons.2 ⟨(show a.tmps.getD 28 undef = .pointer (some ⟨B, o + k * 2, none⟩) from (hφ 13 (by kernel_rfl))), (List.forall_mem_cons.2 ⟨(show a.tmps.getD 29 undef = .pointer (some ⟨B, o + k * 2, none⟩) from (hφ 14 (by kernel_rfl))), (List.forall_mem_cons.2 ⟨(show a.tmps.getD 30 undef = .string z from (hφ 15 (by kernel_rfl))), (List.forall_mem_cons.2 ⟨(show a.tmps.getD 31 undef = .bool true from (hφ 16 (by kernel_rfl))), (List.forall_mem_cons.2 ⟨(show a.tmps.getD 32 undef = .bool true from (hφ 17 (by kernel_rfl))), (List.forall_mem_cons.2 ⟨(show a.tmps.getD 33 undef = .bool true from (hφ 18 (by kernel_rfl))), (List.forall_mem_cons.2 ⟨(show a.tmps.getD 34 undef = .bool true from (hφ 19 (by kernel_rfl))), (List.forall_mem_cons.2 ⟨(show a.tmps.getD 35 undef = undef from (hφ 20 (by kernel_rfl))), (List.forall_mem_cons.2 ⟨(show a.tmps.getD 36 undef = undef from (hφ 21 (by kernel_rfl))), (List.forall_mem_cons.2 ⟨(show a.tmps.getD 37 undef = undef from (hφ 22 (by kernel_rfl))), (List.forall_mem_cons.2 ⟨(show a.tmps.getD 38 undef = .bool true from (hφ 23 (by kernel_rfl))), (List.forall_mem_cons.2 ⟨(show a.tmps.getD 39 undef = .bool true from (hφ 24 (by kernel_rfl))), (List.forall_mem_cons.2 ⟨(show a.tmps.getD 40 undef = undef from (hφ 25 (by kernel_rfl))), (List.forall_mem_cons.2 ⟨(show a.tmps.getD 41 undef = undef from (hφ 26 (by kernel_rfl))), (List.forall_mem_cons.2 ⟨(show a.tmps.getD 42 undef = undef from (hφ 27 (by kernel_rfl))), (List.forall_mem_cons.2 ⟨(show a.tmps.getD 43 undef = .bool true from (hφ 28 (by kernel_rfl))), (fun _ h => absurd h (by simp))⟩)⟩)⟩)⟩)⟩)⟩)⟩)⟩)⟩)⟩)⟩)⟩)⟩)⟩)⟩)⟩)⟩)⟩)⟩)⟩)⟩)⟩)⟩)⟩)⟩)⟩)⟩)⟩)⟩) hold
              clear hφ hold hsz hde
              simp only [putAll]
              go_frame
              go_wp2_with fail
              go_ret
              exact ⟨rfl, HBW.out.trans (hG.mono HBW.out.size)⟩
          | true =>
            by_cases hn1 : n < 1
            · have hF : R = false := by rw [← hR.out]; exact mayEs_one hj1 (by rw [hq3.out, decide_eq_false (show ¬ 1 ≤ n by omega)]; rfl)
              subst hF
              refine region_st (fun j v w' => match j with | 0 => v = .pointer (some ⟨wr.heap.size, 0, none⟩) | 1 => v = .string s | 2 => v = .bool true | 3 => v = .bool false | 4 => v = .bool false | 5 => v = .int .i64 (jx : Nat) | 6 => v = .bool true | 7 => v = .bool true | 8 => v = .pointer (some ⟨wr.heap.size, 0, none⟩) | 9 => v = .string s | 10 => v = .slice (some ⟨B, o, none⟩) l.length c | 11 => v = .int .i64 (jx : Nat) | 12 => v = .int .i64 (k : Nat) | 13 => v = .pointer (some ⟨B, o + k * 2, none⟩) | 14 => v = .pointer (some ⟨B, o + k * 2, none⟩) | 15 => v = .string z | 16 => v = .bool false | 17 => v = .bool false | 18 => v = .bool false | 19 => v = .bool false | 20 => v = .pointer (some ⟨wr.heap.size, 1, none⟩) | 21 => v = .int .i64 n | 22 => v = .bool true | 23 => v = .bool true | 24 => v = .bool true | 25 => v = undef | 26 => v = undef | 27 => v = undef | 28 => v = .bool true | _ => True) (fun _ w' => Below W.heap.size W w') (fun w1 w2 => Below w1.heap.size w1 w2) (by kernel_rfl) (by kernel_rfl) (by kernel_rfl) ?hR ?hG ?hops ?hend
              case hR =>
                intro j v w1 w2 hv hb
                match j, hv with
                | 0, hv => exact hv
                | 1, hv => exact hv
                | 2, hv => exact hv
                | 3, hv => exact hv
                | 4, hv => exact hv
                | 5, hv => exact hv
                | 6, hv => exact hv
                | 7, hv => exact hv
                | 8, hv => exact hv
                | 9, hv => exact hv
                | 10, hv => exact hv
                | 11, hv => exact hv
                | 12, hv => exact hv
                | 13, hv => exact hv
                | 14, hv => exact hv
                | 15, hv => exact hv
                | 16, hv => exact hv
                | 17, hv => exact hv
                | 18, hv => exact hv
                | 19, hv => exact hv
                | 20, hv => exact hv
                | 21, hv => exact hv
                | 22, hv => exact hv
                | 23, hv => exact hv
                | 24, hv => exact hv
                | 25, hv => exact hv
                | 26, hv => exact hv
                | 27, hv => exact hv
                | 28, hv => exact hv
                | _ + 29, _ => exact trivial
              case hG => exact (Below.refl _ _).drew
              case hops =>
                refine OpsOkS.cons ?o0 (OpsOkS.cons ?o1 (OpsOkS.cons ?o2 (OpsOkS.cons ?o3 (OpsOkS.cons ?o4 (OpsOkS.cons ?o5 (OpsOkS.cons ?o6 (OpsOkS.cons ?o7 (OpsOkS.cons ?o8 (OpsOkS.cons ?o9 (OpsOkS.cons ?o10 (OpsOkS.cons ?o11 (OpsOkS.cons ?o12 (OpsOkS.cons ?o13 (OpsOkS.cons ?o14 (OpsOkS.cons ?o15 (OpsOkS.cons ?o16 (OpsOkS.cons ?o17 (OpsOkS.cons ?o18 (OpsOkS.cons ?o19 (OpsOkS.cons ?o20 (OpsOkS.cons ?o21 (OpsOkS.cons ?o22 (OpsOkS.cons ?o23 (OpsOkS.cons ?o24 (OpsOkS.cons ?o25 (OpsOkS.cons ?o26 (OpsOkS.cons ?o27 (OpsOkS.cons ?o28 OpsOkS.nil))))))))))))))))))))))))))))
                case o0 =>
                  intro a w1 Kx hG need old hsz fresh hKx
                  have e0 : a.tmps[4]?.getD undef = .pointer (some ⟨wr.heap.size, 0, none⟩) := by rw [← Array.getD_eq_getD_getElem?]; exact old 4 (by kernel_rfl)
                  refine op_value (v := .pointer (some ⟨wr.heap.size, 0, none⟩)) (wanted_none rfl) ?_ (hKx _ w1 rfl hG (Below.refl _ _))
                  simp [execOp, go_sem, e0]
                case o1 =>
                  intro a w1 Kx hG need old hsz fresh hKx
                  have e0 : a.tmps[15]?.getD undef = .pointer (some ⟨wr.heap.size, 0, none⟩) := by rw [← Array.getD_eq_getD_getElem?]; exact (need 0 (by kernel_rfl) (by kernel_rfl))
                  have k0 := (HK.out w1 hG).1
                  refine op_value (v := .string s) (wanted_none rfl) ?_ (hKx _ w1 rfl hG (Below.refl _ _))
                  simp [execOp, go_sem, e0, k0]
                case o2 =>
                  intro a w1 Kx hG need old hsz fresh hKx
                  have e0 : a.tmps[16]?.getD undef = .string s := by rw [← Array.getD_eq_getD_getElem?]; exact (need 1 (by kernel_rfl) (by kernel_rfl))
                  refine op_call (wanted_none rfl) (f := 71) (args := #[.string s]) ?run ((HC.out w1).mono ?post)
                  case run => simp [go_sem, e0]
                  case post =>
                    rintro e w2 ⟨rfl, hb2⟩
                    exact ⟨_, rfl, hKx _ w2 rfl (hG.trans (hb2.mono hG.size)) hb2⟩
                case o3 =>
                  intro a w1 Kx hG need old hsz fresh hKx
                  have e0 : a.tmps[17]?.getD undef = .bool true := by rw [← Array.getD_eq_getD_getElem?]; exact (need 2 (by kernel_rfl) (by kernel_rfl))
                  refine op_value (v := .bool false) (wanted_none rfl) ?_ (hKx _ w1 rfl hG (Below.refl _ _))
                  simp [execOp, go_sem, e0]
                case o4 =>
                  intro a w1 Kx hG need old hsz fresh hKx
                  have e0 : a.tmps[18]?.getD undef = .bool false := by rw [← Array.getD_eq_getD_getElem?]; exact (need 3 (by kernel_rfl) (by kernel_rfl))
                  refine op_value (v := .bool false) (wanted_none rfl) ?_ (hKx _ w1 rfl hG (Below.refl _ _))
                  simp [execOp, go_sem, e0]
                case o5 =>
                  intro a w1 Kx hG need old hsz fresh hKx
                  have e0 : a.tmps[3]?.getD undef = .int .i64 (jx : Nat) := by rw [← Array.getD_eq_getD_getElem?]; exact old 3 (by kernel_rfl)
                  refine op_value (v := .int .i64 (jx : Nat)) (wanted_of (j := 4) rfl (need 4 (by kernel_rfl) (by kernel_rfl))) ?_ (hKx _ w1 rfl hG (Below.refl _ _))
                  simp [execOp, go_sem, e0]
                case o6 =>
                  intro a w1 Kx hG need old hsz fresh hKx
                  have e0 : a.tmps[20]?.getD undef = .int .i64 (jx : Nat) := by rw [← Array.getD_eq_getD_getElem?]; exact (need 5 (by kernel_rfl) (by kernel_rfl))
                  refine op_value (v := .bool true) (wanted_of (j := 4) rfl (need 4 (by kernel_rfl) (by kernel_rfl))) ?_ (hKx _ w1 rfl hG (Below.refl _ _))
                  simp [execOp, go_sem, e0]; omega
                case o7 =>
                  intro a w1 Kx hG need old hsz fresh hKx
                  have e0 : a.tmps[21]?.getD undef = .bool true := by rw [← Array.getD_eq_getD_getElem?]; exact (need 6 (by kernel_rfl) (by kernel_rfl))
                  refine op_value (v := .bool true) (wanted_of (j := 4) rfl (need 4 (by kernel_rfl) (by kernel_rfl))) ?_ (hKx _ w1 rfl hG (Below.refl _ _))
                  simp [execOp, go_sem, e0]
                case o8 =>
                  intro a w1 Kx hG need old hsz fresh hKx
                  have e0 : a.tmps[4]?.getD undef = .pointer (some ⟨wr.heap.size, 0, none⟩) := by rw [← Array.getD_eq_getD_getElem?]; exact old 4 (by kernel_rfl)
                  refine op_value (v := .pointer (some ⟨wr.heap.size, 0, none⟩)) (wanted_of (j := 7) rfl (need 7 (by kernel_rfl) (by kernel_rfl))) ?_ (hKx _ w1 rfl hG (Below.refl _ _))
                  simp [execOp, go_sem, e0]
                case o9 =>
                  intro a w1 Kx hG need old hsz fresh hKx
                  have e0 : a.tmps[23]?.getD undef = .pointer (some ⟨wr.heap.size, 0, none⟩) := by rw [← Array.getD_eq_getD_getElem?]; exact (need 8 (by kernel_rfl) (by kernel_rfl))
                  have k0 := (HK.out w1 hG).1
                  refine op_value (v := .string s) (wanted_of (j := 7) rfl (need 7 (by kernel_rfl) (by kernel_rfl))) ?_ (hKx _ w1 rfl hG (Below.refl _ _))
                  simp [execOp, go_sem, e0, k0]
                case o10 =>
                  intro a w1 Kx hG need old hsz fresh hKx
                  have e0 : a.tmps[0]?.getD undef = .slice (some ⟨B, o, none⟩) l.length c := by rw [← Array.getD_eq_getD_getElem?]; exact old 0 (by kernel_rfl)
                  refine op_value (v := .slice (some ⟨B, o, none⟩) l.length c) (wanted_of (j := 7) rfl (need 7 (by kernel_rfl) (by kernel_rfl))) ?_ (hKx _ w1 rfl hG (Below.refl _ _))
                  simp [execOp, go_sem, e0]
                case o11 =>
                  intro a w1 Kx hG need old hsz fresh hKx
                  have e0 : a.tmps[3]?.getD undef = .int .i64 (jx : Nat) := by rw [← Array.getD_eq_getD_getElem?]; exact old 3 (by kernel_rfl)
                  refine op_value (v := .int .i64 (jx : Nat)) (wanted_of (j := 7) rfl (need 7 (by kernel_rfl) (by kernel_rfl))) ?_ (hKx _ w1 rfl hG (Below.refl _ _))
                  simp [execOp, go_sem, e0]
                case o12 =>
                  intro a w1 Kx hG need old hsz fresh hKx
                  have e0 : a.tmps[26]?.getD undef = .int .i64 (jx : Nat) := by rw [← Array.getD_eq_getD_getElem?]; exact (need 11 (by kernel_rfl) (by kernel_rfl))
                  refine op_value (v := .int .i64 (k : Nat)) (wanted_of (j := 7) rfl (need 7 (by kernel_rfl) (by kernel_rfl))) ?_ (hKx _ w1 rfl hG (Below.refl _ _))
                  simp [execOp, go_sem, e0, hwk]
                case o13 =>
                  intro a w1 Kx hG need old hsz fresh hKx
                  have e0 : a.tmps[25]?.getD undef = .slice (some ⟨B, o, none⟩) l.length c := by rw [← Array.getD_eq_getD_getElem?]; exact (need 10 (by kernel_rfl) (by kernel_rfl))
                  have e1 : a.tmps[27]?.getD undef = .int .i64 (k : Nat) := by rw [← Array.getD_eq_getD_getElem?]; exact (need 12 (by kernel_rfl) (by kernel_rfl))
                  refine op_value (v := .pointer (some ⟨B, o + k * 2, none⟩)) (wanted_of (j := 7) rfl (need 7 (by kernel_rfl) (by kernel_rfl))) ?_ (hKx _ w1 rfl hG (Below.refl _ _))
                  simp [execOp, go_sem, e0, e1, HIX2.out]
                case o14 =>
                  intro a w1 Kx hG need old hsz fresh hKx
                  have e0 : a.tmps[28]?.getD undef = .pointer (some ⟨B, o + k * 2, none⟩) := by rw [← Array.getD_eq_getD_getElem?]; exact (need 13 (by kernel_rfl) (by kernel_rfl))
                  refine op_value (v := .pointer (some ⟨B, o + k * 2, none⟩)) (wanted_of (j := 7) rfl (need 7 (by kernel_rfl) (by kernel_rfl))) ?_ (hKx _ w1 rfl hG (Below.refl _ _))
                  simp [execOp, go_sem, e0]
                case o15 =>
                  intro a w1 Kx hG need old hsz fresh hKx
                  have e0 : a.tmps[29]?.getD undef = .pointer (some ⟨B, o + k * 2, none⟩) := by rw [← Array.getD_eq_getD_getElem?]; exact (need 14 (by kernel_rfl) (by kernel_rfl))
                  have k0 := (HK.out w1 hG).2.2
                  refine op_value (v := .string z) (wanted_of (j := 7) rfl (need 7 (by kernel_rfl) (by kernel_rfl))) ?_ (hKx _ w1 rfl hG (Below.refl _ _))
                  simp [execOp, go_sem, e0, k0]
                case o16 =>
                  intro a w1 Kx hG need old hsz fresh hKx
                  have e0 : a.tmps[24]?.getD undef = .string s := by rw [← Array.getD_eq_getD_getElem?]; exact (need 9 (by kernel_rfl) (by kernel_rfl))
                  have e1 : a.tmps[30]?.getD undef = .string z := by rw [← Array.getD_eq_getD_getElem?]; exact (need 15 (by kernel_rfl) (by kernel_rfl))
                  refine op_value (v := .bool false) (wanted_of (j := 7) rfl (need 7 (by kernel_rfl) (by kernel_rfl))) ?_ (hKx _ w1 rfl hG (Below.refl _ _))
                  simp [execOp, go_sem, e0, e1]; simpa using ht3.out
                case o17 =>
                  intro a w1 Kx hG need old hsz fresh hKx
                  have e0 : a.tmps[22]?.getD undef = .bool true := by rw [← Array.getD_eq_getD_getElem?]; exact (need 7 (by kernel_rfl) (by kernel_rfl))
                  have e1 : a.tmps[31]?.getD undef = .bool false := by rw [← Array.getD_eq_getD_getElem?]; exact (need 16 (by kernel_rfl) (by kernel_rfl))
                  refine op_value (v := .bool false) (wanted_of (j := 4) rfl (need 4 (by kernel_rfl) (by kernel_rfl))) ?_ (hKx _ w1 rfl hG (Below.refl _ _))
                  simp [execOp, go_sem, asBool, e0, e1]
                case o18 =>
                  intro a w1 Kx hG need old hsz fresh hKx
                  have e0 : a.tmps[19]?.getD undef = .bool false := by rw [← Array.getD_eq_getD_getElem?]; exact (need 4 (by kernel_rfl) (by kernel_rfl))
                  have e1 : a.tmps[32]?.getD undef = .bool false := by rw [← Array.getD_eq_getD_getElem?]; exact (need 17 (by kernel_rfl) (by kernel_rfl))
                  refine op_value (v := .bool false) (wanted_none rfl) ?_ (hKx _ w1 rfl hG (Below.refl _ _))
                  simp [execOp, go_sem, asBool, e0, e1]
                case o19 =>
                  intro a w1 Kx hG need old hsz fresh hKx
                  have e0 : a.tmps[33]?.getD undef = .bool false := by rw [← Array.getD_eq_getD_getElem?]; exact (need 18 (by kernel_rfl) (by kernel_rfl))
                  refine op_value (v := .bool false) (wanted_none rfl) ?_ (hKx _ w1 rfl hG (Below.refl _ _))
                  simp [execOp, go_sem, e0]
                case o20 =>
                  intro a w1 Kx hG need old hsz fresh hKx
                  have e0 : a.tmps[4]?.getD undef = .pointer (some ⟨wr.heap.size, 0, none⟩) := by rw [← Array.getD_eq_getD_getElem?]; exact old 4 (by kernel_rfl)
                  refine op_value (v := .pointer (some ⟨wr.heap.size, 1, none⟩)) (wanted_of (j := 19) rfl (need 19 (by kernel_rfl) (by kernel_rfl))) ?_ (hKx _ w1 rfl hG (Below.refl _ _))
                  simp [execOp, go_sem, e0]
                case o21 =>
                  intro a w1 Kx hG need old hsz fresh hKx
                  have e0 : a.tmps[35]?.getD undef = .pointer (some ⟨wr.heap.size, 1, none⟩) := by rw [← Array.getD_eq_getD_getElem?]; exact (need 20 (by kernel_rfl) (by kernel_rfl))
                  have k0 := (HK.out w1 hG).2.1
                  refine op_value (v := .int .i64 n) (wanted_of (j := 19) rfl (need 19 (by kernel_rfl) (by kernel_rfl))) ?_ (hKx _ w1 rfl hG (Below.refl _ _))
                  simp [execOp, go_sem, e0, k0]
                case o22 =>
                  intro a w1 Kx hG need old hsz fresh hKx
                  have e0 : a.tmps[36]?.getD undef = .int .i64 n := by rw [← Array.getD_eq_getD_getElem?]; exact (need 21 (by kernel_rfl) (by kernel_rfl))
                  refine op_value (v := .bool true) (wanted_of (j := 19) rfl (need 19 (by kernel_rfl) (by kernel_rfl))) ?_ (hKx _ w1 rfl hG (Below.refl _ _))
                  simp [execOp, go_sem, e0]; omega
                case o23 =>
                  intro a w1 Kx hG need old hsz fresh hKx
                  have e0 : a.tmps[34]?.getD undef = .bool false := by rw [← Array.getD_eq_getD_getElem?]; exact (need 19 (by kernel_rfl) (by kernel_rfl))
                  have e1 : a.tmps[37]?.getD undef = .bool true := by rw [← Array.getD_eq_getD_getElem?]; exact (need 22 (by kernel_rfl) (by kernel_rfl))
                  refine op_value (v := .bool true) (wanted_none rfl) ?_ (hKx _ w1 rfl hG (Below.refl _ _))
                  simp [execOp, go_sem, asBool, e0, e1]
                case o24 =>
                  intro a w1 Kx hG need old hsz fresh hKx
                  have e0 : a.tmps[38]?.getD undef = .bool true := by rw [← Array.getD_eq_getD_getElem?]; exact (need 23 (by kernel_rfl) (by kernel_rfl))
                  refine op_value (v := .bool true) (wanted_none rfl) ?_ (hKx _ w1 rfl hG (Below.refl _ _))
                  simp [execOp, go_sem, e0]
                case o25 =>
                  intro a w1 Kx hG need old hsz fresh hKx
                  exact skip_op (j := 24) rfl (need 24 (by kernel_rfl) (by kernel_rfl)) (by decide) (hKx undef w1 rfl hG (Below.refl _ _))
                case o26 =>
                  intro a w1 Kx hG need old hsz fresh hKx
                  exact skip_op (j := 24) rfl (need 24 (by kernel_rfl) (by kernel_rfl)) (by decide) (hKx undef w1 rfl hG (Below.refl _ _))
                case o27 =>
                  intro a w1 Kx hG need old hsz fresh hKx
                  exact skip_op (j := 24) rfl (need 24 (by kernel_rfl) (by kernel_rfl)) (by decide) (hKx undef w1 rfl hG (Below.refl _ _))
                case o28 =>
                  intro a w1 Kx hG need old hsz fresh hKx
                  have e0 : a.tmps[39]?.getD undef = .bool true := by rw [← Array.getD_eq_getD_getElem?]; exact (need 24 (by kernel_rfl) (by kernel_rfl))
                  refine op_value (v := .bool true) (wanted_none rfl) ?_ (hKx _ w1 rfl hG (Below.refl _ _))
                  simp [execOp, go_sem, asBool, e0]
              case hend =>
                intro a w6 hG hde hsz hφ hold
                obtain rfl := act_puts [(15, .pointer (some ⟨wr.heap.size, 0, none⟩)), (16, .string s), (17, .bool true), (18, .bool false), (19, .bool false), (20, .int .i64 (jx : Nat)), (21, .bool true), (22, .bool true), (23, .pointer (some ⟨wr.heap.size, 0, none⟩)), (24, .string s), (25, .slice (some ⟨B, o, none⟩) l.length c), (26, .int .i64 (jx : Nat)), (27, .int .i64 (k : Nat)), (28, .pointer (some ⟨B, o + k * 2, none⟩)), (29, .pointer (some ⟨B, o + k * 2, none⟩)), (30, .string z), (31, .bool false), (32, .bool false), (33, .bool false), (34, .bool false), (35, .pointer (some ⟨wr.heap.size, 1, none⟩)), (36, .int .i64 n), (37, .bool true), (38, .bool true), (39, .bool true), (40, undef), (41, undef), (42, undef), (43, .bool true)] [15, 16, 17, 18, 19, 20, 21, 22, 23, 24, 25, 26, 27, 28, 29, 30, 31, 32, 33, 34, 35, 36, 37, 38, 39, 40, 41, 42, 43] rfl (by kernel_rfl) (by kernel_rfl) hde hsz (List.forall_mem_cons.2 ⟨(show a.tmps.getD 15 undef = .pointer (some ⟨wr.heap.size, 0, none⟩) from (hφ 0 (by kernel_rfl))), (List.forall_mem_cons.2 ⟨(show a.tmps.getD 16 undef = .string s from (hφ 1 (by kernel_rfl))), (List.forall_mem_cons.2 ⟨(show a.tmps.getD 17 undef = .bool true from (hφ 2 (by kernel_rfl))), (List.forall_mem_cons.2 ⟨(show a.tmps.getD 18 undef = .bool false from (hφ 3 (by kernel_rfl))), (List.forall_mem_cons.2 ⟨(show a.tmps.getD 19 undef = .bool false from (hφ 4 (by kernel_rfl))), (List.forall_mem_cons.2 ⟨(show a.tmps.getD 20 undef = .int .i64 (jx : Nat) from (hφ 5 (by kernel_rfl))), (List.forall_mem_cons.2 ⟨(show a.tmps.getD 21 undef = .bool true from (hφ 6 (by kernel_rfl))), (List.forall_mem_cons.2 ⟨(show a.tmps.getD 22 undef = .bool true from (hφ 7 (by kernel_rfl))), (List.forall_mem_cons.2 ⟨(show a.tmps.getD 23 undef = .pointer (some ⟨wr.heap.size, 0, none⟩) from (hφ 8 (by kernel_rfl))), (List.forall_mem_cons.2 ⟨(show a.tmps.getD 24 undef = .string s from (hφ 9 (by kernel_rfl))), (List.forall_mem_cons.2 ⟨(show a.tmps.getD 25 undef = .slice (some ⟨B, o, none⟩) l.length c from (hφ 10 (by kernel_rfl))), (List.forall_mem_cons.2 ⟨(show a.tmps.getD 26 undef = .int .i64 (jx : Nat) from (hφ 11 (by kernel_rfl))), (List.forall_mem_cons.2 ⟨(show a.tmps.getD 27 undef = .int .i64 (k : Nat) from (hφ 12 (by kernel_rfl))), (List.forall_mem_cons.2 ⟨(show a.tmps.getD 28 undef = .pointer (some ⟨B, o + k * 2, none⟩) from (hφ 13 (by kernel_rfl))), (List.forall_mem_cons.2 ⟨(show a.tmps.getD 29 undef = .pointer (some ⟨B, o + k * 2, none⟩) from (hφ 14 (by kernel_rfl))), (List.forall_mem_cons.2 ⟨(show a.tmps.getD 30 undef = .string z from (hφ 15 (by kernel_rfl))), (List.forall_mem_cons.2 ⟨(show a.tmps.getD 31 undef = .bool false from (hφ 16 (by kernel_rfl))), (List.forall_mem_cons.2 ⟨(show a.tmps.getD 32 undef = .bool false from (hφ 17 (by kernel_rfl))), (List.forall_mem_cons.2 ⟨(show a.tmps.getD 33 undef = .bool false from (hφ 18 (by kernel_rfl))), (List.forall_mem_cons.2 ⟨(show a.tmps.getD 34 undef = .bool false from (hφ 19 (by kernel_rfl))), (List.forall_mem_cons.2 ⟨(show a.tmps.getD 35 undef = .pointer (some ⟨wr.heap.size, 1, none⟩) from (hφ 20 (by kernel_rfl))), (List.forall_mem_cons.2 ⟨(show a.tmps.getD 36 undef = .int .i64 n from (hφ 21 (by kernel_rfl))), (List.forall_mem_cons.2 ⟨(show a.tmps.getD 37 undef = .bool true from (hφ 22 (by kernel_rfl))), (List.forall_mem_cons.2 ⟨(show a.tmps.getD 38 undef = .bool true from (hφ 23 (by kernel_rfl))), (List.forall_mem_cons.2 ⟨(show a.tmps.getD 39 undef = .bool true from (hφ 24 (by kernel_rfl))), (List.forall_mem_cons.2 ⟨(show a.tmps.getD 40 undef = undef from (hφ 25 (by kernel_rfl))), (List.forall_mem_cons.2 ⟨(show a.tmps.getD 41 undef = undef from (hφ 26 (by kernel_rfl))), (List.forall_mem_cons.2 ⟨(show a.tmps.getD 42 undef = undef from (hφ 27 (by kernel_rfl))), (List.forall_mem_cons.2 ⟨(show a.tmps.getD 43 undef = .bool true from (hφ 28 (by kernel_rfl))), (fun _ h => absurd h (by simp))⟩)⟩)⟩)⟩)⟩)⟩)⟩)⟩)⟩)⟩)⟩)⟩)⟩)⟩)⟩)⟩)⟩)⟩)⟩)⟩)⟩)⟩)⟩)⟩)⟩)⟩)⟩)⟩)⟩) hold
                clear hφ hold hsz hde
                simp only [putAll]
                go_frame
                go_wp2_with fail
                go_ret
                exact ⟨rfl, HBW.out.trans (hG.mono HBW.out.size)⟩
            · by_cases hn2 : 12 ≤ n
              · have hF : R = false := by rw [← hR.out]; exact mayEs_one hj1 (by rw [hq3.out, decide_eq_false (show ¬ n ≤ 11 by omega)]; simp)
                subst hF
                refine region_st (fun j v w' => match j with | 0 => v = .pointer (some ⟨wr.heap.size, 0, none⟩) | 1 => v = .string s | 2 => v = .bool true | 3 => v = .bool false | 4 => v = .bool false | 5 => v = .int .i64 (jx : Nat) | 6 => v = .bool true | 7 => v = .bool true | 8 => v = .pointer (some ⟨wr.heap.size, 0, none⟩) | 9 => v = .string s | 10 => v = .slice (some ⟨B, o, none⟩) l.length c | 11 => v = .int .i64 (jx : Nat) | 12 => v = .int .i64 (k : Nat) | 13 => v = .pointer (some ⟨B, o + k * 2, none⟩) | 14 => v = .pointer (some ⟨B, o + k * 2, none⟩) | 15 => v = .string z | 16 => v = .bool false | 17 => v = .bool false | 18 => v = .bool false | 19 => v = .bool false | 20 => v = .pointer (some ⟨wr.heap.size, 1, none⟩) | 21 => v = .int .i64 n | 22 => v = .bool false | 23 => v = .bool false | 24 => v = .bool false | 25 => v = .pointer (some ⟨wr.heap.size, 1, none⟩) | 26 => v = .int .i64 n | 27 => v = .bool true | 28 => v = .bool true | _ => True) (fun _ w' => Below W.heap.size W w') (fun w1 w2 => Below w1.heap.size w1 w2) (by kernel_rfl) (by kernel_rfl) (by kernel_rfl) ?hR ?hG ?hops ?hend
                case hR =>
                  intro j v w1 w2 hv hb
                  match j, hv with
                  | 0, hv => exact hv
                  | 1, hv => exact hv
                  | 2, hv => exact hv
                  | 3, hv => exact hv
                  | 4, hv => exact hv
                  | 5, hv => exact hv
                  | 6, hv => exact hv
                  | 7, hv => exact hv
                  | 8, hv => exact hv
                  | 9, hv => exact hv
                  | 10, hv => exact hv
                  | 11, hv => exact hv
                  | 12, hv => exact hv
                  | 13, hv => exact hv
                  | 14, hv => exact hv
                  | 15, hv => exact hv
                  | 16, hv => exact hv
                  | 17, hv => exact hv
                  | 18, hv => exact hv
                  | 19, hv => exact hv
                  | 20, hv => exact hv
                  | 21, hv => exact hv
                  | 22, hv => exact hv
                  | 23, hv => exact hv
                  | 24, hv => exact hv
                  | 25, hv => exact hv
                  | 26, hv => exact hv
                  | 27, hv => exact hv
                  | 28, hv => exact hv
                  | _ + 29, _ => exact trivial
                case hG => exact (Below.refl _ _).drew
                case hops =>
                  refine OpsOkS.cons ?o0 (OpsOkS.cons ?o1 (OpsOkS.cons ?o2 (OpsOkS.cons ?o3 (OpsOkS.cons ?o4 (OpsOkS.cons ?o5 (OpsOkS.cons ?o6 (OpsOkS.cons ?o7 (OpsOkS.cons ?o8 (OpsOkS.cons ?o9 (OpsOkS.cons ?o10 (OpsOkS.cons ?o11 (OpsOkS.cons ?o12 (OpsOkS.cons ?o13 (OpsOkS.cons ?o14 (OpsOkS.cons ?o15 (OpsOkS.cons ?o16 (OpsOkS.cons ?o17 (OpsOkS.cons ?o18 (OpsOkS.cons ?o19 (OpsOkS.cons ?o20 (OpsOkS.cons ?o21 (OpsOkS.cons ?o22 (OpsOkS.cons ?o23 (OpsOkS.cons ?o24 (OpsOkS.cons ?o25 (OpsOkS.cons ?o26 (OpsOkS.cons ?o27 (OpsOkS.cons ?o28 OpsOkS.nil))))))))))))))))))))))))))))
                  case o0 =>
                    intro a w1 Kx hG need old hsz fresh hKx
                    have e0 : a.tmps[4]?.getD undef = .pointer (some ⟨wr.heap.size, 0, none⟩) := by rw [← Array.getD_eq_getD_getElem?]; exact old 4 (by kernel_rfl)
                    refine op_value (v := .pointer (some ⟨wr.heap.size, 0, none⟩)) (wanted_none rfl) ?_ (hKx _ w1 rfl hG (Below.refl _ _))
                    simp [execOp, go_sem, e0]
                  case o1 =>
                    intro a w1 Kx hG need old hsz fresh hKx
                    have e0 : a.tmps[15]?.getD undef = .pointer (some ⟨wr.heap.size, 0, none⟩) := by rw [← Array.getD_eq_getD_getElem?]; exact (need 0 (by kernel_rfl) (by kernel_rfl))
                    have k0 := (HK.out w1 hG).1
                    refine op_value (v := .string s) (wanted_none rfl) ?_ (hKx _ w1 rfl hG (Below.refl _ _))
                    simp [execOp, go_sem, e0, k0]
                  case o2 =>
                    intro a w1 Kx hG need old hsz fresh hKx
                    have e0 : a.tmps[16]?.getD undef = .string s := by rw [← Array.getD_eq_getD_getElem?]; exact (need 1 (by kernel_rfl) (by kernel_rfl))
                    refine op_call (wanted_none rfl) (f := 71) (args := #[.string s]) ?run ((HC.out w1).mono ?post)
                    case run => simp [go_sem, e0]
                    case post =>
                      rintro e w2 ⟨rfl, hb2⟩
                      exact ⟨_, rfl, hKx _ w2 rfl (hG.trans (hb2.mono hG.size)) hb2⟩
                  case o3 =>
                    intro a w1 Kx hG need old hsz fresh hKx
                    have e0 : a.tmps[17]?.getD undef = .bool true := by rw [← Array.getD_eq_getD_getElem?]; exact (need 2 (by kernel_rfl) (by kernel_rfl))
                    refine op_value (v := .bool false) (wanted_none rfl) ?_ (hKx _ w1 rfl hG (Below.refl _ _))
                    simp [execOp, go_sem, e0]
                  case o4 =>
                    intro a w1 Kx hG need old hsz fresh hKx
                    have e0 : a.tmps[18]?.getD undef = .bool false := by rw [← Array.getD_eq_getD_getElem?]; exact (need 3 (by kernel_rfl) (by kernel_rfl))
                    refine op_value (v := .bool false) (wanted_none rfl) ?_ (hKx _ w1 rfl hG (Below.refl _ _))
                    simp [execOp, go_sem, e0]
                  case o5 =>
                    intro a w1 Kx hG need old hsz fresh hKx
                    have e0 : a.tmps[3]?.getD undef = .int .i64 (jx : Nat) := by rw [← Array.getD_eq_getD_getElem?]; exact old 3 (by kernel_rfl)
                    refine op_value (v := .int .i64 (jx : Nat)) (wanted_of (j := 4) rfl (need 4 (by kernel_rfl) (by kernel_rfl))) ?_ (hKx _ w1 rfl hG (Below.refl _ _))
                    simp [execOp, go_sem, e0]
                  case o6 =>
                    intro a w1 Kx hG need old hsz fresh hKx
                    have e0 : a.tmps[20]?.getD undef = .int .i64 (jx : Nat) := by rw [← Array.getD_eq_getD_getElem?]; exact (need 5 (by kernel_rfl) (by kernel_rfl))
                    refine op_value (v := .bool true) (wanted_of (j := 4) rfl (need 4 (by kernel_rfl) (by kernel_rfl))) ?_ (hKx _ w1 rfl hG (Below.refl _ _))
                    simp [execOp, go_sem, e0]; omega
                  case o7 =>
                    intro a w1 Kx hG need old hsz fresh hKx
                    have e0 : a.tmps[21]?.getD undef = .bool true := by rw [← Array.getD_eq_getD_getElem?]; exact (need 6 (by kernel_rfl) (by kernel_rfl))
                    refine op_value (v := .bool true) (wanted_of (j := 4) rfl (need 4 (by kernel_rfl) (by kernel_rfl))) ?_ (hKx _ w1 rfl hG (Below.refl _ _))
                    simp [execOp, go_sem, e0]
                  case o8 =>
                    intro a w1 Kx hG need old hsz fresh hKx
                    have e0 : a.tmps[4]?.getD undef = .pointer (some ⟨wr.heap.size, 0, none⟩) := by rw [← Array.getD_eq_getD_getElem?]; exact old 4 (by kernel_rfl)
                    refine op_value (v := .pointer (some ⟨wr.heap.size, 0, none⟩)) (wanted_of (j := 7) rfl (need 7 (by kernel_rfl) (by kernel_rfl))) ?_ (hKx _ w1 rfl hG (Below.refl _ _))
                    simp [execOp, go_sem, e0]
                  case o9 =>
                    intro a w1 Kx hG need old hsz fresh hKx
                    have e0 : a.tmps[23]?.getD undef = .pointer (some ⟨wr.heap.size, 0, none⟩) := by rw [← Array.getD_eq_getD_getElem?]; exact (need 8 (by kernel_rfl) (by kernel_rfl))
                    have k0 := (HK.out w1 hG).1
                    refine op_value (v := .string s) (wanted_of (j := 7) rfl (need 7 (by kernel_rfl) (by kernel_rfl))) ?_ (hKx _ w1 rfl hG (Below.refl _ _))
                    simp [execOp, go_sem, e0, k0]
                  case o10 =>
                    intro a w1 Kx hG need old hsz fresh hKx
                    have e0 : a.tmps[0]?.getD undef = .slice (some ⟨B, o, none⟩) l.length c := by rw [← Array.getD_eq_getD_getElem?]; exact old 0 (by kernel_rfl)
                    refine op_value (v := .slice (some ⟨B, o, none⟩) l.length c) (wanted_of (j := 7) rfl (need 7 (by kernel_rfl) (by kernel_rfl))) ?_ (hKx _ w1 rfl hG (Below.refl _ _))
                    simp [execOp, go_sem, e0]
                  case o11 =>
                    intro a w1 Kx hG need old hsz fresh hKx
                    have e0 : a.tmps[3]?.getD undef = .int .i64 (jx : Nat) := by rw [← Array.getD_eq_getD_getElem?]; exact old 3 (by kernel_rfl)
                    refine op_value (v := .int .i64 (jx : Nat)) (wanted_of (j := 7) rfl (need 7 (by kernel_rfl) (by kernel_rfl))) ?_ (hKx _ w1 rfl hG (Below.refl _ _))
                    simp [execOp, go_sem, e0]
                  case o12 =>
                    intro a w1 Kx hG need old hsz fresh hKx
                    have e0 : a.tmps[26]?.getD undef = .int .i64 (jx : Nat) := by rw [← Array.getD_eq_getD_getElem?]; exact (need 11 (by kernel_rfl) (by kernel_rfl))
                    refine op_value (v := .int .i64 (k : Nat)) (wanted_of (j := 7) rfl (need 7 (by kernel_rfl) (by kernel_rfl))) ?_ (hKx _ w1 rfl hG (Below.refl _ _))
                    simp [execOp, go_sem, e0, hwk]
                  case o13 =>
                    intro a w1 Kx hG need old hsz fresh hKx
                    have e0 : a.tmps[25]?.getD undef = .slice (some ⟨B, o, none⟩) l.length c := by rw [← Array.getD_eq_getD_getElem?]; exact (need 10 (by kernel_rfl) (by kernel_rfl))
                    have e1 : a.tmps[27]?.getD undef = .int .i64 (k : Nat) := by rw [← Array.getD_eq_getD_getElem?]; exact (need 12 (by kernel_rfl) (by kernel_rfl))
                    refine op_value (v := .pointer (some ⟨B, o + k * 2, none⟩)) (wanted_of (j := 7) rfl (need 7 (by kernel_rfl) (by kernel_rfl))) ?_ (hKx _ w1 rfl hG (Below.refl _ _))
                    simp [execOp, go_sem, e0, e1, HIX2.out]
                  case o14 =>
                    intro a w1 Kx hG need old hsz fresh hKx
                    have e0 : a.tmps[28]?.getD undef = .pointer (some ⟨B, o + k * 2, none⟩) := by rw [← Array.getD_eq_getD_getElem?]; exact (need 13 (by kernel_rfl) (by kernel_rfl))
                    refine op_value (v := .pointer (some ⟨B, o + k * 2, none⟩)) (wanted_of (j := 7) rfl (need 7 (by kernel_rfl) (by kernel_rfl))) ?_ (hKx _ w1 rfl hG (Below.refl _ _))
                    simp [execOp, go_sem, e0]
                  case o15 =>
                    intro a w1 Kx hG need old hsz fresh hKx
                    have e0 : a.tmps[29]?.getD undef = .pointer (some ⟨B, o + k * 2, none⟩) := by rw [← Array.getD_eq_getD_getElem?]; exact (need 14 (by kernel_rfl) (by kernel_rfl))
                    have k0 := (HK.out w1 hG).2.2
                    refine op_value (v := .string z) (wanted_of (j := 7) rfl (need 7 (by kernel_rfl) (by kernel_rfl))) ?_ (hKx _ w1 rfl hG (Below.refl _ _))
                    simp [execOp, go_sem, e0, k0]
                  case o16 =>
                    intro a w1 Kx hG need old hsz fresh hKx
                    have e0 : a.tmps[24]?.getD undef = .string s := by rw [← Array.getD_eq_getD_getElem?]; exact (need 9 (by kernel_rfl) (by kernel_rfl))
                    have e1 : a.tmps[30]?.getD undef = .string z := by rw [← Array.getD_eq_getD_getElem?]; exact (need 15 (by kernel_rfl) (by kernel_rfl))
                    refine op_value (v := .bool false) (wanted_of (j := 7) rfl (need 7 (by kernel_rfl) (by kernel_rfl))) ?_ (hKx _ w1 rfl hG (Below.refl _ _))
                    simp [execOp, go_sem, e0, e1]; simpa using ht3.out
                  case o17 =>
                    intro a w1 Kx hG need old hsz fresh hKx
                    have e0 : a.tmps[22]?.getD undef = .bool true := by rw [← Array.getD_eq_getD_getElem?]; exact (need 7 (by kernel_rfl) (by kernel_rfl))
                    have e1 : a.tmps[31]?.getD undef = .bool false := by rw [← Array.getD_eq_getD_getElem?]; exact (need 16 (by kernel_rfl) (by kernel_rfl))
                    refine op_value (v := .bool false) (wanted_of (j := 4) rfl (need 4 (by kernel_rfl) (by kernel_rfl))) ?_ (hKx _ w1 rfl hG (Below.refl _ _))
                    simp [execOp, go_sem, asBool, e0, e1]
                  case o18 =>
                    intro a w1 Kx hG need old hsz fresh hKx
                    have e0 : a.tmps[19]?.getD undef = .bool false := by rw [← Array.getD_eq_getD_getElem?]; exact (need 4 (by kernel_rfl) (by kernel_rfl))
                    have e1 : a.tmps[32]?.getD undef = .bool false := by rw [← Array.getD_eq_getD_getElem?]; exact (need 17 (by kernel_rfl) (by kernel_rfl))
                    refine op_value (v := .bool false) (wanted_none rfl) ?_ (hKx _ w1 rfl hG (Below.refl _ _))
                    simp [execOp, go_sem, asBool, e0, e1]
                  case o19 =>
                    intro a w1 Kx hG need old hsz fresh hKx
                    have e0 : a.tmps[33]?.getD undef = .bool false := by rw [← Array.getD_eq_getD_getElem?]; exact (need 18 (by kernel_rfl) (by kernel_rfl))
                    refine op_value (v := .bool false) (wanted_none rfl) ?_ (hKx _ w1 rfl hG (Below.refl _ _))
                    simp [execOp, go_sem, e0]
                  case o20 =>
                    intro a w1 Kx hG need old hsz fresh hKx
                    have e0 : a.tmps[4]?.getD undef = .pointer (some ⟨wr.heap.size, 0, none⟩) := by rw [← Array.getD_eq_getD_getElem?]; exact old 4 (by kernel_rfl)
                    refine op_value (v := .pointer (some ⟨wr.heap.size, 1, none⟩)) (wanted_of (j := 19) rfl (need 19 (by kernel_rfl) (by kernel_rfl))) ?_ (hKx _ w1 rfl hG (Below.refl _ _))
                    simp [execOp, go_sem, e0]
                  case o21 =>
                    intro a w1 Kx hG need old hsz fresh hKx
                    have e0 : a.tmps[35]?.getD undef = .pointer (some ⟨wr.heap.size, 1, none⟩) := by rw [← Array.getD_eq_getD_getElem?]; exact (need 20 (by kernel_rfl) (by kernel_rfl))
                    have k0 := (HK.out w1 hG).2.1
                    refine op_value (v := .int .i64 n) (wanted_of (j := 19) rfl (need 19 (by kernel_rfl) (by kernel_rfl))) ?_ (hKx _ w1 rfl hG (Below.refl _ _))
                    simp [execOp, go_sem, e0, k0]
                  case o22 =>
                    intro a w1 Kx hG need old hsz fresh hKx
                    have e0 : a.tmps[36]?.getD undef = .int .i64 n := by rw [← Array.getD_eq_getD_getElem?]; exact (need 21 (by kernel_rfl) (by kernel_rfl))
                    refine op_value (v := .bool false) (wanted_of (j := 19) rfl (need 19 (by kernel_rfl) (by kernel_rfl))) ?_ (hKx _ w1 rfl hG (Below.refl _ _))
                    simp [execOp, go_sem, e0]; omega
                  case o23 =>
                    intro a w1 Kx hG need old hsz fresh hKx
                    have e0 : a.tmps[34]?.getD undef = .bool false := by rw [← Array.getD_eq_getD_getElem?]; exact (need 19 (by kernel_rfl) (by kernel_rfl))
                    have e1 : a.tmps[37]?.getD undef = .bool false := by rw [← Array.getD_eq_getD_getElem?]; exact (need 22 (by kernel_rfl) (by kernel_rfl))
                    refine op_value (v := .bool false) (wanted_none rfl) ?_ (hKx _ w1 rfl hG (Below.refl _ _))
                    simp [execOp, go_sem, asBool, e0, e1]
                  case o24 =>
                    intro a w1 Kx hG need old hsz fresh hKx
                    have e0 : a.tmps[38]?.getD undef = .bool false := by rw [← Array.getD_eq_getD_getElem?]; exact (need 23 (by kernel_rfl) (by kernel_rfl))
                    refine op_value (v := .bool false) (wanted_none rfl) ?_ (hKx _ w1 rfl hG (Below.refl _ _))
                    simp [execOp, go_sem, e0]
                  case o25 =>
                    intro a w1 Kx hG need old hsz fresh hKx
                    have e0 : a.tmps[4]?.getD undef = .pointer (some ⟨wr.heap.size, 0, none⟩) := by rw [← Array.getD_eq_getD_getElem?]; exact old 4 (by kernel_rfl)
                    refine op_value (v := .pointer (some ⟨wr.heap.size, 1, none⟩)) (wanted_of (j := 24) rfl (need 24 (by kernel_rfl) (by kernel_rfl))) ?_ (hKx _ w1 rfl hG (Below.refl _ _))
                    simp [execOp, go_sem, e0]
                  case o26 =>
                    intro a w1 Kx hG need old hsz fresh hKx
                    have e0 : a.tmps[40]?.getD undef = .pointer (some ⟨wr.heap.size, 1, none⟩) := by rw [← Array.getD_eq_getD_getElem?]; exact (need 25 (by kernel_rfl) (by kernel_rfl))
                    have k0 := (HK.out w1 hG).2.1
                    refine op_value (v := .int .i64 n) (wanted_of (j := 24) rfl (need 24 (by kernel_rfl) (by kernel_rfl))) ?_ (hKx _ w1 rfl hG (Below.refl _ _))
                    simp [execOp, go_sem, e0, k0]
                  case o27 =>
                    intro a w1 Kx hG need old hsz fresh hKx
                    have e0 : a.tmps[41]?.getD undef = .int .i64 n := by rw [← Array.getD_eq_getD_getElem?]; exact (need 26 (by kernel_rfl) (by kernel_rfl))
                    refine op_value (v := .bool true) (wanted_of (j := 24) rfl (need 24 (by kernel_rfl) (by kernel_rfl))) ?_ (hKx _ w1 rfl hG (Below.refl _ _))
                    simp [execOp, go_sem, e0]; omega
                  case o28 =>
                    intro a w1 Kx hG need old hsz fresh hKx
                    have e0 : a.tmps[39]?.getD undef = .bool false := by rw [← Array.getD_eq_getD_getElem?]; exact (need 24 (by kernel_rfl) (by kernel_rfl))
                    have e1 : a.tmps[42]?.getD undef = .bool true := by rw [← Array.getD_eq_getD_getElem?]; exact (need 27 (by kernel_rfl) (by kernel_rfl))
                    refine op_value (v := .bool true) (wanted_none rfl) ?_ (hKx _ w1 rfl hG (Below.refl _ _))
                    simp [execOp, go_sem, asBool, e0, e1]
                case hend =>
                  intro a w6 hG hde hsz hφ hold
                  obtain rfl := act_puts [(15, .pointer (some ⟨wr.heap.size, 0, none⟩)), (16, .string s), (17, .bool true), (18, .bool false), (19, .bool false), (20, .int .i64 (jx : Nat)), (21, .bool true), (22, .bool true), (23, .pointer (some ⟨wr.heap.size, 0, none⟩)), (24, .string s), (25, .slice (some ⟨B, o, none⟩) l.length c), (26, .int .i64 (jx : Nat)), (27, .int .i64 (k : Nat)), (28, .pointer (some ⟨B, o + k * 2, none⟩)), (29, .pointer (some ⟨B, o + k * 2, none⟩)), (30, .string z), (31, .bool false), (32, .bool false), (33, .bool false), (34, .bool false), (35, .pointer (some ⟨wr.heap.size, 1, none⟩)), (36, .int .i64 n), (37, .bool false), (38, .bool false), (39, .bool false), (40, .pointer (some ⟨wr.heap.size, 1, none⟩)), (41, .int .i64 n), (42, .bool true), (43, .bool true)] [15, 16, 17, 18, 19, 20, 21, 22, 23, 24, 25, 26, 27, 28, 29, 30, 31, 32, 33, 34, 35, 36, 37, 38, 39, 40, 41, 42, 43] rfl (by kernel_rfl) (by kernel_rfl) hde hsz (List.forall_mem_cons.2 ⟨(show a.tmps.getD 15 undef = .pointer (some ⟨wr.heap.size, 0, none⟩) from (hφ 0 (by kernel_rfl))), (List.forall_mem_cons.2 ⟨(show a.tmps.getD 16 undef = .string s from (hφ 1 (by kernel_rfl))), (List.forall_mem_cons.2 ⟨(show a.tmps.getD 17 undef = .bool true from (hφ 2 (by kernel_rfl))), (List.forall_mem_cons.2 ⟨(show a.tmps.getD 18 undef = .bool false from (hφ 3 (by kernel_rfl))), (List.forall_mem_cons.2 ⟨(show a.tmps.getD 19 undef = .bool false from (hφ 4 (by kernel_rfl))), (List.forall_mem_cons.2 ⟨(show a.tmps.getD 20 undef = .int .i64 (jx : Nat) from (hφ 5 (by kernel_rfl))), (List.forall_mem_cons.2 ⟨(show a.tmps.getD 21 undef = .bool true from (hφ 6 (by kernel_rfl))), (List.forall_mem_cons.2 ⟨(show a.tmps.getD 22 undef = .bool true from (hφ 7 (by kernel_rfl))), (List.forall_mem_cons.2 ⟨(show a.tmps.getD 23 undef = .pointer (some ⟨wr.heap.size, 0, none⟩) from (hφ 8 (by kernel_rfl))), (List.forall_mem_cons.2 ⟨(show a.tmps.getD 24 undef = .string s from (hφ 9 (by kernel_rfl))), (List.forall_mem_cons.2 ⟨(show a.tmps.getD 25 undef = .slice (some ⟨B, o, none⟩) l.length c from (hφ 10 (by kernel_rfl))), (List.forall_mem_cons.2 ⟨(show a.tmps.getD 26 undef = .int .i64 (jx : Nat) from (hφ 11 (by kernel_rfl))), (List.forall_mem_cons.2 ⟨(show a.tmps.getD 27 undef = .int .i64 (k : Nat) from (hφ 12 (by kernel_rfl))), (List.forall_mem_cons.2 ⟨(show a.tmps.getD 28 undef = .pointer (some ⟨B, o + k * 2, none⟩) from (hφ 13 (by kernel_rfl))), (List.forall_mem_cons.2 ⟨(show a.tmps.getD 29 undef = .pointer (some ⟨B, o + k * 2, none⟩) from (hφ 14 (by kernel_rfl))), (List.forall_mem_cons.2 ⟨(show a.tmps.getD 30 undef = .string z from (hφ 15 (by kernel_rfl))), (List.forall_mem_cons.2 ⟨(show a.tmps.getD 31 undef = .bool false from (hφ 16 (by kernel_rfl))), (List.forall_mem_cons.2 ⟨(show a.tmps.getD 32 undef = .bool false from (hφ 17 (by kernel_rfl))), (List.forall_mem_cons.2 ⟨(show a.tmps.getD 33 undef = .bool false from (hφ 18 (by kernel_rfl))), (List.forall_mem_cons.2 ⟨(show a.tmps.getD 34 undef = .bool false from (hφ 19 (by kernel_rfl))), (List.forall_mem_cons.2 ⟨(show a.tmps.getD 35 undef = .pointer (some ⟨wr.heap.size, 1, none⟩) from (hφ 20 (by kernel_rfl))), (List.forall_mem_cons.2 ⟨(show a.tmps.getD 36 undef = .int .i64 n from (hφ 21 (by kernel_rfl))), (List.forall_mem_cons.2 ⟨(show a.tmps.getD 37 undef = .bool false from (hφ 22 (by kernel_rfl))), (List.forall_mem_cons.2 ⟨(show a.tmps.getD 38 undef = .bool false from (hφ 23 (by kernel_rfl))), (List.forall_mem_cons.2 ⟨(show a.tmps.getD 39 undef = .bool false from (hφ 24 (by kernel_rfl))), (List.forall_mem_cons.2 ⟨(show a.tmps.getD 40 undef = .pointer (some ⟨wr.heap.size, 1, none⟩) from (hφ 25 (by kernel_rfl))), (List.forall_mem_cons.2 ⟨(show a.tmps.getD 41 undef = .int .i64 n from (hφ 26 (by kernel_rfl))), (List.forall_mem_cons.2 ⟨(show a.tmps.getD 42 undef = .bool true from (hφ 27 (by kernel_rfl))), (List.forall_mem_cons.2 ⟨(show a.tmps.getD 43 undef = .bool true from (hφ 28 (by kernel_rfl))), (fun _ h => absurd h (by simp))⟩)⟩)⟩)⟩)⟩)⟩)⟩)⟩)⟩)⟩)⟩)⟩)⟩)⟩)⟩)⟩)⟩)⟩)⟩)⟩)⟩)⟩)⟩)⟩)⟩)⟩)⟩)⟩)⟩) hold
                  clear hφ hold hsz hde
                  simp only [putAll]
                  go_frame
                  go_wp2_with fail
                  go_ret
                  exact ⟨rfl, HBW.out.trans (hG.mono HBW.out.size)⟩
              · have hm2 : Hid (mayE l[jx] = true) := Lib.hid (by rw [hq3.out, decide_eq_true (show 1 ≤ n by omega), decide_eq_true (show n ≤ 11 by omega)]; rfl)
                refine region_st (fun j v w' => match j with | 0 => v = .pointer (some ⟨wr.heap.size, 0, none⟩) | 1 => v = .string s | 2 => v = .bool true | 3 => v = .bool false | 4 => v = .bool false | 5 => v = .int .i64 (jx : Nat) | 6 => v = .bool true | 7 => v = .bool true | 8 => v = .pointer (some ⟨wr.heap.size, 0, none⟩) | 9 => v = .string s | 10 => v = .slice (some ⟨B, o, none⟩) l.length c | 11 => v = .int .i64 (jx : Nat) | 12 => v = .int .i64 (k : Nat) | 13 => v = .pointer (some ⟨B, o + k * 2, none⟩) | 14 => v = .pointer (some ⟨B, o + k * 2, none⟩) | 15 => v = .string z | 16 => v = .bool false | 17 => v = .bool false | 18 => v = .bool false | 19 => v = .bool false | 20 => v = .pointer (some ⟨wr.heap.size, 1, none⟩) | 21 => v = .int .i64 n | 22 => v = .bool false | 23 => v = .bool false | 24 => v = .bool false | 25 => v = .pointer (some ⟨wr.heap.size, 1, none⟩) | 26 => v = .int .i64 n | 27 => v = .bool false | 28 => v = .bool false | _ => True) (fun _ w' => Below W.heap.size W w') (fun w1 w2 => Below w1.heap.size w1 w2) (by kernel_rfl) (by kernel_rfl) (by kernel_rfl) ?hR ?hG ?hops ?hend
                case hR =>
                  intro j v w1 w2 hv hb
                  match j, hv with
                  | 0, hv => exact hv
                  | 1, hv => exact hv
                  | 2, hv => exact hv
                  | 3, hv => exact hv
                  | 4, hv => exact hv
                  | 5, hv => exact hv
                  | 6, hv => exact hv
                  | 7, hv => exact hv
                  | 8, hv => exact hv
                  | 9, hv => exact hv
                  | 10, hv => exact hv
                  | 11, hv => exact hv
                  | 12, hv => exact hv
                  | 13, hv => exact hv
                  | 14, hv => exact hv
                  | 15, hv => exact hv
                  | 16, hv => exact hv
                  | 17, hv => exact hv
                  | 18, hv => exact hv
                  | 19, hv => exact hv
                  | 20, hv => exact hv
                  | 21, hv => exact hv
                  | 22, hv => exact hv
                  | 23, hv => exact hv
                  | 24, hv => exact hv
                  | 25, hv => exact hv
                  | 26, hv => exact hv
                  | 27, hv => exact hv
                  | 28, hv => exact hv
                  | _ + 29, _ => exact trivial
                case hG => exact (Below.refl _ _).drew
                case hops =>
                  refine OpsOkS.cons ?o0 (OpsOkS.cons ?o1 (OpsOkS.cons ?o2 (OpsOkS.cons ?o3 (OpsOkS.cons ?o4 (OpsOkS.cons ?o5 (OpsOkS.cons ?o6 (OpsOkS.cons ?o7 (OpsOkS.cons ?o8 (OpsOkS.cons ?o9 (OpsOkS.cons ?o10 (OpsOkS.cons ?o11 (OpsOkS.cons ?o12 (OpsOkS.cons ?o13 (OpsOkS.cons ?o14 (OpsOkS.cons ?o15 (OpsOkS.cons ?o16 (OpsOkS.cons ?o17 (OpsOkS.cons ?o18 (OpsOkS.cons ?o19 (OpsOkS.cons ?o20 (OpsOkS.cons ?o21 (OpsOkS.cons ?o22 (OpsOkS.cons ?o23 (OpsOkS.cons ?o24 (OpsOkS.cons ?o25 (OpsOkS.cons ?o26 (OpsOkS.cons ?o27 (OpsOkS.cons ?o28 OpsOkS.nil))))))))))))))))))))))))))))
                  case o0 =>
                    intro a w1 Kx hG need old hsz fresh hKx
                    have e0 : a.tmps[4]?.getD undef = .pointer (some ⟨wr.heap.size, 0, none⟩) := by rw [← Array.getD_eq_getD_getElem?]; exact old 4 (by kernel_rfl)
                    refine op_value (v := .pointer (some ⟨wr.heap.size, 0, none⟩)) (wanted_none rfl) ?_ (hKx _ w1 rfl hG (Below.refl _ _))
                    simp [execOp, go_sem, e0]
                  case o1 =>
                    intro a w1 Kx hG need old hsz fresh hKx
                    have e0 : a.tmps[15]?.getD undef = .pointer (some ⟨wr.heap.size, 0, none⟩) := by rw [← Array.getD_eq_getD_getElem?]; exact (need 0 (by kernel_rfl) (by kernel_rfl))
                    have k0 := (HK.out w1 hG).1
                    refine op_value (v := .string s) (wanted_none rfl) ?_ (hKx _ w1 rfl hG (Below.refl _ _))
                    simp [execOp, go_sem, e0, k0]
                  case o2 =>
                    intro a w1 Kx hG need old hsz fresh hKx
                    have e0 : a.tmps[16]?.getD undef = .string s := by rw [← Array.getD_eq_getD_getElem?]; exact (need 1 (by kernel_rfl) (by kernel_rfl))
                    refine op_call (wanted_none rfl) (f := 71) (args := #[.string s]) ?run ((HC.out w1).mono ?post)
                    case run => simp [go_sem, e0]
                    case post =>
                      rintro e w2 ⟨rfl, hb2⟩
                      exact ⟨_, rfl, hKx _ w2 rfl (hG.trans (hb2.mono hG.size)) hb2⟩
                  case o3 =>
                    intro a w1 Kx hG need old hsz fresh hKx
                    have e0 : a.tmps[17]?.getD undef = .bool true := by rw [← Array.getD_eq_getD_getElem?]; exact (need 2 (by kernel_rfl) (by kernel_rfl))
                    refine op_value (v := .bool false) (wanted_none rfl) ?_ (hKx _ w1 rfl hG (Below.refl _ _))
                    simp [execOp, go_sem, e0]
                  case o4 =>
                    intro a w1 Kx hG need old hsz fresh hKx
                    have e0 : a.tmps[18]?.getD undef = .bool false := by rw [← Array.getD_eq_getD_getElem?]; exact (need 3 (by kernel_rfl) (by kernel_rfl))
                    refine op_value (v := .bool false) (wanted_none rfl) ?_ (hKx _ w1 rfl hG (Below.refl _ _))
                    simp [execOp, go_sem, e0]
                  case o5 =>
                    intro a w1 Kx hG need old hsz fresh hKx
                    have e0 : a.tmps[3]?.getD undef = .int .i64 (jx : Nat) := by rw [← Array.getD_eq_getD_getElem?]; exact old 3 (by kernel_rfl)
                    refine op_value (v := .int .i64 (jx : Nat)) (wanted_of (j := 4) rfl (need 4 (by kernel_rfl) (by kernel_rfl))) ?_ (hKx _ w1 rfl hG (Below.refl _ _))
                    simp [execOp, go_sem, e0]
                  case o6 =>
                    intro a w1 Kx hG need old hsz fresh hKx
                    have e0 : a.tmps[20]?.getD undef = .int .i64 (jx : Nat) := by rw [← Array.getD_eq_getD_getElem?]; exact (need 5 (by kernel_rfl) (by kernel_rfl))
                    refine op_value (v := .bool true) (wanted_of (j := 4) rfl (need 4 (by kernel_rfl) (by kernel_rfl))) ?_ (hKx _ w1 rfl hG (Below.refl _ _))
                    simp [execOp, go_sem, e0]; omega
                  case o7 =>
                    intro a w1 Kx hG need old hsz fresh hKx
                    have e0 : a.tmps[21]?.getD undef = .bool true := by rw [← Array.getD_eq_getD_getElem?]; exact (need 6 (by kernel_rfl) (by kernel_rfl))
                    refine op_value (v := .bool true) (wanted_of (j := 4) rfl (need 4 (by kernel_rfl) (by kernel_rfl))) ?_ (hKx _ w1 rfl hG (Below.refl _ _))
                    simp [execOp, go_sem, e0]
                  case o8 =>
                    intro a w1 Kx hG need old hsz fresh hKx
                    have e0 : a.tmps[4]?.getD undef = .pointer (some ⟨wr.heap.size, 0, none⟩) := by rw [← Array.getD_eq_getD_getElem?]; exact old 4 (by kernel_rfl)
                    refine op_value (v := .pointer (some ⟨wr.heap.size, 0, none⟩)) (wanted_of (j := 7) rfl (need 7 (by kernel_rfl) (by kernel_rfl))) ?_ (hKx _ w1 rfl hG (Below.refl _ _))
                    simp [execOp, go_sem, e0]
                  case o9 =>
                    intro a w1 Kx hG need old hsz fresh hKx
                    have e0 : a.tmps[23]?.getD undef = .pointer (some ⟨wr.heap.size, 0, none⟩) := by rw [← Array.getD_eq_getD_getElem?]; exact (need 8 (by kernel_rfl) (by kernel_rfl))
                    have k0 := (HK.out w1 hG).1
                    refine op_value (v := .string s) (wanted_of (j := 7) rfl (need 7 (by kernel_rfl) (by kernel_rfl))) ?_ (hKx _ w1 rfl hG (Below.refl _ _))
                    simp [execOp, go_sem, e0, k0]
                  case o10 =>
                    intro a w1 Kx hG need old hsz fresh hKx
                    have e0 : a.tmps[0]?.getD undef = .slice (some ⟨B, o, none⟩) l.length c := by rw [← Array.getD_eq_getD_getElem?]; exact old 0 (by kernel_rfl)
                    refine op_value (v := .slice (some ⟨B, o, none⟩) l.length c) (wanted_of (j := 7) rfl (need 7 (by kernel_rfl) (by kernel_rfl))) ?_ (hKx _ w1 rfl hG (Below.refl _ _))
                    simp [execOp, go_sem, e0]
                  case o11 =>
                    intro a w1 Kx hG need old hsz fresh hKx
                    have e0 : a.tmps[3]?.getD undef = .int .i64 (jx : Nat) := by rw [← Array.getD_eq_getD_getElem?]; exact old 3 (by kernel_rfl)
                    refine op_value (v := .int .i64 (jx : Nat)) (wanted_of (j := 7) rfl (need 7 (by kernel_rfl) (by kernel_rfl))) ?_ (hKx _ w1 rfl hG (Below.refl _ _))
                    simp [execOp, go_sem, e0]
                  case o12 =>
                    intro a w1 Kx hG need old hsz fresh hKx
                    have e0 : a.tmps[26]?.getD undef = .int .i64 (jx : Nat) := by rw [← Array.getD_eq_getD_getElem?]; exact (need 11 (by kernel_rfl) (by kernel_rfl))
                    refine op_value (v := .int .i64 (k : Nat)) (wanted_of (j := 7) rfl (need 7 (by kernel_rfl) (by kernel_rfl))) ?_ (hKx _ w1 rfl hG (Below.refl _ _))
                    simp [execOp, go_sem, e0, hwk]
                  case o13 =>
                    intro a w1 Kx hG need old hsz fresh hKx
                    have e0 : a.tmps[25]?.getD undef = .slice (some ⟨B, o, none⟩) l.length c := by rw [← Array.getD_eq_getD_getElem?]; exact (need 10 (by kernel_rfl) (by kernel_rfl))
                    have e1 : a.tmps[27]?.getD undef = .int .i64 (k : Nat) := by rw [← Array.getD_eq_getD_getElem?]; exact (need 12 (by kernel_rfl) (by kernel_rfl))
                    refine op_value (v := .pointer (some ⟨B, o + k * 2, none⟩)) (wanted_of (j := 7) rfl (need 7 (by kernel_rfl) (by kernel_rfl))) ?_ (hKx _ w1 rfl hG (Below.refl _ _))
                    simp [execOp, go_sem, e0, e1, HIX2.out]
                  case o14 =>
                    intro a w1 Kx hG need old hsz fresh hKx
                    have e0 : a.tmps[28]?.getD undef = .pointer (some ⟨B, o + k * 2, none⟩) := by rw [← Array.getD_eq_getD_getElem?]; exact (need 13 (by kernel_rfl) (by kernel_rfl))
                    refine op_value (v := .pointer (some ⟨B, o + k * 2, none⟩)) (wanted_of (j := 7) rfl (need 7 (by kernel_rfl) (by kernel_rfl))) ?_ (hKx _ w1 rfl hG (Below.refl _ _))
                    simp [execOp, go_sem, e0]
                  case o15 =>
                    intro a w1 Kx hG need old hsz fresh hKx
                    have e0 : a.tmps[29]?.getD undef = .pointer (some ⟨B, o + k * 2, none⟩) := by rw [← Array.getD_eq_getD_getElem?]; exact (need 14 (by kernel_rfl) (by kernel_rfl))
                    have k0 := (HK.out w1 hG).2.2
                    refine op_value (v := .string z) (wanted_of (j := 7) rfl (need 7 (by kernel_rfl) (by kernel_rfl))) ?_ (hKx _ w1 rfl hG (Below.refl _ _))
                    simp [execOp, go_sem, e0, k0]
                  case o16 =>
                    intro a w1 Kx hG need old hsz fresh hKx
                    have e0 : a.tmps[24]?.getD undef = .string s := by rw [← Array.getD_eq_getD_getElem?]; exact (need 9 (by kernel_rfl) (by kernel_rfl))
                    have e1 : a.tmps[30]?.getD undef = .string z := by rw [← Array.getD_eq_getD_getElem?]; exact (need 15 (by kernel_rfl) (by kernel_rfl))
                    refine op_value (v := .bool false) (wanted_of (j := 7) rfl (need 7 (by kernel_rfl) (by kernel_rfl))) ?_ (hKx _ w1 rfl hG (Below.refl _ _))
                    simp [execOp, go_sem, e0, e1]; simpa using ht3.out
                  case o17 =>
                    intro a w1 Kx hG need old hsz fresh hKx
                    have e0 : a.tmps[22]?.getD undef = .bool true := by rw [← Array.getD_eq_getD_getElem?]; exact (need 7 (by kernel_rfl) (by kernel_rfl))
                    have e1 : a.tmps[31]?.getD undef = .bool false := by rw [← Array.getD_eq_getD_getElem?]; exact (need 16 (by kernel_rfl) (by kernel_rfl))
                    refine op_value (v := .bool false) (wanted_of (j := 4) rfl (need 4 (by kernel_rfl) (by kernel_rfl))) ?_ (hKx _ w1 rfl hG (Below.refl _ _))
                    simp [execOp, go_sem, asBool, e0, e1]
                  case o18 =>
                    intro a w1 Kx hG need old hsz fresh hKx
                    have e0 : a.tmps[19]?.getD undef = .bool false := by rw [← Array.getD_eq_getD_getElem?]; exact (need 4 (by kernel_rfl) (by kernel_rfl))
                    have e1 : a.tmps[32]?.getD undef = .bool false := by rw [← Array.getD_eq_getD_getElem?]; exact (need 17 (by kernel_rfl) (by kernel_rfl))
                    refine op_value (v := .bool false) (wanted_none rfl) ?_ (hKx _ w1 rfl hG (Below.refl _ _))
                    simp [execOp, go_sem, asBool, e0, e1]
                  case o19 =>
                    intro a w1 Kx hG need old hsz fresh hKx
                    have e0 : a.tmps[33]?.getD undef = .bool false := by rw [← Array.getD_eq_getD_getElem?]; exact (need 18 (by kernel_rfl) (by kernel_rfl))
                    refine op_value (v := .bool false) (wanted_none rfl) ?_ (hKx _ w1 rfl hG (Below.refl _ _))
                    simp [execOp, go_sem, e0]
                  case o20 =>
                    intro a w1 Kx hG need old hsz fresh hKx
                    have e0 : a.tmps[4]?.getD undef = .pointer (some ⟨wr.heap.size, 0, none⟩) := by rw [← Array.getD_eq_getD_getElem?]; exact old 4 (by kernel_rfl)
                    refine op_value (v := .pointer (some ⟨wr.heap.size, 1, none⟩)) (wanted_of (j := 19) rfl (need 19 (by kernel_rfl) (by kernel_rfl))) ?_ (hKx _ w1 rfl hG (Below.refl _ _))
                    simp [execOp, go_sem, e0]
                  case o21 =>
                    intro a w1 Kx hG need old hsz fresh hKx
                    have e0 : a.tmps[35]?.getD undef = .pointer (some ⟨wr.heap.size, 1, none⟩) := by rw [← Array.getD_eq_getD_getElem?]; exact (need 20 (by kernel_rfl) (by kernel_rfl))
                    have k0 := (HK.out w1 hG).2.1
                    refine op_value (v := .int .i64 n) (wanted_of (j := 19) rfl (need 19 (by kernel_rfl) (by kernel_rfl))) ?_ (hKx _ w1 rfl hG (Below.refl _ _))
                    simp [execOp, go_sem, e0, k0]
                  case o22 =>
                    intro a w1 Kx hG need old hsz fresh hKx
                    have e0 : a.tmps[36]?.getD undef = .int .i64 n := by rw [← Array.getD_eq_getD_getElem?]; exact (need 21 (by kernel_rfl) (by kernel_rfl))
                    refine op_value (v := .bool false) (wanted_of (j := 19) rfl (need 19 (by kernel_rfl) (by kernel_rfl))) ?_ (hKx _ w1 rfl hG (Below.refl _ _))
                    simp [execOp, go_sem, e0]; omega
                  case o23 =>
                    intro a w1 Kx hG need old hsz fresh hKx
                    have e0 : a.tmps[34]?.getD undef = .bool false := by rw [← Array.getD_eq_getD_getElem?]; exact (need 19 (by kernel_rfl) (by kernel_rfl))
                    have e1 : a.tmps[37]?.getD undef = .bool false := by rw [← Array.getD_eq_getD_getElem?]; exact (need 22 (by kernel_rfl) (by kernel_rfl))
                    refine op_value (v := .bool false) (wanted_none rfl) ?_ (hKx _ w1 rfl hG (Below.refl _ _))
                    simp [execOp, go_sem, asBool, e0, e1]
                  case o24 =>
                    intro a w1 Kx hG need old hsz fresh hKx
                    have e0 : a.tmps[38]?.getD undef = .bool false := by rw [← Array.getD_eq_getD_getElem?]; exact (need 23 (by kernel_rfl) (by kernel_rfl))
                    refine op_value (v := .bool false) (wanted_none rfl) ?_ (hKx _ w1 rfl hG (Below.refl _ _))
                    simp [execOp, go_sem, e0]
                  case o25 =>
                    intro a w1 Kx hG need old hsz fresh hKx
                    have e0 : a.tmps[4]?.getD undef = .pointer (some ⟨wr.heap.size, 0, none⟩) := by rw [← Array.getD_eq_getD_getElem?]; exact old 4 (by kernel_rfl)
                    refine op_value (v := .pointer (some ⟨wr.heap.size, 1, none⟩)) (wanted_of (j := 24) rfl (need 24 (by kernel_rfl) (by kernel_rfl))) ?_ (hKx _ w1 rfl hG (Below.refl _ _))
                    simp [execOp, go_sem, e0]
                  case o26 =>
                    intro a w1 Kx hG need old hsz fresh hKx
                    have e0 : a.tmps[40]?.getD undef = .pointer (some ⟨wr.heap.size, 1, none⟩) := by rw [← Array.getD_eq_getD_getElem?]; exact (need 25 (by kernel_rfl) (by kernel_rfl))
                    have k0 := (HK.out w1 hG).2.1
                    refine op_value (v := .int .i64 n) (wanted_of (j := 24) rfl (need 24 (by kernel_rfl) (by kernel_rfl))) ?_ (hKx _ w1 rfl hG (Below.refl _ _))
                    simp [execOp, go_sem, e0, k0]
                  case o27 =>
                    intro a w1 Kx hG need old hsz fresh hKx
                    have e0 : a.tmps[41]?.getD undef = .int .i64 n := by rw [← Array.getD_eq_getD_getElem?]; exact (need 26 (by kernel_rfl) (by kernel_rfl))
                    refine op_value (v := .bool false) (wanted_of (j := 24) rfl (need 24 (by kernel_rfl) (by kernel_rfl))) ?_ (hKx _ w1 rfl hG (Below.refl _ _))
                    simp [execOp, go_sem, e0]; omega
                  case o28 =>
                    intro a w1 Kx hG need old hsz fresh hKx
                    have e0 : a.tmps[39]?.getD undef = .bool false := by rw [← Array.getD_eq_getD_getElem?]; exact (need 24 (by kernel_rfl) (by kernel_rfl))
                    have e1 : a.tmps[42]?.getD undef = .bool false := by rw [← Array.getD_eq_getD_getElem?]; exact (need 27 (by kernel_rfl) (by kernel_rfl))
                    refine op_value (v := .bool false) (wanted_none rfl) ?_ (hKx _ w1 rfl hG (Below.refl _ _))
                    simp [execOp, go_sem, asBool, e0, e1]
                case hend =>
                  intro a w6 hG hde hsz hφ hold
                  obtain rfl := act_puts [(15, .pointer (some ⟨wr.heap.size, 0, none⟩)), (16, .string s), (17, .bool true), (18, .bool false), (19, .bool false), (20, .int .i64 (jx : Nat)), (21, .bool true), (22, .bool true), (23, .pointer (some ⟨wr.heap.size, 0, none⟩)), (24, .string s), (25, .slice (some ⟨B, o, none⟩) l.length c), (26, .int .i64 (jx : Nat)), (27, .int .i64 (k : Nat)), (28, .pointer (some ⟨B, o + k * 2, none⟩)), (29, .pointer (some ⟨B, o + k * 2, none⟩)), (30, .string z), (31, .bool false), (32, .bool false), (33, .bool false), (34, .bool false), (35, .pointer (some ⟨wr.heap.size, 1, none⟩)), (36, .int .i64 n), (37, .bool false), (38, .bool false), (39, .bool false), (40, .pointer (some ⟨wr.heap.size, 1, none⟩)), (41, .int .i64 n), (42, .bool false), (43, .bool false)] [15, 16, 17, 18, 19, 20, 21, 22, 23, 24, 25, 26, 27, 28, 29, 30, 31, 32, 33, 34, 35, 36, 37, 38, 39, 40, 41, 42, 43] rfl (by kernel_rfl) (by kernel_rfl) hde hsz (List.forall_mem_cons.2 ⟨(show a.tmps.getD 15 undef = .pointer (some ⟨wr.heap.size, 0, none⟩) from (hφ 0 (by kernel_rfl))), (List.forall_mem_cons.2 ⟨(show a.tmps.getD 16 undef = .string s from (hφ 1 (by kernel_rfl))), (List.forall_mem_cons.2 ⟨(show a.tmps.getD 17 undef = .bool true from (hφ 2 (by kernel_rfl))), (List.forall_mem_cons.2 ⟨(show a.tmps.getD 18 undef = .bool false from (hφ 3 (by kernel_rfl))), (List.forall_mem_cons.2 ⟨(show a.tmps.getD 19 undef = .bool false from (hφ 4 (by kernel_rfl))), (List.forall_mem_cons.2 ⟨(show a.tmps.getD 20 undef = .int .i64 (jx : Nat) from (hφ 5 (by kernel_rfl))), (List.forall_mem_cons.2 ⟨(show a.tmps.getD 21 undef = .bool true from (hφ 6 (by kernel_rfl))), (List.forall_mem_cons.2 ⟨(show a.tmps.getD 22 undef = .bool true from (hφ 7 (by kernel_rfl))), (List.forall_mem_cons.2 ⟨(show a.tmps.getD 23 undef = .pointer (some ⟨wr.heap.size, 0, none⟩) from (hφ 8 (by kernel_rfl))), (List.forall_mem_cons.2 ⟨(show a.tmps.getD 24 undef = .string s from (hφ 9 (by kernel_rfl))), (List.forall_mem_cons.2 ⟨(show a.tmps.getD 25 undef = .slice (some ⟨B, o, none⟩) l.length c from (hφ 10 (by kernel_rfl))), (List.forall_mem_cons.2 ⟨(show a.tmps.getD 26 undef = .int .i64 (jx : Nat) from (hφ 11 (by kernel_rfl))), (List.forall_mem_cons.2 ⟨(show a.tmps.getD 27 undef = .int .i64 (k : Nat) from (hφ 12 (by kernel_rfl))), (List.forall_mem_cons.2 ⟨(show a.tmps.getD 28 undef = .pointer (some ⟨B, o + k * 2, none⟩) from (hφ 13 (by kernel_rfl))), (List.forall_mem_cons.2 ⟨(show a.tmps.getD 29 undef = .pointer (some ⟨B, o + k * 2, none⟩) from (hφ 14 (by kernel_rfl))), (List.forall_mem_cons.2 ⟨(show a.tmps.getD 30 undef = .string z from (hφ 15 (by kernel_rfl))), (List.forall_mem_cons.2 ⟨(show a.tmps.getD 31 undef = .bool false from (hφ 16 (by kernel_rfl))), (List.forall_mem_cons.2 ⟨(show a.tmps.getD 32 undef = .bool false from (hφ 17 (by kernel_rfl))), (List.forall_mem_cons.2 ⟨(show a.tmps.getD 33 undef = .bool false from (hφ 18 (by kernel_rfl))), (List.forall_mem_cons.2 ⟨(show a.tmps.getD 34 undef = .bool false from (hφ 19 (by kernel_rfl))), (List.forall_mem_cons.2 ⟨(show a.tmps.getD 35 undef = .pointer (some ⟨wr.heap.size, 1, none⟩) from (hφ 20 (by kernel_rfl))), (List.forall_mem_cons.2 ⟨(show a.tmps.getD 36 undef = .int .i64 n from (hφ 21 (by kernel_rfl))), (List.forall_mem_cons.2 ⟨(show a.tmps.getD 37 undef = .bool false from (hφ 22 (by kernel_rfl))), (List.forall_mem_cons.2 ⟨(show a.tmps.getD 38 undef = .bool false from (hφ 23 (by kernel_rfl))), (List.forall_mem_cons.2 ⟨(show a.tmps.getD 39 undef = .bool false from (hφ 24 (by kernel_rfl))), (List.forall_mem_cons.2 ⟨(show a.tmps.getD 40 undef = .pointer (some ⟨wr.heap.size, 1, none⟩) from (hφ 25 (by kernel_rfl))), (List.forall_mem_cons.2 ⟨(show a.tmps.getD 41 undef = .int .i64 n from (hφ 26 (by kernel_rfl))), (List.forall_mem_cons.2 ⟨(show a.tmps.getD 42 undef = .bool false from (hφ 27 (by kernel_rfl))), (List.forall_mem_cons.2 ⟨(show a.tmps.getD 43 undef = .bool false from (hφ 28 (by kernel_rfl))), (fun _ h => absurd h (by simp))⟩)⟩)⟩)⟩)⟩)⟩)⟩)⟩)⟩)⟩)⟩)⟩)⟩)⟩)⟩)⟩)⟩)⟩)⟩)⟩)⟩)⟩)⟩)⟩)⟩)⟩)⟩)⟩)⟩) hold
                  clear hφ hold hsz hde
                  simp only [putAll]
                  go_frame
                  have HB2 := Lib.hid (HBW.out.trans (hG.mono HBW.out.size))
                  have hjp := Lib.hid hj0
                  clear hG hj0 hn1 hn2 hwk
                  go_wp2_with fail
                  go_roundw
                  case rel =>
                    refine ⟨jx + 1, by omega, by go_num, Lib.hid ⟨fun i hi h => ?_, fun i hi h => ?_⟩, HB2.out⟩
                    · by_cases e : i = jx
                      · subst e; exact hm2.out
                      · exact HI.out.1 i hi (by omega)
                    · by_cases e : i + 1 = jx
                      · have e2 : k = i := by have := hkk.out; omega
                        subst e2
                        have hkj : l[k + 1].1 = s := by
                          have := hq2.out
                          simp only [← e] at this
                          rw [this]
                        rw [hkj]; exact ht2.out
                      · exact HI.out.2 i hi (by omega)
                  case measure => simp [RowKit.intOf]; omega
    · have d2 : decide ((jx : Int) < (l.length : Int)) = false := decide_eq_false (by omega)
      have hT : R = true := by rw [← hR.out]; exact mayEs_all h10 (fun i hi => HI.out.1 i hi (by omega)) (fun i hi => HI.out.2 i hi (by omega))
      subst hT
      go_wp2_with fail
      go_ret
      exact ⟨rfl, HB.out⟩
end Go.Proofs.YtfboilbmehcgoaaDoor
