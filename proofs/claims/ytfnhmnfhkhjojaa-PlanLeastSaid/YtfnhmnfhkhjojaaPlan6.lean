/- PlanLeast: the law's walk (its drawn region written by plan6.py). -/
import Derived.Test.YtfnhmnfhkhjojaaPlan5
namespace Go.Proofs.Ytfnhmnfhkhjojaa
open Go.RowKit

theorem frozen10 {w : World} {p : Nat} {cs : Array Value} {t : TypeId} (h : w.heap[p]? = some (.cells cs t (0, 0))) (j : Nat) : w.frozen? ⟨p, j, none⟩ = false := by
  simp [World.frozen?, h]
/-- With how many blocks it fits. -/
theorem fits_iff {P S D U bad : Int} (h3 : MayP 3 P S D U) (hb : 0 ≤ bad) (k : Nat) (hk : 3 ≤ k) (hk2 : k ≤ 64) : FitsP (k : Int) P S D U bad ↔ 0 < (k : Int) - bad - S - 1 ∧ D + 8 ≤ ((k : Int) - bad - S - 1) * P := by
  have hM : MayP (k : Int) P S D U := ⟨⟨by omega, by omega⟩, h3.2⟩
  have hS := h3.2.2.1
  constructor
  · intro h
    have := fits_room h
    exact ⟨this.1, this.2.2⟩
  · rintro ⟨h0, h1⟩
    refine ⟨hM, ⟨hb, by omega⟩, ?_⟩
    rw [needP_yes hM, show roomP (k : Int) P S D U bad = if 0 < (k : Int) - bad - S - 1 then ((k : Int) - bad - S - 1) * P else 0 from if_pos ⟨hM, hb, by omega⟩, if_pos h0]
    exact h1
theorem fits_next {P S D U bad : Int} (h3 : MayP 3 P S D U) (hb : 0 ≤ bad) (k : Nat) (hk : 3 ≤ k) (hk2 : k + 1 ≤ 64) (h : FitsP (k : Int) P S D U bad) : FitsP ((k + 1 : Nat) : Int) P S D U bad := by
  rw [fits_iff h3 hb (k + 1) (by omega) hk2]
  have h1 := (fits_iff h3 hb k hk (by omega)).1 h
  have hP := h3.2.1
  refine ⟨by omega, ?_⟩
  have e : (((k + 1 : Nat) : Int) - bad - S - 1) * P = ((k : Int) - bad - S - 1) * P + P := by
    rw [show ((k + 1 : Nat) : Int) - bad - S - 1 = ((k : Int) - bad - S - 1) + 1 by omega, Int.add_mul, Int.one_mul]
  omega
/-- The first with which it fits has less than a block's pages to spare. -/
theorem fits_first {P S D U bad : Int} (h3 : MayP 3 P S D U) (hb : 0 ≤ bad) (k : Nat) (hk : 4 ≤ k) (hk2 : k ≤ 64) (h : FitsP (k : Int) P S D U bad) (h0 : ¬ FitsP ((k - 1 : Nat) : Int) P S D U bad) : roomP (k : Int) P S D U bad - (D + 8) < P := by
  obtain ⟨hx, hr, hd⟩ := fits_room h
  rw [fits_iff h3 hb (k - 1) (by omega) (by omega)] at h0
  have e : (((k - 1 : Nat) : Int) - bad - S - 1) * P = ((k : Int) - bad - S - 1) * P - P := by
    rw [show ((k - 1 : Nat) : Int) - bad - S - 1 = ((k : Int) - bad - S - 1) - 1 by omega, Int.sub_mul, Int.one_mul]
  have hD := h3.2.2.2.1
  by_cases h1 : 0 < ((k - 1 : Nat) : Int) - bad - S - 1
  · have : ¬ D + 8 ≤ (((k - 1 : Nat) : Int) - bad - S - 1) * P := fun h2 => h0 ⟨h1, h2⟩
    omega
  · have e1 : ((k : Int) - bad - S - 1) = 1 := by omega
    rw [e1, Int.one_mul] at hr
    omega
/-- What stands ahead of a round: how far it is, whether the last one fitted, the first that did. -/
structure LeastAt (P S D U bad : Int) (k : Nat) (was : Bool) (f : Nat) : Prop where
  lo : 3 ≤ k
  hi : k ≤ 65
  ws : was = decide (3 < k ∧ FitsP ((k - 1 : Nat) : Int) P S D U bad)
  first : (f = 0 ∧ was = false) ∨ (was = true ∧ 3 ≤ f ∧ f < k ∧ FitsP (f : Int) P S D U bad ∧ (f = 3 ∨ ¬ FitsP ((f - 1 : Nat) : Int) P S D U bad))
theorem LeastAt.start {P S D U bad : Int} : LeastAt P S D U bad 3 false 0 := ⟨by decide, by decide, by simp, .inl ⟨rfl, rfl⟩⟩
theorem LeastAt.no {P S D U bad : Int} {k f : Nat} {was : Bool} (h3 : MayP 3 P S D U) (hb : 0 ≤ bad) (h : LeastAt P S D U bad k was f) (hk : k ≤ 64) (hw : was = true) : FitsP (k : Int) P S D U bad := by
  have h1 := h.ws
  rw [hw] at h1
  have h2 := of_decide_eq_true h1.symm
  have := fits_next h3 hb (k - 1) (by omega) (by omega) h2.2
  rwa [show k - 1 + 1 = k by omega] at this
theorem LeastAt.step {P S D U bad : Int} {k f : Nat} {was : Bool} (h : LeastAt P S D U bad k was f) (hk : k ≤ 64) (h1 : was = true → FitsP (k : Int) P S D U bad) :
    LeastAt P S D U bad (k + 1) (decide (FitsP (k : Int) P S D U bad)) (if was = false ∧ FitsP (k : Int) P S D U bad then k else f) := by
  have hlo := h.lo
  refine ⟨by omega, by omega, ?_, ?_⟩
  · rw [show k + 1 - 1 = k by omega]
    exact decide_eq_decide.2 ⟨fun h => ⟨by omega, h⟩, fun h => h.2⟩
  · rcases h.first with ⟨h4, h5⟩ | ⟨h4, h5, h6, h7, h8⟩
    · by_cases hf : FitsP (k : Int) P S D U bad
      · rw [if_pos ⟨h5, hf⟩]
        refine .inr ⟨decide_eq_true hf, h.lo, by omega, hf, ?_⟩
        by_cases hk3 : k = 3
        · exact .inl hk3
        · have h9 := h.ws
          rw [h5] at h9
          exact .inr fun h10 => of_decide_eq_false h9.symm ⟨by omega, h10⟩
      · rw [if_neg fun h => hf h.2]
        exact .inl ⟨h4, decide_eq_false hf⟩
    · rw [if_neg fun h => by rw [h4] at h; cases h.1]
      exact .inr ⟨decide_eq_true (h1 h4), h5, by omega, h7, h8⟩
set_option maxRecDepth 100000 in
set_option maxHeartbeats 4000000 in
theorem least_any (B P S D U bad : Int) (w : World) (hbd : (Lit.int .i64 bad).wf = true) :
    Calls Try.prog 6 #[.agg #[.int .i64 B, .int .i64 P, .int .i64 S, .int .i64 D, .int .i64 U], .int .i64 bad] w (Holds w) := by
  have HB0 := Lib.hid ((Below.refl w.heap.size w).alloc (Nat.le_refl _) (.cells #[.int .i64 3, .int .i64 P, .int .i64 S, .int .i64 D, .int .i64 U] 23))
  have BX0 := Lib.hid (heap_alloc_new w (.cells #[.int .i64 3, .int .i64 P, .int .i64 S, .int .i64 D, .int .i64 U] 23))
  have HBD := Lib.hid hbd
  clear hbd
  by_cases hM : MayP 3 P S D U ∧ 0 ≤ bad ∧ bad ≤ 10
  · have HM := Lib.hid hM.1
    have hb1 := hM.2.1
    have hb2 := hM.2.2
    have hP := hM.1.2.1
    have hS := hM.1.2.2.1
    have hD := hM.1.2.2.2.1
    clear hM
    go_enter Try.func6, Try.ntmps6
    go_wp2_with (go_at_call 9; refine (mayr_any _ _ _ _ _ _).mono ?_; rintro e w1 ⟨rfl, hb⟩; rw [decide_eq_true HM.out]; have BX := Lib.hid ((hb.block w.heap.size (by simp)).trans BX0.out); have HB := Lib.hid (HB0.out.trans (hb.mono (by simp))); clear hb)
    go_loopw [5, 6, 7] (fun v5 v6 v7 wr => ∃ (k f : Nat) (was : Bool) (x : Int), v7 = .int .i64 k ∧ v6 = .int .i64 f ∧ v5 = .bool was ∧ LeastAt P S D U bad k was f ∧ wr.heap[w.heap.size]? = some (.cells #[.int .i64 x, .int .i64 P, .int .i64 S, .int .i64 D, .int .i64 U] 23 (0, 0)) ∧ Below w.heap.size w wr) (fun _ _ v7 _ => 65 - (intOf v7).toNat)
    case atStart => exact ⟨3, 0, false, 3, rfl, rfl, rfl, .start, BX.out, HB.out⟩
    case round =>
      obtain ⟨k, f, was, x, rfl, rfl, rfl, hl, hbx, hbw⟩ := hrel
      have HL := Lib.hid hl
      have HBX := Lib.hid hbx
      have HBW := Lib.hid hbw
      have hk3 := hl.lo
      have hk65 := hl.hi
      obtain ⟨k0, k1, k2, k3, k4⟩ := cells5 hbx
      have f0 := frozen10 hbx 0
      clear hbx hbw BX HB
      by_cases hk : k ≤ 64
      · have HS := Lib.hid (heap_setCell_same wr w.heap.size 0 _ _ (.int .i64 (k : Int)) HBX.out)
        have HWS := Lib.hid (HBW.out.setCell (p := ⟨w.heap.size, 0, none⟩) (Nat.le_refl _) (.int .i64 (k : Int)))
        have HN := Lib.hid (hl.no HM.out hb1 hk)
        have HSt := Lib.hid (hl.step hk (hl.no HM.out hb1 hk))
        clear hl
        by_cases hF : FitsP (k : Int) P S D U bad
        · have HF := Lib.hid hF
          clear hF
          cases was with
          | false =>
            go_wp2_with (go_at_call 14; refine (fitsp_any _ _ _ _ _ _ _ HBD.out).mono ?_; rintro e w2 ⟨rfl, hb⟩; rw [decide_eq_true HF.out]; have HX := Lib.hid ((hb.block w.heap.size (lt_size HS.out)).trans HS.out); have HY := Lib.hid (HWS.out.trans (hb.mono HWS.out.size)); clear hb)
            go_roundw
            case rel =>
              have := HSt.out
              rw [decide_eq_true HF.out, if_pos ⟨trivial, HF.out⟩] at this
              exact ⟨k + 1, k, true, k, by go_num, rfl, rfl, this, HX.out, HY.out⟩
            case measure => simp [intOf]; omega
          | true =>
            go_wp2_with (go_at_call 14; refine (fitsp_any _ _ _ _ _ _ _ HBD.out).mono ?_; rintro e w2 ⟨rfl, hb⟩; rw [decide_eq_true HF.out]; have HX := Lib.hid ((hb.block w.heap.size (lt_size HS.out)).trans HS.out); have HY := Lib.hid (HWS.out.trans (hb.mono HWS.out.size)); clear hb)
            go_roundw
            case rel =>
              have := HSt.out
              rw [decide_eq_true HF.out, if_neg (fun h => by cases h.1)] at this
              exact ⟨k + 1, f, true, k, by go_num, rfl, rfl, this, HX.out, HY.out⟩
            case measure => simp [intOf]; omega
        · have HF := Lib.hid hF
          obtain rfl : was = false := by
            cases was with
            | false => rfl
            | true => exact absurd (HN.out rfl) hF
          clear hF
          go_wp2_with (go_at_call 14; refine (fitsp_any _ _ _ _ _ _ _ HBD.out).mono ?_; rintro e w2 ⟨rfl, hb⟩; rw [decide_eq_false HF.out]; have HX := Lib.hid ((hb.block w.heap.size (lt_size HS.out)).trans HS.out); have HY := Lib.hid (HWS.out.trans (hb.mono HWS.out.size)); clear hb)
          go_roundw
          case rel =>
            have := HSt.out
            rw [decide_eq_false HF.out, if_neg (fun h => HF.out h.2)] at this
            exact ⟨k + 1, f, false, k, by go_num, rfl, rfl, this, HX.out, HY.out⟩
          case measure => simp [intOf]; omega
      · by_cases hf : f = 0
        · subst hf
          go_wp2_with (go_at_call 18; refine (awake_any _).mono ?_; rintro e w3 ⟨rfl, hb3⟩)
          go_ret
          exact ⟨rfl, HBW.out.trans (hb3.mono HBW.out.size)⟩
        · have hfi : ¬ ((f : Int) = 0) := by omega
          obtain ⟨_, hf3, hfk, hff, hor⟩ := hl.first.resolve_left (fun h => hf h.1)
          have EN := Lib.hid (needP_yes hff.1)
          obtain ⟨hx, hro, hne⟩ := fits_room hff
          have HS := Lib.hid (heap_setCell_same wr w.heap.size 0 _ _ (.int .i64 (f : Int)) HBX.out)
          have HWS := Lib.hid (HBW.out.setCell (p := ⟨w.heap.size, 0, none⟩) (Nat.le_refl _) (.int .i64 (f : Int)))
          have hro2 : roomP (f : Int) P S D U bad ≤ 64 * 32 := by rw [hro]; exact Int.mul_le_mul (by omega) (by omega) (by omega) (by omega)
          rw [← hro] at hne
          have hlt : f = 3 ∨ roomP (f : Int) P S D U bad - (D + 8) < P := by
            rcases hor with h | h
            · exact .inl h
            · by_cases h3 : f = 3
              · exact .inl h3
              · exact .inr (fits_first HM.out hb1 f (by omega) (by omega) hff h)
          clear hl hor hff hro hx
          by_cases h3 : f = 3
          · have H3 := Lib.hid h3
            clear hlt h3
            go_upto_region 19 with fail
            generalize wr.setCell ⟨w.heap.size, 0, none⟩ (.int .i64 (f : Int)) = W at HS HWS ⊢
            have BX := HS
            have HW := HWS
            have h3 := H3.out
            refine region_inv (fun j v _ => v = (match j with | 0 => .agg #[.int .i64 f, .int .i64 P, .int .i64 S, .int .i64 D, .int .i64 U] | 1 => .int .i64 bad | 2 => .int .i64 (roomP f P S D U bad) | 3 => .agg #[.int .i64 f, .int .i64 P, .int .i64 S, .int .i64 D, .int .i64 U] | 4 => .int .i64 (D + 8) | 5 => .int .i64 (roomP f P S D U bad - (D + 8)) | 6 => .bool true | 7 => .bool true | 8 => .int .i64 f | 9 => .bool true | 10 => .bool true | 11 => undef | 12 => undef | 13 => undef | 14 => undef | 15 => undef | 16 => undef | 17 => undef | 18 => undef | 19 => undef | 20 => .bool true | 21 => .bool true | 22 => .bool true | 23 => .bool true | 24 => .bool true | 25 => .bool true | _ => undef)) (fun w' => Below W.heap.size W w') (fun _ _ => True) (by kernel_rfl) (by kernel_rfl) (by kernel_rfl) (fun _ _ _ _ h _ => h) (Below.refl _ _).drew ?_ ?_
            · refine OpsOk.cons ?o0 (OpsOk.cons ?o1 (OpsOk.cons ?o2 (OpsOk.cons ?o3 (OpsOk.cons ?o4 (OpsOk.cons ?o5 (OpsOk.cons ?o6 (OpsOk.cons ?o7 (OpsOk.cons ?o8 (OpsOk.cons ?o9 (OpsOk.cons ?o10 (OpsOk.cons ?o11 (OpsOk.cons ?o12 (OpsOk.cons ?o13 (OpsOk.cons ?o14 (OpsOk.cons ?o15 (OpsOk.cons ?o16 (OpsOk.cons ?o17 (OpsOk.cons ?o18 (OpsOk.cons ?o19 (OpsOk.cons ?o20 (OpsOk.cons ?o21 (OpsOk.cons ?o22 (OpsOk.cons ?o23 (OpsOk.cons ?o24 (OpsOk.cons ?o25 OpsOk.nil)))))))))))))))))))))))))
              case o0 =>
                intro a w1 Kx hG need old hsz hK
                have e0 : a.tmps[2]?.getD undef = .pointer (some ⟨w.heap.size, 0, none⟩) := by rw [← Array.getD_eq_getD_getElem?]; exact old 2 (by kernel_rfl)
                obtain ⟨k0, k1, k2, k3, k4⟩ := cells5 ((hG.block w.heap.size (lt_size BX.out)).trans BX.out)
                refine op_value (v := .agg #[.int .i64 f, .int .i64 P, .int .i64 S, .int .i64 D, .int .i64 U]) (wanted_none rfl) ?_ (hK _ w1 rfl hG trivial)
                simp [execOp, go_sem, e0, k0, k1, k2, k3, k4]
              case o1 =>
                intro a w1 Kx hG need old hsz hK
                have e0 : a.tmps[1]?.getD undef = .int .i64 bad := by rw [← Array.getD_eq_getD_getElem?]; exact old 1 (by kernel_rfl)
                refine op_value (v := .int .i64 bad) (wanted_none rfl) ?_ (hK _ w1 rfl hG trivial)
                simp [execOp, go_sem, e0]
              case o2 =>
                intro a w1 Kx hG need old hsz hK
                have e0 : a.tmps[48]?.getD undef = .agg #[.int .i64 f, .int .i64 P, .int .i64 S, .int .i64 D, .int .i64 U] := by rw [← Array.getD_eq_getD_getElem?]; exact need 0 48 (by kernel_rfl) (by kernel_rfl)
                have e1 : a.tmps[49]?.getD undef = .int .i64 bad := by rw [← Array.getD_eq_getD_getElem?]; exact need 1 49 (by kernel_rfl) (by kernel_rfl)
                refine op_call (wanted_none rfl) (f := 12) (args := #[.agg #[.int .i64 f, .int .i64 P, .int .i64 S, .int .i64 D, .int .i64 U], .int .i64 bad]) ?run ((roomp_any f P S D U bad w1 HBD.out).mono ?post)
                case run => simp [go_sem, e0, e1]
                case post =>
                  rintro e w2 ⟨rfl, hb2⟩
                  exact ⟨_, rfl, hK _ w2 rfl (hG.trans (hb2.mono hG.size)) trivial⟩
              case o3 =>
                intro a w1 Kx hG need old hsz hK
                have e0 : a.tmps[2]?.getD undef = .pointer (some ⟨w.heap.size, 0, none⟩) := by rw [← Array.getD_eq_getD_getElem?]; exact old 2 (by kernel_rfl)
                obtain ⟨k0, k1, k2, k3, k4⟩ := cells5 ((hG.block w.heap.size (lt_size BX.out)).trans BX.out)
                refine op_value (v := .agg #[.int .i64 f, .int .i64 P, .int .i64 S, .int .i64 D, .int .i64 U]) (wanted_none rfl) ?_ (hK _ w1 rfl hG trivial)
                simp [execOp, go_sem, e0, k0, k1, k2, k3, k4]
              case o4 =>
                intro a w1 Kx hG need old hsz hK
                have e0 : a.tmps[51]?.getD undef = .agg #[.int .i64 f, .int .i64 P, .int .i64 S, .int .i64 D, .int .i64 U] := by rw [← Array.getD_eq_getD_getElem?]; exact need 3 51 (by kernel_rfl) (by kernel_rfl)
                refine op_call (wanted_none rfl) (f := 10) (args := #[.agg #[.int .i64 f, .int .i64 P, .int .i64 S, .int .i64 D, .int .i64 U]]) ?run ((needp_any f P S D U w1).mono ?post)
                case run => simp [go_sem, e0]
                case post =>
                  rintro e w2 ⟨rfl, hb2⟩
                  rw [EN.out]
                  exact ⟨_, rfl, hK _ w2 rfl (hG.trans (hb2.mono hG.size)) trivial⟩
              case o5 =>
                intro a w1 Kx hG need old hsz hK
                have e0 : a.tmps[50]?.getD undef = .int .i64 (roomP f P S D U bad) := by rw [← Array.getD_eq_getD_getElem?]; exact need 2 50 (by kernel_rfl) (by kernel_rfl)
                have e1 : a.tmps[52]?.getD undef = .int .i64 (D + 8) := by rw [← Array.getD_eq_getD_getElem?]; exact need 4 52 (by kernel_rfl) (by kernel_rfl)
                refine op_value (v := .int .i64 (roomP f P S D U bad - (D + 8))) (wanted_none rfl) ?_ (hK _ w1 rfl hG trivial)
                simp [execOp, go_sem, e0, e1] <;> first | omega | (rw [i64w_id _ (by omega)] <;> omega)
              case o6 =>
                intro a w1 Kx hG need old hsz hK
                have e0 : a.tmps[53]?.getD undef = .int .i64 (roomP f P S D U bad - (D + 8)) := by rw [← Array.getD_eq_getD_getElem?]; exact need 5 53 (by kernel_rfl) (by kernel_rfl)
                refine op_value (v := .bool true) (wanted_none rfl) ?_ (hK _ w1 rfl hG trivial)
                simp [execOp, go_sem, e0] <;> first | omega | (rw [i64w_id _ (by omega)] <;> omega)
              case o7 =>
                intro a w1 Kx hG need old hsz hK
                have e0 : a.tmps[54]?.getD undef = .bool true := by rw [← Array.getD_eq_getD_getElem?]; exact need 6 54 (by kernel_rfl) (by kernel_rfl)
                refine op_value (v := .bool true) (wanted_none rfl) ?_ (hK _ w1 rfl hG trivial)
                simp [execOp, go_sem, e0]
              case o8 =>
                intro a w1 Kx hG need old hsz hK
                have e0 : a.tmps[6]?.getD undef = .int .i64 f := by rw [← Array.getD_eq_getD_getElem?]; exact old 6 (by kernel_rfl)
                refine op_value (v := .int .i64 f) (wanted_of (j := 7) rfl (need 7 55 (by kernel_rfl) (by kernel_rfl))) ?_ (hK _ w1 rfl hG trivial)
                simp [execOp, go_sem, e0]
              case o9 =>
                intro a w1 Kx hG need old hsz hK
                have e0 : a.tmps[56]?.getD undef = .int .i64 f := by rw [← Array.getD_eq_getD_getElem?]; exact need 8 56 (by kernel_rfl) (by kernel_rfl)
                refine op_value (v := .bool true) (wanted_of (j := 7) rfl (need 7 55 (by kernel_rfl) (by kernel_rfl))) ?_ (hK _ w1 rfl hG trivial)
                simp [execOp, go_sem, e0] <;> first | omega | (rw [i64w_id _ (by omega)] <;> omega)
              case o10 =>
                intro a w1 Kx hG need old hsz hK
                have e0 : a.tmps[57]?.getD undef = .bool true := by rw [← Array.getD_eq_getD_getElem?]; exact need 9 57 (by kernel_rfl) (by kernel_rfl)
                refine op_value (v := .bool true) (wanted_of (j := 7) rfl (need 7 55 (by kernel_rfl) (by kernel_rfl))) ?_ (hK _ w1 rfl hG trivial)
                simp [execOp, go_sem, e0]
              case o11 =>
                intro a w1 Kx hG need old hsz hK
                exact skip_op (j := 10) rfl (need 10 58 (by kernel_rfl) (by kernel_rfl)) (by decide) (hK _ w1 rfl hG trivial)
              case o12 =>
                intro a w1 Kx hG need old hsz hK
                exact skip_op (j := 10) rfl (need 10 58 (by kernel_rfl) (by kernel_rfl)) (by decide) (hK _ w1 rfl hG trivial)
              case o13 =>
                intro a w1 Kx hG need old hsz hK
                exact skip_op (j := 10) rfl (need 10 58 (by kernel_rfl) (by kernel_rfl)) (by decide) (hK _ w1 rfl hG trivial)
              case o14 =>
                intro a w1 Kx hG need old hsz hK
                exact skip_op (j := 10) rfl (need 10 58 (by kernel_rfl) (by kernel_rfl)) (by decide) (hK _ w1 rfl hG trivial)
              case o15 =>
                intro a w1 Kx hG need old hsz hK
                exact skip_op (j := 10) rfl (need 10 58 (by kernel_rfl) (by kernel_rfl)) (by decide) (hK _ w1 rfl hG trivial)
              case o16 =>
                intro a w1 Kx hG need old hsz hK
                exact skip_op (j := 10) rfl (need 10 58 (by kernel_rfl) (by kernel_rfl)) (by decide) (hK _ w1 rfl hG trivial)
              case o17 =>
                intro a w1 Kx hG need old hsz hK
                exact skip_op (j := 10) rfl (need 10 58 (by kernel_rfl) (by kernel_rfl)) (by decide) (hK _ w1 rfl hG trivial)
              case o18 =>
                intro a w1 Kx hG need old hsz hK
                exact skip_op (j := 10) rfl (need 10 58 (by kernel_rfl) (by kernel_rfl)) (by decide) (hK _ w1 rfl hG trivial)
              case o19 =>
                intro a w1 Kx hG need old hsz hK
                exact skip_op (j := 10) rfl (need 10 58 (by kernel_rfl) (by kernel_rfl)) (by decide) (hK _ w1 rfl hG trivial)
              case o20 =>
                intro a w1 Kx hG need old hsz hK
                have e0 : a.tmps[58]?.getD undef = .bool true := by rw [← Array.getD_eq_getD_getElem?]; exact need 10 58 (by kernel_rfl) (by kernel_rfl)
                refine op_value (v := .bool true) (wanted_of (j := 7) rfl (need 7 55 (by kernel_rfl) (by kernel_rfl))) ?_ (hK _ w1 rfl hG trivial)
                simp [execOp, go_sem, asBool, e0]
              case o21 =>
                intro a w1 Kx hG need old hsz hK
                have e0 : a.tmps[55]?.getD undef = .bool true := by rw [← Array.getD_eq_getD_getElem?]; exact need 7 55 (by kernel_rfl) (by kernel_rfl)
                have e1 : a.tmps[68]?.getD undef = .bool true := by rw [← Array.getD_eq_getD_getElem?]; exact need 20 68 (by kernel_rfl) (by kernel_rfl)
                refine op_value (v := .bool true) (wanted_none rfl) ?_ (hK _ w1 rfl hG trivial)
                simp [execOp, go_sem, asBool, e0, e1]
              case o22 =>
                intro a w1 Kx hG need old hsz hK
                have e0 : a.tmps[69]?.getD undef = .bool true := by rw [← Array.getD_eq_getD_getElem?]; exact need 21 69 (by kernel_rfl) (by kernel_rfl)
                refine op_value (v := .bool true) (wanted_none rfl) ?_ (hK _ w1 rfl hG trivial)
                simp [execOp, go_sem, e0]
              case o23 =>
                intro a w1 Kx hG need old hsz hK
                refine op_call (wanted_of (j := 22) rfl (need 22 70 (by kernel_rfl) (by kernel_rfl))) (f := 18) (args := #[]) ?run ((awake_any w1).mono ?post)
                case run => simp [go_sem]
                case post =>
                  rintro e w2 ⟨rfl, hb2⟩
                  exact ⟨_, rfl, hK _ w2 rfl (hG.trans (hb2.mono hG.size)) trivial⟩
              case o24 =>
                intro a w1 Kx hG need old hsz hK
                have e0 : a.tmps[70]?.getD undef = .bool true := by rw [← Array.getD_eq_getD_getElem?]; exact need 22 70 (by kernel_rfl) (by kernel_rfl)
                have e1 : a.tmps[71]?.getD undef = .bool true := by rw [← Array.getD_eq_getD_getElem?]; exact need 23 71 (by kernel_rfl) (by kernel_rfl)
                refine op_value (v := .bool true) (wanted_none rfl) ?_ (hK _ w1 rfl hG trivial)
                simp [execOp, go_sem, asBool, e0, e1]
              case o25 =>
                intro a w1 Kx hG need old hsz hK
                have e0 : a.tmps[72]?.getD undef = .bool true := by rw [← Array.getD_eq_getD_getElem?]; exact need 24 72 (by kernel_rfl) (by kernel_rfl)
                refine op_value (v := .bool true) (wanted_none rfl) ?_ (hK _ w1 rfl hG trivial)
                simp [execOp, go_sem, e0]
            · intro a w' hG hde hsz hφ hold
              have hr : a.tmps.getD 4 undef = .bool true := hφ 25 4 (by kernel_rfl)
              go_wp2
              refine bodyPost_ret (v := .bool true) ?_ hde ⟨rfl, HW.out.trans (hG.mono HW.out.size)⟩
              rw [results_tmp (t := 4) rfl, hr]
          · have hlt' := hlt.resolve_left h3
            have h3i : ¬ ((f : Int) = 3) := by omega
            clear hlt
            go_upto_region 19 with fail
            generalize wr.setCell ⟨w.heap.size, 0, none⟩ (.int .i64 (f : Int)) = W at HS HWS ⊢
            have BX := HS
            have HW := HWS
            refine region_inv (fun j v _ => v = (match j with | 0 => .agg #[.int .i64 f, .int .i64 P, .int .i64 S, .int .i64 D, .int .i64 U] | 1 => .int .i64 bad | 2 => .int .i64 (roomP f P S D U bad) | 3 => .agg #[.int .i64 f, .int .i64 P, .int .i64 S, .int .i64 D, .int .i64 U] | 4 => .int .i64 (D + 8) | 5 => .int .i64 (roomP f P S D U bad - (D + 8)) | 6 => .bool true | 7 => .bool true | 8 => .int .i64 f | 9 => .bool false | 10 => .bool false | 11 => .agg #[.int .i64 f, .int .i64 P, .int .i64 S, .int .i64 D, .int .i64 U] | 12 => .int .i64 bad | 13 => .int .i64 (roomP f P S D U bad) | 14 => .agg #[.int .i64 f, .int .i64 P, .int .i64 S, .int .i64 D, .int .i64 U] | 15 => .int .i64 (D + 8) | 16 => .int .i64 (roomP f P S D U bad - (D + 8)) | 17 => .pointer (some ⟨w.heap.size, 1, none⟩) | 18 => .int .i64 P | 19 => .bool true | 20 => .bool true | 21 => .bool true | 22 => .bool true | 23 => .bool true | 24 => .bool true | 25 => .bool true | _ => undef)) (fun w' => Below W.heap.size W w') (fun _ _ => True) (by kernel_rfl) (by kernel_rfl) (by kernel_rfl) (fun _ _ _ _ h _ => h) (Below.refl _ _).drew ?_ ?_
            · refine OpsOk.cons ?o0 (OpsOk.cons ?o1 (OpsOk.cons ?o2 (OpsOk.cons ?o3 (OpsOk.cons ?o4 (OpsOk.cons ?o5 (OpsOk.cons ?o6 (OpsOk.cons ?o7 (OpsOk.cons ?o8 (OpsOk.cons ?o9 (OpsOk.cons ?o10 (OpsOk.cons ?o11 (OpsOk.cons ?o12 (OpsOk.cons ?o13 (OpsOk.cons ?o14 (OpsOk.cons ?o15 (OpsOk.cons ?o16 (OpsOk.cons ?o17 (OpsOk.cons ?o18 (OpsOk.cons ?o19 (OpsOk.cons ?o20 (OpsOk.cons ?o21 (OpsOk.cons ?o22 (OpsOk.cons ?o23 (OpsOk.cons ?o24 (OpsOk.cons ?o25 OpsOk.nil)))))))))))))))))))))))))
              case o0 =>
                intro a w1 Kx hG need old hsz hK
                have e0 : a.tmps[2]?.getD undef = .pointer (some ⟨w.heap.size, 0, none⟩) := by rw [← Array.getD_eq_getD_getElem?]; exact old 2 (by kernel_rfl)
                obtain ⟨k0, k1, k2, k3, k4⟩ := cells5 ((hG.block w.heap.size (lt_size BX.out)).trans BX.out)
                refine op_value (v := .agg #[.int .i64 f, .int .i64 P, .int .i64 S, .int .i64 D, .int .i64 U]) (wanted_none rfl) ?_ (hK _ w1 rfl hG trivial)
                simp [execOp, go_sem, e0, k0, k1, k2, k3, k4]
              case o1 =>
                intro a w1 Kx hG need old hsz hK
                have e0 : a.tmps[1]?.getD undef = .int .i64 bad := by rw [← Array.getD_eq_getD_getElem?]; exact old 1 (by kernel_rfl)
                refine op_value (v := .int .i64 bad) (wanted_none rfl) ?_ (hK _ w1 rfl hG trivial)
                simp [execOp, go_sem, e0]
              case o2 =>
                intro a w1 Kx hG need old hsz hK
                have e0 : a.tmps[48]?.getD undef = .agg #[.int .i64 f, .int .i64 P, .int .i64 S, .int .i64 D, .int .i64 U] := by rw [← Array.getD_eq_getD_getElem?]; exact need 0 48 (by kernel_rfl) (by kernel_rfl)
                have e1 : a.tmps[49]?.getD undef = .int .i64 bad := by rw [← Array.getD_eq_getD_getElem?]; exact need 1 49 (by kernel_rfl) (by kernel_rfl)
                refine op_call (wanted_none rfl) (f := 12) (args := #[.agg #[.int .i64 f, .int .i64 P, .int .i64 S, .int .i64 D, .int .i64 U], .int .i64 bad]) ?run ((roomp_any f P S D U bad w1 HBD.out).mono ?post)
                case run => simp [go_sem, e0, e1]
                case post =>
                  rintro e w2 ⟨rfl, hb2⟩
                  exact ⟨_, rfl, hK _ w2 rfl (hG.trans (hb2.mono hG.size)) trivial⟩
              case o3 =>
                intro a w1 Kx hG need old hsz hK
                have e0 : a.tmps[2]?.getD undef = .pointer (some ⟨w.heap.size, 0, none⟩) := by rw [← Array.getD_eq_getD_getElem?]; exact old 2 (by kernel_rfl)
                obtain ⟨k0, k1, k2, k3, k4⟩ := cells5 ((hG.block w.heap.size (lt_size BX.out)).trans BX.out)
                refine op_value (v := .agg #[.int .i64 f, .int .i64 P, .int .i64 S, .int .i64 D, .int .i64 U]) (wanted_none rfl) ?_ (hK _ w1 rfl hG trivial)
                simp [execOp, go_sem, e0, k0, k1, k2, k3, k4]
              case o4 =>
                intro a w1 Kx hG need old hsz hK
                have e0 : a.tmps[51]?.getD undef = .agg #[.int .i64 f, .int .i64 P, .int .i64 S, .int .i64 D, .int .i64 U] := by rw [← Array.getD_eq_getD_getElem?]; exact need 3 51 (by kernel_rfl) (by kernel_rfl)
                refine op_call (wanted_none rfl) (f := 10) (args := #[.agg #[.int .i64 f, .int .i64 P, .int .i64 S, .int .i64 D, .int .i64 U]]) ?run ((needp_any f P S D U w1).mono ?post)
                case run => simp [go_sem, e0]
                case post =>
                  rintro e w2 ⟨rfl, hb2⟩
                  rw [EN.out]
                  exact ⟨_, rfl, hK _ w2 rfl (hG.trans (hb2.mono hG.size)) trivial⟩
              case o5 =>
                intro a w1 Kx hG need old hsz hK
                have e0 : a.tmps[50]?.getD undef = .int .i64 (roomP f P S D U bad) := by rw [← Array.getD_eq_getD_getElem?]; exact need 2 50 (by kernel_rfl) (by kernel_rfl)
                have e1 : a.tmps[52]?.getD undef = .int .i64 (D + 8) := by rw [← Array.getD_eq_getD_getElem?]; exact need 4 52 (by kernel_rfl) (by kernel_rfl)
                refine op_value (v := .int .i64 (roomP f P S D U bad - (D + 8))) (wanted_none rfl) ?_ (hK _ w1 rfl hG trivial)
                simp [execOp, go_sem, e0, e1] <;> first | omega | (rw [i64w_id _ (by omega)] <;> omega)
              case o6 =>
                intro a w1 Kx hG need old hsz hK
                have e0 : a.tmps[53]?.getD undef = .int .i64 (roomP f P S D U bad - (D + 8)) := by rw [← Array.getD_eq_getD_getElem?]; exact need 5 53 (by kernel_rfl) (by kernel_rfl)
                refine op_value (v := .bool true) (wanted_none rfl) ?_ (hK _ w1 rfl hG trivial)
                simp [execOp, go_sem, e0] <;> first | omega | (rw [i64w_id _ (by omega)] <;> omega)
              case o7 =>
                intro a w1 Kx hG need old hsz hK
                have e0 : a.tmps[54]?.getD undef = .bool true := by rw [← Array.getD_eq_getD_getElem?]; exact need 6 54 (by kernel_rfl) (by kernel_rfl)
                refine op_value (v := .bool true) (wanted_none rfl) ?_ (hK _ w1 rfl hG trivial)
                simp [execOp, go_sem, e0]
              case o8 =>
                intro a w1 Kx hG need old hsz hK
                have e0 : a.tmps[6]?.getD undef = .int .i64 f := by rw [← Array.getD_eq_getD_getElem?]; exact old 6 (by kernel_rfl)
                refine op_value (v := .int .i64 f) (wanted_of (j := 7) rfl (need 7 55 (by kernel_rfl) (by kernel_rfl))) ?_ (hK _ w1 rfl hG trivial)
                simp [execOp, go_sem, e0]
              case o9 =>
                intro a w1 Kx hG need old hsz hK
                have e0 : a.tmps[56]?.getD undef = .int .i64 f := by rw [← Array.getD_eq_getD_getElem?]; exact need 8 56 (by kernel_rfl) (by kernel_rfl)
                refine op_value (v := .bool false) (wanted_of (j := 7) rfl (need 7 55 (by kernel_rfl) (by kernel_rfl))) ?_ (hK _ w1 rfl hG trivial)
                simp [execOp, go_sem, e0] <;> first | omega | (rw [i64w_id _ (by omega)] <;> omega)
              case o10 =>
                intro a w1 Kx hG need old hsz hK
                have e0 : a.tmps[57]?.getD undef = .bool false := by rw [← Array.getD_eq_getD_getElem?]; exact need 9 57 (by kernel_rfl) (by kernel_rfl)
                refine op_value (v := .bool false) (wanted_of (j := 7) rfl (need 7 55 (by kernel_rfl) (by kernel_rfl))) ?_ (hK _ w1 rfl hG trivial)
                simp [execOp, go_sem, e0]
              case o11 =>
                intro a w1 Kx hG need old hsz hK
                have e0 : a.tmps[2]?.getD undef = .pointer (some ⟨w.heap.size, 0, none⟩) := by rw [← Array.getD_eq_getD_getElem?]; exact old 2 (by kernel_rfl)
                obtain ⟨k0, k1, k2, k3, k4⟩ := cells5 ((hG.block w.heap.size (lt_size BX.out)).trans BX.out)
                refine op_value (v := .agg #[.int .i64 f, .int .i64 P, .int .i64 S, .int .i64 D, .int .i64 U]) (wanted_of (j := 10) rfl (need 10 58 (by kernel_rfl) (by kernel_rfl))) ?_ (hK _ w1 rfl hG trivial)
                simp [execOp, go_sem, e0, k0, k1, k2, k3, k4]
              case o12 =>
                intro a w1 Kx hG need old hsz hK
                have e0 : a.tmps[1]?.getD undef = .int .i64 bad := by rw [← Array.getD_eq_getD_getElem?]; exact old 1 (by kernel_rfl)
                refine op_value (v := .int .i64 bad) (wanted_of (j := 10) rfl (need 10 58 (by kernel_rfl) (by kernel_rfl))) ?_ (hK _ w1 rfl hG trivial)
                simp [execOp, go_sem, e0]
              case o13 =>
                intro a w1 Kx hG need old hsz hK
                have e0 : a.tmps[59]?.getD undef = .agg #[.int .i64 f, .int .i64 P, .int .i64 S, .int .i64 D, .int .i64 U] := by rw [← Array.getD_eq_getD_getElem?]; exact need 11 59 (by kernel_rfl) (by kernel_rfl)
                have e1 : a.tmps[60]?.getD undef = .int .i64 bad := by rw [← Array.getD_eq_getD_getElem?]; exact need 12 60 (by kernel_rfl) (by kernel_rfl)
                refine op_call (wanted_of (j := 10) rfl (need 10 58 (by kernel_rfl) (by kernel_rfl))) (f := 12) (args := #[.agg #[.int .i64 f, .int .i64 P, .int .i64 S, .int .i64 D, .int .i64 U], .int .i64 bad]) ?run ((roomp_any f P S D U bad w1 HBD.out).mono ?post)
                case run => simp [go_sem, e0, e1]
                case post =>
                  rintro e w2 ⟨rfl, hb2⟩
                  exact ⟨_, rfl, hK _ w2 rfl (hG.trans (hb2.mono hG.size)) trivial⟩
              case o14 =>
                intro a w1 Kx hG need old hsz hK
                have e0 : a.tmps[2]?.getD undef = .pointer (some ⟨w.heap.size, 0, none⟩) := by rw [← Array.getD_eq_getD_getElem?]; exact old 2 (by kernel_rfl)
                obtain ⟨k0, k1, k2, k3, k4⟩ := cells5 ((hG.block w.heap.size (lt_size BX.out)).trans BX.out)
                refine op_value (v := .agg #[.int .i64 f, .int .i64 P, .int .i64 S, .int .i64 D, .int .i64 U]) (wanted_of (j := 10) rfl (need 10 58 (by kernel_rfl) (by kernel_rfl))) ?_ (hK _ w1 rfl hG trivial)
                simp [execOp, go_sem, e0, k0, k1, k2, k3, k4]
              case o15 =>
                intro a w1 Kx hG need old hsz hK
                have e0 : a.tmps[62]?.getD undef = .agg #[.int .i64 f, .int .i64 P, .int .i64 S, .int .i64 D, .int .i64 U] := by rw [← Array.getD_eq_getD_getElem?]; exact need 14 62 (by kernel_rfl) (by kernel_rfl)
                refine op_call (wanted_of (j := 10) rfl (need 10 58 (by kernel_rfl) (by kernel_rfl))) (f := 10) (args := #[.agg #[.int .i64 f, .int .i64 P, .int .i64 S, .int .i64 D, .int .i64 U]]) ?run ((needp_any f P S D U w1).mono ?post)
                case run => simp [go_sem, e0]
                case post =>
                  rintro e w2 ⟨rfl, hb2⟩
                  rw [EN.out]
                  exact ⟨_, rfl, hK _ w2 rfl (hG.trans (hb2.mono hG.size)) trivial⟩
              case o16 =>
                intro a w1 Kx hG need old hsz hK
                have e0 : a.tmps[61]?.getD undef = .int .i64 (roomP f P S D U bad) := by rw [← Array.getD_eq_getD_getElem?]; exact need 13 61 (by kernel_rfl) (by kernel_rfl)
                have e1 : a.tmps[63]?.getD undef = .int .i64 (D + 8) := by rw [← Array.getD_eq_getD_getElem?]; exact need 15 63 (by kernel_rfl) (by kernel_rfl)
                refine op_value (v := .int .i64 (roomP f P S D U bad - (D + 8))) (wanted_of (j := 10) rfl (need 10 58 (by kernel_rfl) (by kernel_rfl))) ?_ (hK _ w1 rfl hG trivial)
                simp [execOp, go_sem, e0, e1] <;> first | omega | (rw [i64w_id _ (by omega)] <;> omega)
              case o17 =>
                intro a w1 Kx hG need old hsz hK
                have e0 : a.tmps[2]?.getD undef = .pointer (some ⟨w.heap.size, 0, none⟩) := by rw [← Array.getD_eq_getD_getElem?]; exact old 2 (by kernel_rfl)
                refine op_value (v := .pointer (some ⟨w.heap.size, 1, none⟩)) (wanted_of (j := 10) rfl (need 10 58 (by kernel_rfl) (by kernel_rfl))) ?_ (hK _ w1 rfl hG trivial)
                simp [execOp, go_sem, e0]
              case o18 =>
                intro a w1 Kx hG need old hsz hK
                have e0 : a.tmps[65]?.getD undef = .pointer (some ⟨w.heap.size, 1, none⟩) := by rw [← Array.getD_eq_getD_getElem?]; exact need 17 65 (by kernel_rfl) (by kernel_rfl)
                have k0 := (cells5 ((hG.block w.heap.size (lt_size BX.out)).trans BX.out)).2.1
                refine op_value (v := .int .i64 P) (wanted_of (j := 10) rfl (need 10 58 (by kernel_rfl) (by kernel_rfl))) ?_ (hK _ w1 rfl hG trivial)
                simp [execOp, go_sem, e0, k0]
              case o19 =>
                intro a w1 Kx hG need old hsz hK
                have e0 : a.tmps[64]?.getD undef = .int .i64 (roomP f P S D U bad - (D + 8)) := by rw [← Array.getD_eq_getD_getElem?]; exact need 16 64 (by kernel_rfl) (by kernel_rfl)
                have e1 : a.tmps[66]?.getD undef = .int .i64 P := by rw [← Array.getD_eq_getD_getElem?]; exact need 18 66 (by kernel_rfl) (by kernel_rfl)
                refine op_value (v := .bool true) (wanted_of (j := 10) rfl (need 10 58 (by kernel_rfl) (by kernel_rfl))) ?_ (hK _ w1 rfl hG trivial)
                simp [execOp, go_sem, e0, e1] <;> first | omega | (rw [i64w_id _ (by omega)] <;> omega)
              case o20 =>
                intro a w1 Kx hG need old hsz hK
                have e0 : a.tmps[58]?.getD undef = .bool false := by rw [← Array.getD_eq_getD_getElem?]; exact need 10 58 (by kernel_rfl) (by kernel_rfl)
                have e1 : a.tmps[67]?.getD undef = .bool true := by rw [← Array.getD_eq_getD_getElem?]; exact need 19 67 (by kernel_rfl) (by kernel_rfl)
                refine op_value (v := .bool true) (wanted_of (j := 7) rfl (need 7 55 (by kernel_rfl) (by kernel_rfl))) ?_ (hK _ w1 rfl hG trivial)
                simp [execOp, go_sem, asBool, e0, e1]
              case o21 =>
                intro a w1 Kx hG need old hsz hK
                have e0 : a.tmps[55]?.getD undef = .bool true := by rw [← Array.getD_eq_getD_getElem?]; exact need 7 55 (by kernel_rfl) (by kernel_rfl)
                have e1 : a.tmps[68]?.getD undef = .bool true := by rw [← Array.getD_eq_getD_getElem?]; exact need 20 68 (by kernel_rfl) (by kernel_rfl)
                refine op_value (v := .bool true) (wanted_none rfl) ?_ (hK _ w1 rfl hG trivial)
                simp [execOp, go_sem, asBool, e0, e1]
              case o22 =>
                intro a w1 Kx hG need old hsz hK
                have e0 : a.tmps[69]?.getD undef = .bool true := by rw [← Array.getD_eq_getD_getElem?]; exact need 21 69 (by kernel_rfl) (by kernel_rfl)
                refine op_value (v := .bool true) (wanted_none rfl) ?_ (hK _ w1 rfl hG trivial)
                simp [execOp, go_sem, e0]
              case o23 =>
                intro a w1 Kx hG need old hsz hK
                refine op_call (wanted_of (j := 22) rfl (need 22 70 (by kernel_rfl) (by kernel_rfl))) (f := 18) (args := #[]) ?run ((awake_any w1).mono ?post)
                case run => simp [go_sem]
                case post =>
                  rintro e w2 ⟨rfl, hb2⟩
                  exact ⟨_, rfl, hK _ w2 rfl (hG.trans (hb2.mono hG.size)) trivial⟩
              case o24 =>
                intro a w1 Kx hG need old hsz hK
                have e0 : a.tmps[70]?.getD undef = .bool true := by rw [← Array.getD_eq_getD_getElem?]; exact need 22 70 (by kernel_rfl) (by kernel_rfl)
                have e1 : a.tmps[71]?.getD undef = .bool true := by rw [← Array.getD_eq_getD_getElem?]; exact need 23 71 (by kernel_rfl) (by kernel_rfl)
                refine op_value (v := .bool true) (wanted_none rfl) ?_ (hK _ w1 rfl hG trivial)
                simp [execOp, go_sem, asBool, e0, e1]
              case o25 =>
                intro a w1 Kx hG need old hsz hK
                have e0 : a.tmps[72]?.getD undef = .bool true := by rw [← Array.getD_eq_getD_getElem?]; exact need 24 72 (by kernel_rfl) (by kernel_rfl)
                refine op_value (v := .bool true) (wanted_none rfl) ?_ (hK _ w1 rfl hG trivial)
                simp [execOp, go_sem, e0]
            · intro a w' hG hde hsz hφ hold
              have hr : a.tmps.getD 4 undef = .bool true := hφ 25 4 (by kernel_rfl)
              go_wp2
              refine bodyPost_ret (v := .bool true) ?_ hde ⟨rfl, HW.out.trans (hG.mono HW.out.size)⟩
              rw [results_tmp (t := 4) rfl, hr]
  · have HM := Lib.hid hM
    have hbr := wf_le HBD.out
    clear hM
    by_cases h0 : MayP 3 P S D U
    · have HM0 := Lib.hid h0
      have hor : bad < 0 ∨ 10 < bad := by
        by_cases h1 : 0 ≤ bad
        · exact .inr (Decidable.byContradiction fun h2 => HM.out ⟨h0, h1, by omega⟩)
        · exact .inl (by omega)
      clear h0
      rcases hor with h1 | h1
      all_goals
        go_enter Try.func6, Try.ntmps6
        go_wp2_with (first
          | (go_at_call 9; refine (mayr_any _ _ _ _ _ _).mono ?_; rintro e w1 ⟨rfl, hb⟩; rw [decide_eq_true HM0.out]; have HB := Lib.hid (HB0.out.trans (hb.mono (by simp))); clear hb)
          | (go_at_call 18; refine (awake_any _).mono ?_; rintro e w3 ⟨rfl, hb3⟩))
        go_ret
        exact ⟨rfl, HB.out.trans (hb3.mono HB.out.size)⟩
    · have HM0 := Lib.hid h0
      clear h0
      go_enter Try.func6, Try.ntmps6
      go_wp2_with (first
        | (go_at_call 9; refine (mayr_any _ _ _ _ _ _).mono ?_; rintro e w1 ⟨rfl, hb⟩; rw [decide_eq_false HM0.out]; have HB := Lib.hid (HB0.out.trans (hb.mono (by simp))); clear hb)
        | (go_at_call 18; refine (awake_any _).mono ?_; rintro e w3 ⟨rfl, hb3⟩))
      go_ret
      exact ⟨rfl, HB.out.trans (hb3.mono HB.out.size)⟩
end Go.Proofs.Ytfnhmnfhkhjojaa
