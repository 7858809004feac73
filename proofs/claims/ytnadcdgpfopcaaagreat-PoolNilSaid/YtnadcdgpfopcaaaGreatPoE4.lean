/- A pool: fewest (written by pofew.py). -/
import Derived.Test.YtnadcdgpfopcaaaGreatPoE3
import Derived.BigRegion
namespace Go.Proofs.YtnadcdgpfopcaaaGreat
open Go.RowKit

section
variable {w w' : World} {p c l f : Nat} {x y X Y Z : Nat → Prop} {Q Q1 : PS} {T : List Fd}
theorem fewTo_next (Q : PS) (j : Nat) : Q.fewTo (j + 1) = Q.few (Q.fewTo j) j := by unfold PS.fewTo; rw [List.range_succ, List.foldl_append]; rfl
theorem fewTo_at (Q : PS) (j : Nat) : (Q.fewTo j).1 = -1 ∨ ∃ a : Nat, a < j ∧ (Q.fewTo j).1 = (a : Int) := by
  induction j with
  | zero => exact .inl rfl
  | succ j ih =>
    rw [fewTo_next]
    unfold PS.few
    split
    · exact .inr ⟨j, by omega, rfl⟩
    · rcases ih with h | ⟨a, h1, h2⟩
      · exact .inl h
      · exact .inr ⟨a, by omega, h2⟩
theorem fewTo_two (Q : PS) (ok : Ok Q) (j : Nat) : -9223372036854775808 ≤ (Q.fewTo j).2 ∧ (Q.fewTo j).2 ≤ 400 := by
  induction j with
  | zero => have := ok.may.2.1; show -9223372036854775808 ≤ Q.P ∧ Q.P ≤ 400; omega
  | succ j ih =>
    rw [fewTo_next]
    unfold PS.few
    split
    · have := ok.held (j : Int); show -9223372036854775808 ≤ ((Q.held j : Nat) : Int) ∧ ((Q.held j : Nat) : Int) ≤ 400; omega
    · exact ih
theorem bk_at {Q : PS} {j : Nat} (h : j < Q.S.bl.length) : bkAt Q (j : Int) = Q.S.bl[j] := by
  unfold bkAt
  rw [Int.toNat_natCast, List.getD_eq_getElem?_getD, List.getElem?_eq_getElem h]
  rfl
set_option maxRecDepth 100000 in
set_option maxHeartbeats 4000000 in
theorem q_fewest (h : Parts w p c l f Q) (ok : Ok Q) : Calls Tryz.prog 163 #[.pointer (some ⟨p, 0, none⟩)] w fun e w' => e = .returned (.int .i64 Q.fewest) ∧ Below w.heap.size w w' := by
  have HP := Lib.hid h
  have HO := Lib.hid ok
  have HB1 : Hid (1 ≤ Q.S.bl.length) := Lib.hid (by have := ok.lenN; omega)
  have hln : Q.S.bl.length ≤ 1000 := by have := ok.lenN; omega
  have c0 := h.c0
  clear h ok
  go_enter Tryz.func163, Tryz.ntmps163
  go_upto_region 2 with (go_at_call 21; refine (held_blocks HP.out.chip HB1.out).mono ?_; rintro e w1 ⟨g, cap, rfl, hl1, hb1⟩; have HL1 := Lib.hid hl1; have HBw1 := Lib.hid hb1; clear hl1 hb1)
  have c2 := (HP.out.below HBw1.out).c2
  clear c0
  go_region
  go_wp2_with fail
  have HBd := Lib.hid HBw1.out.drew
  have HLd := Lib.hid (HL1.out.below (Below.refl _ _).drew)
  generalize w1.drew = w2 at HBd HLd ⊢
  clear HBw1 HL1 c2
  go_loopw [4, 5, 21] (fun v4 v5 v21 wr => ∃ j : Nat, j ≤ Q.S.bl.length ∧ v21 = .int .i64 j ∧ v4 = .int .i64 (Q.fewTo j).1 ∧ v5 = .int .i64 (Q.fewTo j).2 ∧ Below w2.heap.size w2 wr) (fun _ _ v21 _ => Q.S.bl.length - (intOf v21).toNat)
  case atStart => exact ⟨0, Nat.zero_le _, rfl, rfl, rfl, Below.refl _ _⟩
  case round =>
    obtain ⟨j, hj, rfl, rfl, rfl, hB⟩ := hrel
    have HB := Lib.hid hB
    have HBw := Lib.hid (HBd.out.trans (hB.mono HBd.out.size))
    clear hB
    by_cases hj1 : j < Q.S.bl.length
    · obtain ⟨B, o, hge, hBs, hc⟩ := (HLd.out.below HB.out) (by omega)
      obtain ⟨rfl, rfl⟩ : B = g ∧ o = 0 := by cases hge; exact ⟨rfl, rfl⟩
      obtain ⟨k0, k1, k2, A1, n1, c1, k3⟩ := hc j hj1
      rw [Nat.zero_add] at k0 k1 k2 k3
      have HBK := Lib.hid (bk_at hj1)
      have HFN := Lib.hid (fewTo_next Q j)
      have HFW : Hid (∀ s, Q.few s j = if (!(Q.S.bl[j].bad || cleanB Q.S.bl[j]) && (decide ((Q.held (j : Int) : Int) < s.2) || (decide ((Q.held (j : Int) : Int) = s.2) && decide (s.1 ≠ -1) && decide (Q.S.bl[j].count < (bkAt Q s.1).count)))) = true then ((j : Int), ((Q.held (j : Int) : Nat) : Int)) else s) := Lib.hid fun s => by
        unfold PS.few PS.fewer; rw [bk_at hj1]
      have hat := fewTo_at Q j
      have h2b := fewTo_two Q HO.out j
      have HCA : Hid (∀ a : Nat, a < j → ∀ V, Below w2.heap.size w2 V → V.cell? ⟨B, a * 4 + 2, none⟩ = some (.int .i64 (bkAt Q (a : Int)).count)) := Lib.hid fun a ha V hV => by
        obtain ⟨B', o', e', hB', hc'⟩ := (HLd.out.below hV) (by omega)
        cases e'
        have := (hc' a (by omega)).2.2.1
        rw [Nat.zero_add] at this
        rw [bk_at (by omega)]; exact this
      have HHW : Hid ((Lit.int .i64 (j : Int)).wf = true) := Lib.hid (wf_of (by omega))
      have HHL := Lib.hid (HO.out.held (j : Int))
      clear hc hge
      generalize Q.S.bl[j] = b at k0 k1 k2 HBK HFW
      have HCl := Lib.hid (fun w1 => clean_any b A1 n1 c1 w1)
      obtain ⟨W, hW⟩ : ∃ W, wr.alloc (.cells #[.bool b.bad, .int .i64 b.next, .int .i64 b.count, .slice A1 n1 c1] 101) = W := ⟨_, rfl⟩
      have HBW : Hid (Below wr.heap.size wr W) := Lib.hid (by rw [← hW]; exact (Below.refl _ _).alloc (Nat.le_refl _) _)
      have HBX : Hid (∀ V, Below W.heap.size W V → V.heap[wr.heap.size]? = some (.cells #[.bool b.bad, .int .i64 b.next, .int .i64 b.count, .slice A1 n1 c1] 101 (0, 0))) := Lib.hid fun V hV => (hV.block _ (by rw [← hW]; simp)).trans (by rw [← hW]; exact heap_alloc_new _ _)
      obtain ⟨b0, b1, b2, b3⟩ := cells4f' (HBX.out W (Below.refl _ _))
      have HB2W : Hid (Below w2.heap.size w2 W) := Lib.hid (HB.out.trans (HBW.out.mono HB.out.size))
      have HBwW : Hid (Below w.heap.size w W) := Lib.hid (HBw.out.trans (HBW.out.mono HBw.out.size))
      have hsB : w2.heap.size ≤ W.heap.size := HB2W.out.size
      have hsw : w.heap.size ≤ W.heap.size := HBwW.out.size
      obtain ⟨⟨fa, ff⟩, hff⟩ : ∃ s, s = Q.fewTo j := ⟨_, rfl⟩
      rw [← hff] at hat h2b HFN ⊢
      simp only at hat h2b HFN ⊢
      obtain ⟨hn, hhn⟩ : ∃ hn, hn = Q.held (j : Int) := ⟨_, rfl⟩
      have HH := Lib.hid hhn
      have hn4 : hn ≤ 400 := by rw [hhn]; exact HHL.out
      rw [← hhn] at HFW
      clear hff hhn
      cases hbad : b.bad with
      | true =>
        have HV : Hid (Q.fewTo (j + 1) = (fa, ff)) := Lib.hid (by rw [HFN.out, HFW.out]; simp [hbad])
        rw [hbad] at b0
        clear hat h2b hbad
        go_wp2_with fail
        clear hW
        go_roundw
        case rel => exact ⟨j + 1, by omega, by go_num, by rw [HV.out], by rw [HV.out], HB2W.out⟩
        case measure => simp [intOf]; omega
      | false =>
        have HCl2 : Hid (∀ w1 : World, Calls Tryz.prog 108 #[.agg #[.bool false, .int .i64 b.next, .int .i64 b.count, .slice A1 n1 c1]] w1 fun e w' => e = .returned (.bool (cleanB b)) ∧ Below w1.heap.size w1 w') := Lib.hid fun w1 => by
          have := HCl.out w1
          unfold bcV at this
          rw [hbad] at this
          exact this
        cases hcl : cleanB b with
        | true =>
          have HV : Hid (Q.fewTo (j + 1) = (fa, ff)) := Lib.hid (by rw [HFN.out, HFW.out]; simp [hcl])
          have HC := Lib.hid hcl
          rw [hbad] at b0
          clear hat h2b hbad hcl
          go_wp2_with (go_at_call 108; (with_reducible refine (HCl2.out _).mono ?_); rintro e w5 ⟨rfl, hb5⟩; rw [HC.out]; have HB5 := Lib.hid hb5; clear hb5)
          clear hW
          go_roundw
          case rel => exact ⟨j + 1, by omega, by go_num, by rw [HV.out], by rw [HV.out], HB2W.out.trans (HB5.out.mono hsB)⟩
          case measure => simp [intOf]; omega
        | false =>
          have HC := Lib.hid hcl
          have HFW2 : Hid (Q.few (fa, ff) j = if (decide ((hn : Int) < ff) || (decide ((hn : Int) = ff) && decide (fa ≠ -1) && decide (b.count < (bkAt Q fa).count))) = true then ((j : Int), (hn : Int)) else (fa, ff)) := Lib.hid (by rw [HFW.out, hbad, hcl]; rfl)
          rw [hbad] at b0
          clear hbad hcl HFW
          go_upto_region 8 with (first
            | (go_at_call 108; (with_reducible refine (HCl2.out _).mono ?_); rintro e w5 ⟨rfl, hb5⟩; rw [HC.out]; have HB5 := Lib.hid hb5; clear hb5)
            | (go_at_call 164; (with_reducible refine (q_held (j : Int) (HP.out.below (HBwW.out.trans (HB5.out.mono hsw))) HO.out HHW.out).mono ?_); rintro e w6 ⟨rfl, hb6⟩; rw [← HH.out]; have HB6 := Lib.hid (HB5.out.trans (hb6.mono HB5.out.size)); clear hb6))
          clear hW
          obtain ⟨d0, d1, d2, d3⟩ := cells4f' (HBX.out w6 HB6.out)
          have HB26 := Lib.hid (HB2W.out.trans (HB6.out.mono hsB))
          clear b0 b1 b2 b3 k0 k1 k2 k3
          by_cases q1 : (hn : Int) < ff
          · have HV : Hid (Q.fewTo (j + 1) = ((j : Int), (hn : Int))) := Lib.hid (by rw [HFN.out, HFW2.out]; rw [decide_eq_true q1]; rfl)
            go_quiet (fail)
            go_wp2_with fail
            go_roundw
            case rel => exact ⟨j + 1, by omega, by go_num, by rw [HV.out], by rw [HV.out], drewN_below HB26.out _⟩
            case measure => simp [intOf]; omega
          · have q1f : decide ((hn : Int) < ff) = false := decide_eq_false q1
            by_cases q2 : (hn : Int) = ff
            · by_cases q3 : fa = -1
              · have HV : Hid (Q.fewTo (j + 1) = (fa, ff)) := Lib.hid (by rw [HFN.out, HFW2.out]; simp [q1, q3])
                have q3f : decide (fa ≠ -1) = false := by simp [q3]
                have q3g : (fa != -1) = false := by simp [q3]
                go_quiet (fail)
                go_wp2_with fail
                go_roundw
                case rel => exact ⟨j + 1, by omega, by go_num, by rw [HV.out], by rw [HV.out], drewN_below HB26.out _⟩
                case measure => simp [intOf]; omega
              · obtain ⟨a, ha, hae⟩ : ∃ a : Nat, a < j ∧ fa = (a : Int) := hat.resolve_left q3
                subst hae
                have ca := HCA.out a ha w6 HB26.out
                have hlt : a < Q.S.bl.length := by omega
                have q3f : ((a : Int) != -1) = true := by simp
                by_cases q4 : b.count < (bkAt Q (a : Int)).count
                · have HV : Hid (Q.fewTo (j + 1) = ((j : Int), (hn : Int))) := Lib.hid (by rw [HFN.out, HFW2.out]; rw [decide_eq_true q2, decide_eq_true q4, decide_eq_true q3]; simp)
                  obtain ⟨cc, hcc⟩ : ∃ cc, cc = (bkAt Q (a : Int)).count := ⟨_, rfl⟩
                  rw [← hcc] at ca q4
                  clear hcc
                  go_quiet (fail)
                  go_wp2_with fail
                  go_roundw
                  case rel => exact ⟨j + 1, by omega, by go_num, by rw [HV.out], by rw [HV.out], drewN_below HB26.out _⟩
                  case measure => simp [intOf]; omega
                · have HV : Hid (Q.fewTo (j + 1) = ((a : Int), ff)) := Lib.hid (by rw [HFN.out, HFW2.out]; rw [decide_eq_false q4, q1f]; simp)
                  obtain ⟨cc, hcc⟩ : ∃ cc, cc = (bkAt Q (a : Int)).count := ⟨_, rfl⟩
                  rw [← hcc] at ca q4
                  have q4f : decide (b.count < cc) = false := decide_eq_false q4
                  clear hcc
                  go_quiet (fail)
                  go_wp2_with fail
                  go_roundw
                  case rel => exact ⟨j + 1, by omega, by go_num, by rw [HV.out], by rw [HV.out], drewN_below HB26.out _⟩
                  case measure => simp [intOf]; omega
            · have HV : Hid (Q.fewTo (j + 1) = (fa, ff)) := Lib.hid (by rw [HFN.out, HFW2.out]; rw [q1f, decide_eq_false q2]; rfl)
              have q2f : decide ((hn : Int) = ff) = false := decide_eq_false q2
              have q2g : ((hn : Int) == ff) = false := by simpa using q2
              go_quiet (fail)
              go_wp2_with fail
              go_roundw
              case rel => exact ⟨j + 1, by omega, by go_num, by rw [HV.out], by rw [HV.out], drewN_below HB26.out _⟩
              case measure => simp [intOf]; omega
    · obtain rfl : j = Q.S.bl.length := by omega
      go_wp2_with fail
      go_ret
      exact ⟨rfl, HBw.out⟩
end
end Go.Proofs.YtnadcdgpfopcaaaGreat
