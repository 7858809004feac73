/- The landed chip: Program. -/
import Derived.Test.YteghegojhhoppaaLProg3
namespace Go.Proofs.Yteghegojhhoppaa
open Go.RowKit
section
variable {p q cap : Nat} {g : Nat → Nat} {C E : Nat → Prop} {S : LS} {w : World}
theorem prog_refused (A : Option Addr) (c : Nat) (l : List UInt8) (b pg : Int) (h : LAt w p q cap g C S) (hr : refS S b pg l.length ≠ 0) :
    Calls Try.prog 13 #[.pointer (some ⟨p, 0, none⟩), .agg #[.int .i64 b, .int .i64 pg], .slice A l.length c] w (LProgPost p q cap g C S b pg l w) := by
  have e1 : progL S b pg l = (refS S b pg l.length, S) := by unfold progL; rw [if_pos hr]
  have hz : (refS S b pg l.length != 0) = true := by simpa using hr
  have H1 := Lib.hid e1
  clear e1 hr
  go_enter Try.func13, Try.ntmps13
  go_wp2_with (go_at_call 20; refine (refused_any b pg A l.length c (h.alloc _)).mono ?_; rintro e w1 ⟨rfl, hb1⟩; rw [show refS S b pg l.length = refS S b pg l.length from rfl])
  all_goals go_ret
  all_goals
    unfold LProgPost
    rw [H1.out]
    have hb : Below w.heap.size w w1 := ((Below.refl _ _).alloc (Nat.le_refl _) _).trans (hb1.mono (by simp))
    exact ⟨rfl, C, h.below hb, fun _ h => .inl h, .of_below hb⟩
theorem prog_nil (A : Option Addr) (n c : Nat) (b pg : Int) (w : World) :
    Calls Try.prog 13 #[.pointer none, .agg #[.int .i64 b, .int .i64 pg], .slice A n c] w fun e w' => e = .returned (.int .i64 1) ∧ Below w.heap.size w w' := by
  go_enter Try.func13, Try.ntmps13
  go_wp2_with (go_at_call 20; refine (refused_nil b pg A n c _).mono ?_; rintro e w1 ⟨rfl, hb1⟩)
  go_ret
  exact ⟨rfl, ((Below.refl _ _).alloc (Nat.le_refl _) _).trans (hb1.mono (by simp))⟩
theorem half {l : List UInt8} (h2 : l.length ≤ 2000) : ∃ m : Nat, IntKind.i64.wrap ((l.length : Int) / 2) = (m : Int) ∧ m = l.length / 2 := by
  have h := Nat.div_le_self l.length 2
  refine ⟨l.length / 2, ?_, rfl⟩
  rw [IntKind.wrap_i64]
  omega
set_option maxRecDepth 100000 in
set_option maxHeartbeats 4000000 in
theorem prog_go (A : Option Addr) (c : Nat) (l : List UInt8) (i j : Nat) (h : LAt w p q cap g C S) (hr : refS S i j l.length = 0) (hi : i < S.bl.length) (hj : j < S.np) (h1 : 1 ≤ l.length) (h2 : l.length ≤ 2000) (hbad : S.bl[i].bad = false) (hn : S.bl[i].next = (j : Int))
    (hl : CB w E A l) (hE : ∀ k, E k → k < w.heap.size ∧ ¬ Own p q g C S.bl.length k) :
    Calls Try.prog 13 #[.pointer (some ⟨p, 0, none⟩), .agg #[.int .i64 i, .int .i64 j], .slice A l.length c] w (LProgPost p q cap g C S i j l w) := by
  have hne := h.ne
  have hne' := h.ne.symm
  have hj32 : j < 32 := by have := h.small; omega
  have hp := h.lt p (.inl rfl)
  have hq := h.lt q (.inr (.inl rfl))
  have HL := Lib.hid hl
  have HE := Lib.hid hE
  have HR0 := Lib.hid hr
  have H := Lib.hid h
  have mk : ∀ w1 : World, Below (w.alloc (.cells #[.int .i64 i, .int .i64 j] 42)).heap.size (w.alloc (.cells #[.int .i64 i, .int .i64 j] 42)) w1 → ∀ a, LMid w (((w1.drewN a).setCell ⟨p, 3, none⟩ (.int .i64 (wrap64 (S.pr + 1)))).setCell ⟨q, i * 4 + 1, none⟩ (.int .i64 ((j : Int) + 1))) p q cap g C S.bl.length i j (S.began i j hi) := fun w1 hb a => by
    have k1 : LAt w1 p q cap g C S := (h.alloc _).below hb
    have k2 : LAt ((w1.drewN a).setCell ⟨p, 3, none⟩ (.int .i64 (wrap64 (S.pr + 1)))) p q cap g C { S with pr := wrap64 (S.pr + 1) } := (k1.drewN a).self_set rfl rfl rfl h.ints
    refine ⟨k2.row_set (m := 1) (b := { S.bl[i] with next := (j : Int) + 1 }) hi (by omega) rfl ⟨by show (0 : Int) ≤ (j : Int) + 1; omega, by show (j : Int) + 1 ≤ (S.np : Int); omega⟩ rfl rfl rfl, ?_, 42, ?_⟩
    · exact (((Turned.of_below (((Below.refl _ _).alloc (Nat.le_refl _) _).trans (hb.mono (by simp)))).drewN a).setCell (fun _ => .inl rfl) _).setCell (fun _ => .inr (.inl rfl)) _
    · exact ((Below.heap_setCell _ ⟨q, i * 4 + 1, none⟩ _ _ (fun e => by have : w.heap.size = q := e; omega)).trans (Below.heap_setCell _ ⟨p, 3, none⟩ _ _ (fun e => by have : w.heap.size = p := e; omega))).trans (box2 (drewN_below hb a))
  have MK := Lib.hid mk
  clear mk h hl hE hr
  go_enter Try.func13, Try.ntmps13
  go_wp2_with (go_at_call 20; refine (refused_any i j A l.length c (H.out.alloc _)).mono ?_; rintro e w1 ⟨rfl, hb1⟩; rw [HR0.out]; obtain ⟨c0, _, _, c3, _, _, _, _, _, _, _, _, _⟩ := cells13 ((H.out.alloc _).below hb1).self; have r1 := (((H.out.alloc _).below hb1).blocks i hi).next; rw [hn] at r1; obtain ⟨d0, d1, _, _⟩ := cells2' (box2 hb1); have f3 := frozen10 ((H.out.alloc _).below hb1).self 3; obtain ⟨qcs, qt, hqp⟩ := ((H.out.alloc _).below hb1).plain; have fq := frozen10 hqp (i * 4 + 1); have HB1 := Lib.hid hb1; clear hqp hb1)
  go_quiet (fail)
  have M1 := Lib.hid (MK.out _ HB1.out nq)
  go_wp2_with fail
  obtain ⟨wm, hwm, M4⟩ := M1.out.name
  rw [← hwm]
  have M0 := Lib.hid M4
  clear M1 M4 hwm
  clear c0 c3 r1 d0 d1 f3 fq
  go_cut [9, 10] from 41 to 48 (fun x y wx => x = .bool S.f.hit ∧ y = .bool S.c.hit ∧ LMid w wx p q cap g C S.bl.length i j (S.told i j hi))
  case first => as_aux_lemma =>
    go_region_with (first
      | (go_at_call 21; (with_reducible refine (comes_c M0.out.drew.chip).mono ?_); rintro e wc ⟨rfl, hc, ht⟩; have Mc := Lib.hid (M0.out.drew.step hp hc ht); clear hc ht)
      | (go_at_call 21; (with_reducible refine (comes_f M0.out.drew.chip).mono ?_); rintro e wf ⟨rfl, hc, ht⟩; have Mf := Lib.hid (M0.out.drew.step hp hc ht); clear hc ht)
      | (go_at_call 21; (with_reducible refine (comes_f Mc.out.chip).mono ?_); rintro e wz ⟨rfl, hc, ht⟩; have Mz := Lib.hid (Mc.out.step hp hc ht); clear hc ht)
      | (go_at_call 21; (with_reducible refine (comes_c Mf.out.chip).mono ?_); rintro e wz ⟨rfl, hc, ht⟩; have Mz := Lib.hid (Mf.out.step hp hc ht); clear hc ht))
    all_goals
      go_wp2_with fail
      go_meet
      case rel => exact ⟨rfl, rfl, Mz.out⟩
  case rest =>
    obtain ⟨rfl, rfl, hm⟩ := hcut
    obtain ⟨w5, rfl⟩ : ∃ w5 : World, w5 = wc := ⟨_, rfl⟩
    have HM := Lib.hid hm
    obtain ⟨ad, rfl, _, _⟩ := HL.out (by omega)
    have hrl : RB w5 w.heap.size (some ad) l := (HL.out.keep (fun b hb => hm.turned.block b (HE.out b hb).1 (HE.out b hb).2) (fun _ h => h)).rb (fun b hb => (HE.out b hb).1)
    have HR := Lib.hid hrl.drew
    have HS := Lib.hid (show w.heap.size ≤ w5.drew.heap.size from hm.turned.size)
    obtain ⟨r3, ⟨vp, cp⟩, fp, d0, d1, c12, f5, fq, ⟨v5, c5⟩, ⟨vq, cq⟩⟩ := hm.facts hi hj
    clear hm hrl HB1 MK
    cases hcu : S.c.hit with
    | false =>
      cases hfa : S.f.hit with
      | false =>
        have E1 := Lib.hid (progL_told HR0.out hi)
        rw [hcu, hfa, if_neg (by simp), if_neg (by simp)] at E1
        go_wp2_with fail
        go_region_with (go_at_call 22; (with_reducible refine (part_any (some ad) c l l.length w5.drew w.heap.size HR.out HS.out (Nat.le_trans h2 (by decide)) _ rfl).mono ?_); rintro e w6 ⟨A2, L, rfl, hL, hn6⟩; obtain ⟨r3', ⟨vp', cp'⟩, fp', d0', d1', c12', f5', fq', ⟨v5', c5'⟩, ⟨vq', cq'⟩⟩ := (HM.out.drew.below hn6.2).facts hi hj; have HN := Lib.hid hn6; clear hn6)
        all_goals
          go_wp2_with fail
          go_ret
          obtain rfl : L = l := hL.out.trans (List.take_of_length_le (Nat.le_refl _))
          obtain ⟨D, hD1, hD2, hD3⟩ := LMid.done hi HM.out.drew H.out.lt HN.out (Nat.le_refl _) h2 hbad hn
          unfold LProgPost
          rw [E1.out]
          exact ⟨rfl, D, hD1, hD2, hD3⟩
      | true =>
        have E1 := Lib.hid (progL_told HR0.out hi)
        rw [hcu, hfa, if_neg (by simp), if_pos rfl] at E1
        obtain ⟨m, hq2, hm2⟩ := half h2
        have HM2 := Lib.hid hm2
        clear hm2
        have hgq := (H.out.gp i hi).2
        have hgq' := (H.out.gp i hi).2.symm
        go_wp2_with fail
        go_region_with (go_at_call 22; (with_reducible refine (part_any (some ad) c l m w5.drew w.heap.size HR.out HS.out (Nat.le_trans h2 (by decide)) _ rfl).mono ?_); rintro e w6 ⟨A2, L, rfl, hL, hn6⟩; obtain ⟨r3', ⟨vp', cp'⟩, fp', d0', d1', c12', f5', fq', ⟨v5', c5'⟩, ⟨vq', cq'⟩⟩ := (HM.out.drew.below hn6.2).facts hi hj; have HN := Lib.hid hn6; clear hn6)
        all_goals
          go_wp2_with fail
          go_ret
          have hLl : L.length ≤ 2000 := by rw [hL.out, List.length_take]; omega
          obtain ⟨D, hD1, hD2, hD3⟩ := LMid.done hi HM.out.drew H.out.lt HN.out (Nat.le_refl _) hLl hbad hn
          have hi2 : i < (putL S i j false L).length := by simpa [putL] using hi
          have hD4 := hD1.row_set (m := 0) (b := { (putL S i j false L)[i] with bad := true }) hi2 (by omega) rfl (hD1.blocks i hi2).nextIn rfl rfl rfl
          rw [show ({ S.told i j hi with bl := putL S i j false L } : LS).bl.set i { (putL S i j false L)[i] with bad := true } = putL S i j true L from putL_bad hi L] at hD4
          unfold LProgPost
          rw [E1.out, ← HM2.out, ← hL.out]
          exact ⟨rfl, D, hD4, fun k hk => (hD2 k hk).imp id fun h => ⟨h.1, by simpa using h.2⟩, hD3.setCell (fun _ => .inr (.inl rfl)) _⟩
    | true =>
      have E1 := Lib.hid (progL_told HR0.out hi)
      rw [hcu, if_pos rfl] at E1
      obtain ⟨k, hk⟩ : ∃ k : Nat, S.keep = (k : Int) := ⟨S.keep.toNat, by have := H.out.ints; omega⟩
      have HK := Lib.hid (show S.keep.toNat = k by omega)
      rw [hk] at c12
      have hgp := (H.out.gp i hi).1
      have hgp' := (H.out.gp i hi).1.symm
      clear hk
      go_wp2_with fail
      go_region_with (go_at_call 22; (with_reducible refine (part_any (some ad) c l k w5.drew w.heap.size HR.out HS.out (Nat.le_trans h2 (by decide)) _ rfl).mono ?_); rintro e w6 ⟨A2, L, rfl, hL, hn6⟩; obtain ⟨r3', ⟨vp', cp'⟩, fp', d0', d1', c12', f5', fq', ⟨v5', c5'⟩, ⟨vq', cq'⟩⟩ := (HM.out.drew.below hn6.2).facts hi hj; have HN := Lib.hid hn6; clear hn6)
      all_goals
        go_wp2_with fail
        go_ret
        have hLl : L.length ≤ 2000 := by rw [hL.out, List.length_take]; omega
        obtain ⟨D, hD1, hD2, hD3⟩ := LMid.done hi HM.out.drew H.out.lt HN.out (Nat.le_refl _) hLl hbad hn
        have hD4 := hD1.self_set (S' := { S.told i j hi with bl := putL S i j false L, dark := true }) (j := 5) (u := .bool true) rfl rfl rfl hD1.ints
        unfold LProgPost
        rw [E1.out, HK.out, ← hL.out]
        exact ⟨rfl, D, hD4, fun k hk => (hD2 k hk).imp id fun h => ⟨h.1, by simpa using h.2⟩, hD3.setCell (fun _ => .inl rfl) _⟩
theorem prog_any (A : Option Addr) (c : Nat) (l : List UInt8) (b pg : Int) (h : LAt w p q cap g C S) (hl : CB w E A l) (hE : ∀ k, E k → k < w.heap.size ∧ ¬ Own p q g C S.bl.length k) :
    Calls Try.prog 13 #[.pointer (some ⟨p, 0, none⟩), .agg #[.int .i64 b, .int .i64 pg], .slice A l.length c] w (LProgPost p q cap g C S b pg l w) := by
  by_cases hr : refS S b pg l.length = 0
  · obtain ⟨i, j, hi, rfl, rfl, hj, h1, h2, hd, hbad, hn⟩ := refS_zero hr
    exact prog_go A c l i j h hr hi hj h1 h2 hbad hn hl hE
  · exact prog_refused A c l b pg h hr
end
end Go.Proofs.Yteghegojhhoppaa
