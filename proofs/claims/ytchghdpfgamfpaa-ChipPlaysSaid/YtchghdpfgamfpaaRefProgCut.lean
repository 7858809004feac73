/- The reference's chip: Program where nothing refuses it: the power goes. -/
import Derived.Test.YtchghdpfgamfpaaRefProg3
namespace Go.Proofs.Ytchghdpfgamfpaa
open Go.RowKit
section
variable {p q cap : Nat} {g : Nat → Nat} {C E : Nat → Prop} {S : CS} {w : World}
set_option maxRecDepth 100000 in
set_option maxHeartbeats 2000000 in
theorem prog_cut (A : Option Addr) (c : Nat) (l : List UInt8) (i j : Nat) (h : ChipAt w p q cap g C S) (hh : hasS S i j = true) (h1 : 1 ≤ l.length) (h2 : l.length ≤ 2000) (hd : S.dark = false) (hi : i < S.bl.length) (hbad : S.bl[i].bad = false) (hn : S.bl[i].next = (j : Int)) (hj : j < S.np)
    (hl : CB w E A l) (hcu : comesS S.cuts = true) (hlc : l.length ≤ c) (hE : ∀ k, E k → k < w.heap.size ∧ ¬ Own p q g C S.bl.length k) :
    Calls Try.prog 27 #[.pointer (some ⟨p, 0, none⟩), .agg #[.int .i64 i, .int .i64 j], .slice A l.length c] w (ProgPost p q cap g C S i j l w) := by
  have hne := h.ne
  have hne' := h.ne.symm
  have hj32 : j < 32 := by have := h.small; omega
  have hp := h.lt p (.inl rfl)
  have hq := h.lt q (.inr (.inl rfl))
  have HL := Lib.hid hl
  have HE := Lib.hid hE
  have HH := Lib.hid hh
  have H := Lib.hid h
  have mk : ∀ w1 : World, Below (w.alloc (.cells #[.int .i64 i, .int .i64 j] 31)).heap.size (w.alloc (.cells #[.int .i64 i, .int .i64 j] 31)) w1 → ∀ a b d, Mid w (((w1.drewN (a + b + d)).setCell ⟨p, 8, none⟩ (.int .i64 (wrap64 (S.pr + 1)))).setCell ⟨q, i * 4 + 1, none⟩ (.int .i64 ((j : Int) + 1))) p q cap g C S.bl.length i j (S.began i j hi) := fun w1 hb a b d => by
    have k1 : ChipAt w1 p q cap g C S := (h.alloc _).below hb
    have k2 : ChipAt ((w1.drewN (a + b + d)).setCell ⟨p, 8, none⟩ (.int .i64 (wrap64 (S.pr + 1)))) p q cap g C { S with pr := wrap64 (S.pr + 1) } := (k1.drewN (a + b + d)).self_set rfl rfl rfl h.ints
    refine ⟨k2.row_set (m := 1) (b := { S.bl[i] with next := (j : Int) + 1 }) hi (by omega) rfl ⟨by show (0 : Int) ≤ (j : Int) + 1; omega, by show (j : Int) + 1 ≤ (S.np : Int); omega⟩ rfl rfl rfl, ?_, 31, ?_⟩
    · exact (((Turned.of_below (((Below.refl _ _).alloc (Nat.le_refl _) _).trans (hb.mono (by simp)))).drewN (a + b + d)).setCell (fun _ => .inl rfl) _).setCell (fun _ => .inr (.inl rfl)) _
    · exact ((Below.heap_setCell _ ⟨q, i * 4 + 1, none⟩ _ _ (fun e => by have : w.heap.size = q := e; omega)).trans (Below.heap_setCell _ ⟨p, 8, none⟩ _ _ (fun e => by have : w.heap.size = p := e; omega))).trans (box2 (drewN_below hb (a + b + d)))
  have MK := Lib.hid mk
  clear mk h hl hE hh
  go_enter Try.func27, Try.ntmps27
  go_wp2_with (go_at_call 41; refine (has_ref i j (H.out.alloc _)).mono ?_; rintro e w1 ⟨rfl, hb1⟩; rw [HH.out]; obtain ⟨c0, _, _, _, _, _, c6, _, c8, _⟩ := cells10 ((H.out.alloc _).below hb1).self; rw [hd] at c6; have r0 := (((H.out.alloc _).below hb1).blocks i hi).bad; have r1 := (((H.out.alloc _).below hb1).blocks i hi).next; rw [hbad] at r0; rw [hn] at r1; obtain ⟨d0, d1, _, _⟩ := cells2' (box2 hb1); have f8 := frozen10 ((H.out.alloc _).below hb1).self 8; obtain ⟨qcs, qt, hqp⟩ := ((H.out.alloc _).below hb1).plain; have fq := frozen10 hqp (i * 4 + 1); have HB1 := Lib.hid hb1; clear hqp hb1)
  go_quiet (fail)
  have M1 := Lib.hid (MK.out _ HB1.out nq)
  go_wp2
  go_quiet (fail)
  have M2 := Lib.hid (M1.out nq)
  go_wp2
  go_quiet (fail)
  have M3 := Lib.hid (M2.out nq)
  go_wp2_with fail
  obtain ⟨wm, hwm, M4⟩ := M3.out.name
  rw [← hwm]
  have M0 := Lib.hid M4
  clear M1 M2 M3 M4 hwm
  clear c0 c6 c8 r0 r1 d0 d1 f8 fq
  go_cut [8, 9] from 76 to 83 (fun x y wx => x = .bool (comesS S.cuts) ∧ y = .bool (comesS S.fails) ∧ Mid w wx p q cap g C S.bl.length i j (S.told i j hi))
  case first => as_aux_lemma =>
    --DONE{
    go_region_with (first
      | (go_at_call 45; (with_reducible refine (comes_cuts M0.out.drew.chip).mono ?_); rintro e wc ⟨rfl, hc, ht⟩; have Mc := Lib.hid (M0.out.drew.step hp hc ht); clear hc ht)
      | (go_at_call 45; (with_reducible refine (comes_fails M0.out.drew.chip).mono ?_); rintro e wf ⟨rfl, hc, ht⟩; have Mf := Lib.hid (M0.out.drew.step hp hc ht); clear hc ht)
      | (go_at_call 45; (with_reducible refine (comes_fails Mc.out.chip).mono ?_); rintro e wz ⟨rfl, hc, ht⟩; have Mz := Lib.hid (Mc.out.step hp hc ht); clear hc ht)
      | (go_at_call 45; (with_reducible refine (comes_cuts Mf.out.chip).mono ?_); rintro e wz ⟨rfl, hc, ht⟩; have Mz := Lib.hid (Mf.out.step hp hc ht); clear hc ht))
    all_goals
      go_wp2_with fail
      go_meet
      case rel => exact ⟨rfl, rfl, Mz.out⟩
    --}DONE
  case rest =>
    rw [hcu] at hcut
    obtain ⟨rfl, rfl, hm⟩ := hcut
    obtain ⟨w5, rfl⟩ : ∃ w5 : World, w5 = wc := ⟨_, rfl⟩
    have HM := Lib.hid hm
    obtain ⟨ad, rfl, _, _⟩ := HL.out (by omega)
    obtain ⟨k, hk⟩ : ∃ k : Nat, S.keep = (k : Int) := ⟨S.keep.toNat, by have := H.out.ints; omega⟩
    have hrl : RB w5 w.heap.size (some ad) l := (HL.out.keep (fun b hb => hm.turned.block b (HE.out b hb).1 (HE.out b hb).2) (fun _ h => h)).rb (fun b hb => (HE.out b hb).1)
    have HR := Lib.hid hrl
    obtain ⟨r3, ⟨vp, cp⟩, fp, d0, d1, c5, f6, fq, ⟨v6, c6⟩, ⟨vq, cq⟩⟩ := hm.facts hi hj
    rw [hk] at c5
    clear hm hrl HB1 MK
    obtain ⟨m, hm0⟩ : ∃ m : Nat, m = min k l.length := ⟨_, rfl⟩
    obtain ⟨l2, hl2⟩ : ∃ l2, l2 = l.take m := ⟨_, rfl⟩
    have hmi : (if l.length < k then (l.length : Int) else (k : Int)) = (m : Int) := by split <;> omega
    have hmc : m ≤ c := by omega
    have hm3 : m = l2.length := by rw [hl2, List.length_take]; omega
    have h23 : l2.length ≤ 2000 := by rw [hl2, List.length_take]; omega
    have hkk : l2 = l.take (min S.keep.toNat l.length) := by rw [hl2, hm0, hk]; rfl
    have hr2 := Lib.hid (show RB w5.drew w.heap.size (some ad) l2 by rw [hl2]; exact HR.out.drew.take _)
    have hm2 := Lib.hid hm3
    have h22 := Lib.hid h23
    have HL2 := Lib.hid hkk
    have hgp := (H.out.gp i hi).1
    have hgp' := (H.out.gp i hi).1.symm
    clear hl2 hm3 h23 hkk hm0
    go_wp2_with fail
    go_region_law (first | (refine step_append_new rfl (.tmp 100) rfl w.heap.size (some ad) _ c l2 hm2.out (by go_simp) hr2.out (Nat.le_trans h22.out (by decide)) ?_; intro A2 c2 L w6 hL hc2 hn; obtain ⟨r3', ⟨vp', cp'⟩, fp', d0', d1', c5', f6', fq', ⟨v6', c6'⟩, ⟨vq', cq'⟩⟩ := (HM.out.drew.below hn.2).facts hi hj; have HN := Lib.hid hn; clear hn))
    all_goals
      go_wp2_with fail
      go_ret
      obtain rfl : L = l2 := hL.out
      obtain ⟨D, hD1, hD2, hD3⟩ := Mid.done hi HM.out.drew H.out.lt HN.out hc2 h22.out hbad hn
      have e1 := progS_told HH.out h1 h2 hd hi hbad hn
      rw [hcu, if_pos rfl, ← HL2.out] at e1
      have hD4 := hD1.self_set (j := 6) (u := .bool true) (S' := { S.told i j hi with dark := true, bl := putS S i j false L }) rfl rfl rfl hD1.ints
      unfold ProgPost
      rw [e1]
      exact ⟨rfl, D, hD4, fun k hk => (hD2 k hk).imp id fun h => ⟨h.1, by simpa using h.2⟩, hD3.setCell (fun _ => .inl rfl) _⟩
end
end Go.Proofs.Ytchghdpfgamfpaa
