/- The landed chip: Erase. -/
import Derived.Test.YteghegojhhoppaaLEmpty
namespace Go.Proofs.Yteghegojhhoppaa
open Go.RowKit
section
variable {p q cap : Nat} {g : Nat → Nat} {C : Nat → Prop} {S : LS} {w : World}
def cntB (b : Bk) : Bk := { b with count := wrap64 (b.count + 1) }
def eraseL (S : LS) (b : Int) : Int × LS :=
  if barS S b ≠ 0 then (barS S b, S)
  else if S.c.hit = true then (2, { S with er := wrap64 (S.er + 1), w := S.w.tick, c := S.c.tick, dark := true, bl := S.bl.set b.toNat (emptyB (cntB (blkL S b)) S.keep.toNat S.np) })
  else if S.w.hit = true then (3, { S with er := wrap64 (S.er + 1), w := S.w.tick, c := S.c.tick, bl := S.bl.set b.toNat { cntB (blkL S b) with bad := true } })
  else (0, { S with er := wrap64 (S.er + 1), w := S.w.tick, c := S.c.tick, bl := S.bl.set b.toNat (emptyB (cntB (blkL S b)) S.np S.np) })
def LErasePost (p q cap : Nat) (g : Nat → Nat) (C : Nat → Prop) (S : LS) (b : Int) (w : World) (e : Ending) (w' : World) : Prop :=
  e = .returned (.int .i64 (eraseL S b).1) ∧ LAt w' p q cap g C (eraseL S b).2 ∧ Turned (Own p q g C S.bl.length) w w'
theorem erase_nil (b : Int) (w : World) : Calls Try.prog 14 #[.pointer none, .int .i64 b] w fun e w' => e = .returned (.int .i64 1) ∧ w' = w := by
  go_enter Try.func14, Try.ntmps14
  go_wp2_with (go_at_call 23; refine (barred_nil b _).mono ?_; rintro e w1 ⟨rfl, rfl⟩)
  go_ret
  exact ⟨rfl, rfl⟩
theorem erase_refused (b : Int) (h : LAt w p q cap g C S) (hr : barS S b ≠ 0) : Calls Try.prog 14 #[.pointer (some ⟨p, 0, none⟩), .int .i64 b] w (LErasePost p q cap g C S b w) := by
  have e1 : eraseL S b = (barS S b, S) := by unfold eraseL; rw [if_pos hr]
  have hz : (barS S b != 0) = true := by simpa using hr
  have H1 := Lib.hid e1
  clear e1 hr
  go_enter Try.func14, Try.ntmps14
  go_wp2_with (go_at_call 23; refine (barred_any b h).mono ?_; rintro e w1 ⟨rfl, rfl⟩)
  all_goals go_ret
  all_goals
    unfold LErasePost
    rw [H1.out]
    exact ⟨rfl, h, .refl _ _⟩
theorem barS_zero {S : LS} {b : Int} (h : barS S b = 0) : ∃ i : Nat, ∃ hi : i < S.bl.length, b = i ∧ S.dark = false ∧ S.bl[i].bad = false := by
  unfold barS at h
  split at h
  · cases h
  · next h1 =>
    obtain ⟨i, rfl, hi⟩ := isL_nat (b := b) (S := S) (by cases e : isL S b with | true => rfl | false => exact absurd e h1)
    rw [blkL_at hi] at h
    split at h
    · cases h
    · next h2 =>
      split at h
      · cases h
      · next h3 => exact ⟨i, hi, rfl, by simpa using h2, by simpa using h3⟩
def LS.erBegan (S : LS) (i : Nat) (hi : i < S.bl.length) : LS := { S with er := wrap64 (S.er + 1), bl := S.bl.set i (cntB S.bl[i]) }
def LS.erTold (S : LS) (i : Nat) (hi : i < S.bl.length) : LS := { S.erBegan i hi with w := S.w.tick, c := S.c.tick }
structure RMid (w W : World) (p q cap : Nat) (g : Nat → Nat) (C : Nat → Prop) (n : Nat) (S : LS) : Prop where
  chip : LAt W p q cap g C S
  turned : Turned (Own p q g C n) w W
theorem RMid.step {a b : World} {n : Nat} {S S' : LS} (h : RMid w a p q cap g C n S) (hc : LAt b p q cap g C S') (ht : Turned (fun b => b = p) a b) : RMid w b p q cap g C n S' := ⟨hc, h.turned.trans ht fun _ _ e => .inl e⟩
theorem RMid.drew {a : World} {n : Nat} {S : LS} (h : RMid w a p q cap g C n S) : RMid w a.drew p q cap g C n S := ⟨h.chip.drew, h.turned.drew⟩
theorem erTold_len (S : LS) (i : Nat) (hi : i < S.bl.length) : (S.erTold i hi).bl.length = S.bl.length := by simp [LS.erTold, LS.erBegan]
theorem erTold_at (S : LS) (i : Nat) (hi : i < S.bl.length) (hi' : i < (S.erTold i hi).bl.length) : (S.erTold i hi).bl[i] = cntB S.bl[i] := by simp [LS.erTold, LS.erBegan]
theorem er_empty (S : LS) (i k : Nat) (hi : i < S.bl.length) (hi' : i < (S.erTold i hi).bl.length) :
    ({ S.erTold i hi with bl := (S.erTold i hi).bl.set i (emptyB (S.erTold i hi).bl[i] k (S.erTold i hi).np) } : LS) = { S.erTold i hi with bl := S.bl.set i (emptyB (cntB S.bl[i]) k S.np) } := by
  simp [LS.erTold, LS.erBegan]
theorem er_bad (S : LS) (i : Nat) (hi : i < S.bl.length) (hi' : i < (S.erTold i hi).bl.length) :
    ({ S.erTold i hi with bl := (S.erTold i hi).bl.set i { (S.erTold i hi).bl[i] with bad := true } } : LS) = { S.erTold i hi with bl := S.bl.set i { cntB S.bl[i] with bad := true } } := by
  simp [LS.erTold, LS.erBegan]
theorem RMid.emptied {a b : World} {n i : Nat} {S S' : LS} (h : RMid w a p q cap g C n S) (hi : i < n) (hc : LAt b p q cap g C S') (ht : Turned (fun b => b = q ∨ b = g i) a b) : RMid w b p q cap g C n S' :=
  ⟨hc, h.turned.trans ht fun _ _ e => e.elim (fun e => .inr (.inl e)) (fun e => .inr (.inr (.inl ⟨i, hi, e⟩)))⟩
theorem eraseL_told {S : LS} {i : Nat} (hr : barS S i = 0) (hi : i < S.bl.length) :
    eraseL S i = if S.c.hit = true then (2, { S.erTold i hi with dark := true, bl := S.bl.set i (emptyB (cntB S.bl[i]) S.keep.toNat S.np) })
      else if S.w.hit = true then (3, { S.erTold i hi with bl := S.bl.set i { cntB S.bl[i] with bad := true } }) else (0, { S.erTold i hi with bl := S.bl.set i (emptyB (cntB S.bl[i]) S.np S.np) }) := by
  unfold eraseL
  rw [if_neg (by rw [hr]; simp), blkL_at hi]
  rfl
set_option maxRecDepth 100000 in
set_option maxHeartbeats 4000000 in
theorem erase_go (i : Nat) (h : LAt w p q cap g C S) (hr : barS S i = 0) (hi : i < S.bl.length) :
    Calls Try.prog 14 #[.pointer (some ⟨p, 0, none⟩), .int .i64 i] w (LErasePost p q cap g C S i w) := by
  have hne := h.ne
  have hne' := h.ne.symm
  have hgp := (h.gp i hi).1
  have hgp' := (h.gp i hi).1.symm
  obtain ⟨c0, _, _, _, c4, _, _, _, _, _, _, _, _⟩ := cells13 h.self
  have r2 := (h.blocks i hi).count
  have f4 := frozen10 h.self 4
  obtain ⟨qcs, qt, hqp⟩ := h.plain
  have fq := frozen10 hqp (i * 4 + 2)
  have k1 : LAt (w.setCell ⟨p, 4, none⟩ (.int .i64 (wrap64 (S.er + 1)))) p q cap g C { S with er := wrap64 (S.er + 1) } := h.self_set rfl rfl rfl h.ints
  have k2 : LAt ((w.setCell ⟨p, 4, none⟩ (.int .i64 (wrap64 (S.er + 1)))).setCell ⟨q, i * 4 + 2, none⟩ (.int .i64 (wrap64 (S.bl[i].count + 1)))) p q cap g C (S.erBegan i hi) :=
    k1.row_set (m := 2) (b := cntB S.bl[i]) hi (by omega) rfl (h.blocks i hi).nextIn rfl rfl rfl
  have M : RMid w ((w.setCell ⟨p, 4, none⟩ (.int .i64 (wrap64 (S.er + 1)))).setCell ⟨q, i * 4 + 2, none⟩ (.int .i64 (wrap64 (S.bl[i].count + 1)))) p q cap g C S.bl.length (S.erBegan i hi) :=
    ⟨k2, ((Turned.refl _ w).setCell (fun _ => .inl rfl) _).setCell (fun _ => .inr (.inl rfl)) _⟩
  obtain ⟨wm, hwm⟩ : ∃ wm, wm = ((w.setCell ⟨p, 4, none⟩ (.int .i64 (wrap64 (S.er + 1)))).setCell ⟨q, i * 4 + 2, none⟩ (.int .i64 (wrap64 (S.bl[i].count + 1)))) := ⟨_, rfl⟩
  rw [← hwm] at M
  have M0 := Lib.hid M
  have HW := Lib.hid hwm
  have H := Lib.hid h
  have HR0 := Lib.hid hr
  clear k1 k2 M hwm hqp h hr
  go_enter Try.func14, Try.ntmps14
  go_wp2_with (go_at_call 23; refine (barred_any i H.out).mono ?_; rintro e w1 ⟨rfl, hw1⟩; obtain rfl := hw1.symm; rw [HR0.out])
  rw [← HW.out]
  clear c0 c4 r2 f4 fq
  go_cut [7, 8] from 37 to 44 (fun x y wx => x = .bool S.w.hit ∧ y = .bool S.c.hit ∧ RMid w wx p q cap g C S.bl.length (S.erTold i hi))
  case first => as_aux_lemma =>
    go_region_with (first
      | (go_at_call 21; (with_reducible refine (comes_c M0.out.drew.chip).mono ?_); rintro e wc ⟨rfl, hc, ht⟩; have Mc := Lib.hid (M0.out.drew.step hc ht); clear hc ht)
      | (go_at_call 21; (with_reducible refine (comes_w M0.out.drew.chip).mono ?_); rintro e wf ⟨rfl, hc, ht⟩; have Mf := Lib.hid (M0.out.drew.step hc ht); clear hc ht)
      | (go_at_call 21; (with_reducible refine (comes_w Mc.out.chip).mono ?_); rintro e wz ⟨rfl, hc, ht⟩; have Mz := Lib.hid (Mc.out.step hc ht); clear hc ht)
      | (go_at_call 21; (with_reducible refine (comes_c Mf.out.chip).mono ?_); rintro e wz ⟨rfl, hc, ht⟩; have Mz := Lib.hid (Mf.out.step hc ht); clear hc ht))
    all_goals
      go_wp2_with fail
      go_meet
      case rel => exact ⟨rfl, rfl, Mz.out⟩
  case rest =>
    obtain ⟨rfl, rfl, hm⟩ := hcut
    obtain ⟨w5, rfl⟩ : ∃ w5 : World, w5 = wc := ⟨_, rfl⟩
    have HM := Lib.hid hm
    have hi' : i < (S.erTold i hi).bl.length := by rw [erTold_len]; exact hi
    obtain ⟨_, c1, _, _, _, c5, _, _, _, _, _, _, c12⟩ := cells13 hm.chip.self
    have hb0 := (hm.chip.blocks i hi').bad
    obtain ⟨qcs, qt, hqp⟩ := hm.chip.plain
    have fq := frozen10 hqp (i * 4)
    have E := fun k => empty_any i k hm.chip hi'
    clear hm hqp M0 HW
    cases hcu : S.c.hit with
    | false =>
      cases hfa : S.w.hit with
      | false =>
        have E1 := Lib.hid (eraseL_told HR0.out hi)
        rw [hcu, hfa, if_neg (by simp), if_neg (by simp)] at E1
        go_wp2_with (go_at_call 24; refine (E S.np).mono ?_; rintro e w6 ⟨rfl, hL, hT⟩)
        go_ret
        unfold LErasePost
        rw [E1.out]
        rw [er_empty] at hL
        have h6 := HM.out.emptied hi hL hT
        exact ⟨rfl, h6.chip, h6.turned⟩
      | true =>
        have E1 := Lib.hid (eraseL_told HR0.out hi)
        rw [hcu, hfa, if_neg (by simp), if_pos rfl] at E1
        go_wp2_with fail
        go_ret
        unfold LErasePost
        rw [E1.out]
        have hL := HM.out.chip.row_set (m := 0) (b := { (S.erTold i hi).bl[i] with bad := true }) hi' (by omega) rfl (HM.out.chip.blocks i hi').nextIn rfl rfl rfl
        rw [er_bad] at hL
        exact ⟨rfl, hL, HM.out.turned.setCell (fun _ => .inr (.inl rfl)) _⟩
    | true =>
      have E1 := Lib.hid (eraseL_told HR0.out hi)
      rw [hcu, if_pos rfl] at E1
      obtain ⟨k, hk⟩ : ∃ k : Nat, S.keep = (k : Int) := ⟨S.keep.toNat, by have := H.out.ints; omega⟩
      have HK := Lib.hid (show S.keep.toNat = k by omega)
      rw [show (S.erTold i hi).keep = S.keep from rfl, hk] at c12
      clear hk
      go_wp2_with (go_at_call 24; refine (E k).mono ?_; rintro e w6 ⟨rfl, hL, hT⟩; rw [er_empty] at hL; obtain ⟨_, _, _, _, _, c5', _, _, _, _, _, _, _⟩ := cells13 hL.self; have f5 := frozen10 hL.self 5)
      go_ret
      unfold LErasePost
      rw [E1.out, HK.out]
      have h6 := HM.out.emptied hi hL hT
      exact ⟨rfl, h6.chip.self_set rfl rfl rfl h6.chip.ints, h6.turned.setCell (fun _ => .inl rfl) _⟩
theorem erase_any (b : Int) (h : LAt w p q cap g C S) : Calls Try.prog 14 #[.pointer (some ⟨p, 0, none⟩), .int .i64 b] w (LErasePost p q cap g C S b w) := by
  by_cases hr : barS S b = 0
  · obtain ⟨i, hi, rfl, _, _⟩ := barS_zero hr
    exact erase_go i h hr hi
  · exact erase_refused b h hr
end
end Go.Proofs.Yteghegojhhoppaa
