/- The reference's chip: Erase where nothing refuses it. -/
import Derived.Test.YtchghdpfgamfpaaRefErase
namespace Go.Proofs.Ytchghdpfgamfpaa
open Go.RowKit
section
variable {p q cap : Nat} {g : Nat → Nat} {C : Nat → Prop} {S : CS} {w : World}
def CS.erB (S : CS) (i : Nat) (hi : i < S.bl.length) : CS := { S with er := wrap64 (S.er + 1), bl := S.bl.set i (cntB S.bl[i]) }
def CS.erT (S : CS) (i : Nat) (hi : i < S.bl.length) : CS := { S.erB i hi with worns := leftS S.worns, cuts := leftS S.cuts }
/-- The block, its first pages made nothing. -/
def CS.erP (S : CS) (i : Nat) (hi : i < S.bl.length) (nx : Int) (j : Nat) : CS := { S.erT i hi with bl := S.bl.set i { cntB S.bl[i] with next := nx, pages := clr S.bl[i].pages j } }
structure EM (w W : World) (p q cap : Nat) (g : Nat → Nat) (C : Nat → Prop) (n : Nat) (S : CS) : Prop where
  chip : ChipAt W p q cap g C S
  turned : Turned (Own p q g C n) w W
theorem EM.step {a b : World} {n : Nat} {S S' : CS} (h : EM w a p q cap g C n S) (hc : ChipAt b p q cap g C S') (ht : Turned (fun b => b = p) a b) : EM w b p q cap g C n S' := ⟨hc, h.turned.trans ht fun _ _ e => .inl e⟩
theorem EM.drew {a : World} {n : Nat} {S : CS} (h : EM w a p q cap g C n S) : EM w a.drew p q cap g C n S := ⟨h.chip.drew, h.turned.drew⟩
theorem EM.drewN {a : World} {n k : Nat} {S : CS} (h : EM w a p q cap g C n S) : EM w (a.drewN k) p q cap g C n S := ⟨h.chip.drewN k, h.turned.drewN k⟩
theorem eraseS_go {i : Nat} (hi : i < S.bl.length) (hd : S.dark = false) (hbad : S.bl[i].bad = false) :
    eraseS S i = if comesS S.cuts = true then (2, { S.erT i hi with dark := true, bl := S.bl.set i (emptyB (cntB S.bl[i]) S.keep.toNat S.np) })
      else if comesS S.worns = true then (3, { S.erT i hi with bl := S.bl.set i { cntB S.bl[i] with bad := true } }) else (0, { S.erT i hi with bl := S.bl.set i (emptyB (cntB S.bl[i]) S.np S.np) }) := by
  have e : barE S i = 0 := by
    unfold barE
    rw [if_neg (by omega), hd, blkS_at hi, hbad]
    simp
  unfold eraseS
  rw [if_neg (by rw [e]; simp), blkS_at hi]
  rfl
theorem erT_bad (S : CS) (i : Nat) (hi : i < S.bl.length) (hi' : i < (S.erT i hi).bl.length) :
    ({ S.erT i hi with bl := (S.erT i hi).bl.set i { (S.erT i hi).bl[i] with bad := true } } : CS) = { S.erT i hi with bl := S.bl.set i { cntB S.bl[i] with bad := true } } := by
  simp [CS.erT, CS.erB]
theorem erP_zero (S : CS) (i : Nat) (hi : i < S.bl.length) : S.erP i hi S.bl[i].next 0 = S.erT i hi := by
  unfold CS.erP
  rw [clr_zero]
  rfl
theorem erP_len (S : CS) (i : Nat) (hi : i < S.bl.length) (nx : Int) (j : Nat) : (S.erP i hi nx j).bl.length = S.bl.length := by simp [CS.erP]
theorem erP_at (S : CS) (i : Nat) (hi : i < S.bl.length) (nx : Int) (j : Nat) (hi' : i < (S.erP i hi nx j).bl.length) : (S.erP i hi nx j).bl[i] = { cntB S.bl[i] with next := nx, pages := clr S.bl[i].pages j } := by simp [CS.erP]
theorem erP_set (S : CS) (i : Nat) (hi : i < S.bl.length) (nx : Int) (j : Nat) (hi' : i < (S.erP i hi nx j).bl.length) (hj : j < S.bl[i].pages.length) :
    ({ S.erP i hi nx j with bl := (S.erP i hi nx j).bl.set i { (S.erP i hi nx j).bl[i] with pages := (S.erP i hi nx j).bl[i].pages.set j [] } } : CS) = S.erP i hi nx (j + 1) := by
  rw [erP_at]
  simp [CS.erP, clr_step _ _ hj]
theorem erP_next (S : CS) (i : Nat) (hi : i < S.bl.length) (nx nx' : Int) (j : Nat) (hi' : i < (S.erP i hi nx j).bl.length) :
    ({ S.erP i hi nx j with bl := (S.erP i hi nx j).bl.set i { (S.erP i hi nx j).bl[i] with next := nx' } } : CS) = S.erP i hi nx' j := by
  rw [erP_at]
  simp [CS.erP]
theorem EM.pages {W : World} {i j : Nat} {nx : Int} (hi : i < S.bl.length) (h : EM w W p q cap g C S.bl.length (S.erP i hi nx j)) :
    W.cell? ⟨q, i * 4 + 3, none⟩ = some (.slice (some ⟨g i, 0, none⟩) S.np S.np) ∧ (∀ k, k < S.np → ∃ v, W.cell? ⟨g i, k, none⟩ = some v) ∧ (∀ k, W.frozen? ⟨g i, k, none⟩ = false) ∧ S.bl[i].pages.length = S.np := by
  have hi' : i < (S.erP i hi nx j).bl.length := by rw [erP_len]; exact hi
  have hb := h.chip.blocks i hi'
  obtain ⟨cs, ct, hg⟩ := hb.plain
  have hl := hb.len
  refine ⟨hb.row, fun k hk => ?_, frozen10 hg, ?_⟩
  · obtain ⟨A, c, hpg, _⟩ := hb.pages k (by rw [hl]; exact hk)
    exact ⟨_, hpg⟩
  · rw [erP_at] at hl
    have : (clr S.bl[i].pages j).length = S.np := hl
    rwa [clr_length] at this
theorem EM.clear {W : World} {i j : Nat} {nx : Int} (hi : i < S.bl.length) (h : EM w W p q cap g C S.bl.length (S.erP i hi nx j)) (hj : j < S.bl[i].pages.length) : EM w (W.setCell ⟨g i, j, none⟩ (.slice none 0 0)) p q cap g C S.bl.length (S.erP i hi nx (j + 1)) := by
  have hi' : i < (S.erP i hi nx j).bl.length := by rw [erP_len]; exact hi
  have := h.chip.page_set (j := j) (c := 0) (A := none) (l := []) (D := C) hi' (Nat.le_refl _) (Nat.zero_le _) (fun _ h => h) (fun b hb => ⟨h.chip.cp b hb, h.chip.cl b hb⟩) .nil
  rw [erP_set S i hi nx j hi' hj] at this
  exact ⟨this, h.turned.setCell (fun _ => .inr (.inr (.inl ⟨i, hi, rfl⟩))) _⟩
theorem EM.next {W : World} {i j : Nat} {nx nx' : Int} (hi : i < S.bl.length) (h : EM w W p q cap g C S.bl.length (S.erP i hi nx j)) (hn : 0 ≤ nx' ∧ nx' ≤ S.np) : EM w (W.setCell ⟨q, i * 4 + 1, none⟩ (.int .i64 nx')) p q cap g C S.bl.length (S.erP i hi nx' j) := by
  have hi' : i < (S.erP i hi nx j).bl.length := by rw [erP_len]; exact hi
  have := h.chip.row_set (m := 1) (b := { (S.erP i hi nx j).bl[i] with next := nx' }) hi' (by omega) rfl hn rfl rfl rfl
  rw [erP_next] at this
  exact ⟨this, h.turned.setCell (fun _ => .inr (.inl rfl)) _⟩
theorem EM.nexts {W : World} {i j : Nat} {nx : Int} (hi : i < S.bl.length) (h : EM w W p q cap g C S.bl.length (S.erP i hi nx j)) : W.cell? ⟨p, 1, none⟩ = some (.int .i64 S.np) ∧ (∃ v, W.cell? ⟨q, i * 4 + 1, none⟩ = some v) ∧ W.frozen? ⟨q, i * 4 + 1, none⟩ = false ∧ (∃ v, W.cell? ⟨p, 6, none⟩ = some v) ∧ W.frozen? ⟨p, 6, none⟩ = false := by
  have hi' : i < (S.erP i hi nx j).bl.length := by rw [erP_len]; exact hi
  obtain ⟨_, c1, _, _, _, _, c6, _, _, _⟩ := cells10 h.chip.self
  obtain ⟨qcs, qt, hqp⟩ := h.chip.plain
  exact ⟨c1, ⟨_, (h.chip.blocks i hi').next⟩, frozen10 hqp _, ⟨_, c6⟩, frozen10 h.chip.self 6⟩
set_option maxRecDepth 100000 in
set_option maxHeartbeats 4000000 in
theorem erase_yes (i : Nat) (h : ChipAt w p q cap g C S) (hi : i < S.bl.length) (hd : S.dark = false) (hbad : S.bl[i].bad = false) :
    Calls Try.prog 17 #[.pointer (some ⟨p, 0, none⟩), .int .i64 i] w (ErasePost p q cap g C S i w) := by
  have hne := h.ne
  have hne' := h.ne.symm
  have hgp := (h.gp i hi).1
  have hgp' := (h.gp i hi).1.symm
  have hgq := (h.gp i hi).2
  have hgq' := (h.gp i hi).2.symm
  have hnp32 : S.np ≤ 32 := h.small.2.2
  obtain ⟨c0, _, _, _, _, _, c6, _, _, c9⟩ := cells10 h.self
  rw [hd] at c6
  have r0 := (h.blocks i hi).bad
  rw [hbad] at r0
  have r2 := (h.blocks i hi).count
  have f9 := frozen10 h.self 9
  obtain ⟨qcs, qt, hqp⟩ := h.plain
  have fq := frozen10 hqp (i * 4 + 2)
  have k1 : ChipAt (w.setCell ⟨p, 9, none⟩ (.int .i64 (wrap64 (S.er + 1)))) p q cap g C { S with er := wrap64 (S.er + 1) } := h.self_set rfl rfl rfl h.ints
  have k2 : ChipAt ((w.setCell ⟨p, 9, none⟩ (.int .i64 (wrap64 (S.er + 1)))).setCell ⟨q, i * 4 + 2, none⟩ (.int .i64 (wrap64 (S.bl[i].count + 1)))) p q cap g C (S.erB i hi) :=
    k1.row_set (m := 2) (b := cntB S.bl[i]) hi (by omega) rfl (h.blocks i hi).nextIn rfl rfl rfl
  have M : EM w ((w.setCell ⟨p, 9, none⟩ (.int .i64 (wrap64 (S.er + 1)))).setCell ⟨q, i * 4 + 2, none⟩ (.int .i64 (wrap64 (S.bl[i].count + 1)))) p q cap g C S.bl.length (S.erB i hi) :=
    ⟨k2, ((Turned.refl _ w).setCell (fun _ => .inl rfl) _).setCell (fun _ => .inr (.inl rfl)) _⟩
  obtain ⟨wm, hwm⟩ : ∃ wm, wm = ((w.setCell ⟨p, 9, none⟩ (.int .i64 (wrap64 (S.er + 1)))).setCell ⟨q, i * 4 + 2, none⟩ (.int .i64 (wrap64 (S.bl[i].count + 1)))) := ⟨_, rfl⟩
  rw [← hwm] at M
  have M0 := Lib.hid M
  have HW := Lib.hid hwm
  have H := Lib.hid h
  clear k1 k2 M hwm hqp h
  go_enter Try.func17, Try.ntmps17
  go_wp2
  rw [← HW.out]
  clear c0 c6 c9 r0 r2 f9 fq
  generalize decide ((i : Int) < 0) = z1
  generalize decide (S.bl.length ≤ i) = z2
  go_cut [6, 7] from 58 to 65 (fun x y wx => x = .bool (comesS S.cuts) ∧ y = .bool (comesS S.worns) ∧ EM w wx p q cap g C S.bl.length (S.erT i hi))
  case first => as_aux_lemma =>
    --DONE{
    go_region_with (first
      | (go_at_call 45; (with_reducible refine (comes_cuts M0.out.drew.chip).mono ?_); rintro e wc ⟨rfl, hc, ht⟩; have Mc := Lib.hid (M0.out.drew.step hc ht); clear hc ht)
      | (go_at_call 45; (with_reducible refine (comes_worns M0.out.drew.chip).mono ?_); rintro e wf ⟨rfl, hc, ht⟩; have Mf := Lib.hid (M0.out.drew.step hc ht); clear hc ht)
      | (go_at_call 45; (with_reducible refine (comes_worns Mc.out.chip).mono ?_); rintro e wz ⟨rfl, hc, ht⟩; have Mz := Lib.hid (Mc.out.step hc ht); clear hc ht)
      | (go_at_call 45; (with_reducible refine (comes_cuts Mf.out.chip).mono ?_); rintro e wz ⟨rfl, hc, ht⟩; have Mz := Lib.hid (Mf.out.step hc ht); clear hc ht))
    all_goals
      go_wp2_with fail
      go_meet
      case rel => exact ⟨rfl, rfl, Mz.out⟩
    --}DONE
  case rest =>
    obtain ⟨rfl, rfl, hm⟩ := hcut
    obtain ⟨w5, rfl⟩ : ∃ w5 : World, w5 = wc := ⟨_, rfl⟩
    have HM := Lib.hid hm
    have hi' : i < (S.erT i hi).bl.length := by simp [CS.erT, CS.erB]; exact hi
    obtain ⟨_, c1, _, _, _, c5, c6, _, _, _⟩ := cells10 hm.chip.self
    rw [show (S.erT i hi).np = S.np from rfl] at c1
    have f6 := frozen10 hm.chip.self 6
    have hb0 := (hm.chip.blocks i hi').bad
    have hb1 := (hm.chip.blocks i hi').next
    obtain ⟨qcs, qt, hqp⟩ := hm.chip.plain
    have fq0 := frozen10 hqp (i * 4)
    have fq1 := frozen10 hqp (i * 4 + 1)
    clear hm hqp M0 HW
    cases hcu : comesS S.cuts with
    | false =>
      cases hwo : comesS S.worns with
      | true =>
        have E1 := Lib.hid (eraseS_go hi hd hbad)
        rw [hcu, hwo, if_neg (by simp), if_pos rfl] at E1
        go_wp2_with fail
        go_ret
        unfold ErasePost
        rw [E1.out]
        have hL := HM.out.chip.row_set (m := 0) (b := { (S.erT i hi).bl[i] with bad := true }) hi' (by omega) rfl (HM.out.chip.blocks i hi').nextIn rfl rfl rfl
        rw [erT_bad] at hL
        exact ⟨rfl, hL, HM.out.turned.setCell (fun _ => .inr (.inl rfl)) _⟩
      | false =>
        go_wp2_with fail
        have HPl := Lib.hid ((HM.out.chip.blocks i hi').len)
        rw [← erP_zero S i hi] at HM
        have hpl := (EM.pages hi HM.out).2.2.2
        clear c1 c5 c6 f6 hb0 hb1 fq0 fq1 HPl
        go_loopw [89] (fun t wr => ∃ j : Nat, j ≤ S.np ∧ t = .int .i64 j ∧ EM w wr p q cap g C S.bl.length (S.erP i hi S.bl[i].next j)) (fun t _ => S.np - (intOf t).toNat)
        case atStart => exact ⟨0, Nat.zero_le _, rfl, HM.out⟩
        case round =>
          obtain ⟨j, hj, rfl, hE⟩ := hrel
          have HE := Lib.hid hE
          obtain ⟨a3, ap, af, _⟩ := EM.pages hi hE
          have afj := af j
          clear hE
          by_cases hjm : j < S.np
          · obtain ⟨v, av⟩ := ap j (by omega)
            have hjn : j < S.np := by omega
            clear ap af
            go_wp2
            go_roundw
            case rel => exact ⟨j + 1, by omega, by simp, EM.clear hi HE.out (by omega)⟩
            case measure => simp [intOf]; omega
          · obtain rfl : j = S.np := by omega
            clear ap af afj a3
            obtain ⟨b1, ⟨v, b2⟩, b3, ⟨v6, b4⟩, b5⟩ := EM.nexts hi HE.out
            have E1 := Lib.hid (eraseS_go hi hd hbad)
            rw [hcu, hwo, if_neg (by simp), if_neg (by simp)] at E1
            have HX := Lib.hid ((EM.next hi HE.out (nx' := S.np) ⟨by omega, by omega⟩).next hi (nx' := 0) ⟨by omega, by omega⟩)
            go_wp2
            go_ret
            unfold ErasePost
            rw [E1.out]
            have e9 : S.erP i hi 0 S.np = { S.erT i hi with bl := S.bl.set i (emptyB (cntB S.bl[i]) S.np S.np) } := by
              unfold CS.erP emptyB
              rw [if_pos (Nat.le_refl _)]; rfl
            rw [← e9]
            exact ⟨rfl, HX.out.chip, HX.out.turned⟩
    | true =>
      obtain ⟨k, hk⟩ : ∃ k : Nat, S.keep = (k : Int) := ⟨S.keep.toNat, by have := H.out.ints; omega⟩
      obtain ⟨m, hm0'⟩ : ∃ m : Nat, m = min k S.np := ⟨_, rfl⟩
      have hm0 : m = min S.keep.toNat S.np := by rw [hm0', hk]; rfl
      have hmi : (if S.np < k then (S.np : Int) else (k : Int)) = (m : Int) := by split <;> omega
      have HM0 := Lib.hid hm0
      rw [show (S.erT i hi).keep = S.keep from rfl, hk] at c5
      clear hm0
      cases hwo : comesS S.worns
      all_goals
        by_cases hov : S.np ≤ k
        · have hmk : m = S.np := by omega
          go_wp2_with fail
          go_quiet (fail)
          go_wp2_with fail
          have hm0 := HM0.out
          have HM9 := Lib.hid (HM.out.drewN (k := nq))
          generalize w5.drewN nq = w6 at HM9
          clear HM
          have HM := HM9
          rw [← erP_zero S i hi] at HM
          have hpl := (EM.pages hi HM.out).2.2.2
          clear c1 c5 c6 f6 hb0 hb1 fq0 fq1
          go_loopw [89] (fun t wr => ∃ j : Nat, j ≤ m ∧ t = .int .i64 j ∧ EM w wr p q cap g C S.bl.length (S.erP i hi S.bl[i].next j)) (fun t _ => m - (intOf t).toNat)
          case atStart => exact ⟨0, Nat.zero_le _, rfl, HM.out⟩
          case round =>
            obtain ⟨j, hj, rfl, hE⟩ := hrel
            have HE := Lib.hid hE
            obtain ⟨a3, ap, af, _⟩ := EM.pages hi hE
            have afj := af j
            clear hE
            by_cases hjm : j < m
            · obtain ⟨v, av⟩ := ap j (by omega)
              have hjn : j < S.np := by omega
              clear ap af
              go_wp2
              go_roundw
              case rel => exact ⟨j + 1, by omega, by simp, EM.clear hi HE.out (by omega)⟩
              case measure => simp [intOf]; omega
            · obtain rfl : j = m := by omega
              clear ap af afj a3
              obtain ⟨b1, ⟨v, b2⟩, b3, ⟨v6, b4⟩, b5⟩ := EM.nexts hi HE.out
              have E1 := Lib.hid (eraseS_go hi hd hbad)
              rw [hcu, if_pos rfl] at E1
              have HX := Lib.hid ((EM.next hi HE.out (nx' := S.np) ⟨by omega, by omega⟩).next hi (nx' := 0) ⟨by omega, by omega⟩)
              go_wp2
              go_ret
              unfold ErasePost
              rw [E1.out]
              have e9 : S.erP i hi 0 j = { S.erT i hi with bl := S.bl.set i (emptyB (cntB S.bl[i]) S.keep.toNat S.np) } := by
                have e8 : clr S.bl[i].pages j = clr S.bl[i].pages S.keep.toNat := by
                  rw [hm0, ← hpl, clr_min]
                unfold CS.erP emptyB
                rw [if_pos (by omega), e8]; rfl
              have hX := HX.out.chip.self_set (j := 6) (u := .bool true) (S' := { S.erP i hi 0 j with dark := true }) rfl rfl rfl HX.out.chip.ints
              rw [show ({ S.erP i hi 0 j with dark := true } : CS) = { S.erT i hi with dark := true, bl := S.bl.set i (emptyB (cntB S.bl[i]) S.keep.toNat S.np) } from by rw [e9]] at hX
              exact ⟨rfl, hX, HX.out.turned.setCell (fun _ => .inl rfl) _⟩
        · have hmk : m = k := by omega
          go_wp2_with fail
          go_quiet (fail)
          go_wp2_with fail
          have hm0 := HM0.out
          have HM9 := Lib.hid (HM.out.drewN (k := nq))
          generalize w5.drewN nq = w6 at HM9
          clear HM
          have HM := HM9
          rw [← erP_zero S i hi] at HM
          have hpl := (EM.pages hi HM.out).2.2.2
          clear c1 c5 c6 f6 hb0 hb1 fq0 fq1
          go_loopw [89] (fun t wr => ∃ j : Nat, j ≤ m ∧ t = .int .i64 j ∧ EM w wr p q cap g C S.bl.length (S.erP i hi S.bl[i].next j)) (fun t _ => m - (intOf t).toNat)
          case atStart => exact ⟨0, Nat.zero_le _, rfl, HM.out⟩
          case round =>
            obtain ⟨j, hj, rfl, hE⟩ := hrel
            have HE := Lib.hid hE
            obtain ⟨a3, ap, af, _⟩ := EM.pages hi hE
            have afj := af j
            clear hE
            by_cases hjm : j < m
            · obtain ⟨v, av⟩ := ap j (by omega)
              have hjn : j < S.np := by omega
              clear ap af
              go_wp2
              go_roundw
              case rel => exact ⟨j + 1, by omega, by simp, EM.clear hi HE.out (by omega)⟩
              case measure => simp [intOf]; omega
            · obtain rfl : j = m := by omega
              clear ap af afj a3
              obtain ⟨b1, ⟨v, b2⟩, b3, ⟨v6, b4⟩, b5⟩ := EM.nexts hi HE.out
              have E1 := Lib.hid (eraseS_go hi hd hbad)
              rw [hcu, if_pos rfl] at E1
              have HX := Lib.hid (EM.next hi HE.out (nx' := S.np) ⟨by omega, by omega⟩)
              go_wp2
              go_ret
              unfold ErasePost
              rw [E1.out]
              have e9 : S.erP i hi (S.np : Int) j = { S.erT i hi with bl := S.bl.set i (emptyB (cntB S.bl[i]) S.keep.toNat S.np) } := by
                have e8 : clr S.bl[i].pages j = clr S.bl[i].pages S.keep.toNat := by
                  rw [hm0, ← hpl, clr_min]
                unfold CS.erP emptyB
                rw [if_neg (by omega), e8]; rfl
              have hX := HX.out.chip.self_set (j := 6) (u := .bool true) (S' := { S.erP i hi (S.np : Int) j with dark := true }) rfl rfl rfl HX.out.chip.ints
              rw [show ({ S.erP i hi (S.np : Int) j with dark := true } : CS) = { S.erT i hi with dark := true, bl := S.bl.set i (emptyB (cntB S.bl[i]) S.keep.toNat S.np) } from by rw [e9]] at hX
              exact ⟨rfl, hX, HX.out.turned.setCell (fun _ => .inl rfl) _⟩
theorem erase_ref (b : Int) (h : ChipAt w p q cap g C S) : Calls Try.prog 17 #[.pointer (some ⟨p, 0, none⟩), .int .i64 b] w (ErasePost p q cap g C S b w) := by
  by_cases hr : barE S b = 0
  · unfold barE at hr
    split at hr
    · cases hr
    · next h1 =>
      obtain ⟨i, rfl⟩ : ∃ i : Nat, b = (i : Int) := ⟨b.toNat, by omega⟩
      have hi : i < S.bl.length := by omega
      rw [blkS_at hi] at hr
      split at hr
      · cases hr
      · next h2 =>
        split at hr
        · cases hr
        · next h3 => exact erase_yes i h hi (by simpa using h2) (by simpa using h3)
  · exact erase_no b h hr
end
end Go.Proofs.Ytchghdpfgamfpaa
