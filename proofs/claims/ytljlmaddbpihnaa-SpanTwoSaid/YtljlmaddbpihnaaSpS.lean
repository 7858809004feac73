/- SpanSides, over the landed contracts (written by mksps.py). -/
import Derived.Test.YtljlmaddbpihnaaSpC
import Derived.Test.YtljlmaddbpihnaaSpA
namespace Go.Proofs.Ytljlmaddbpihnaa
open Go.RowKit

/-- A box that a piece lies in. -/
theorem pcbox_cells {w : World} {p : Nat} {a b c : Int} (h : w.heap[p]? = some (.cells #[.int .i64 a, .int .i64 b, .int .i64 c] 25 (0, 0))) : w.cell? ⟨p, 0, none⟩ = some (.int .i64 a) ∧ w.cell? ⟨p, 1, none⟩ = some (.int .i64 b) ∧ w.cell? ⟨p, 2, none⟩ = some (.int .i64 c) := by
  exact ⟨by simp [World.cell?, h], by simp [World.cell?, h], by simp [World.cell?, h]⟩
theorem page_below {A N j : Nat} (h : j < cntP A N) (hs : A + N ≤ 80) : ∃ PP : Nat, pagesF ((A + N : Nat) : Int) = (PP : Int) ∧ A / 16 + j < PP ∧ PP ≤ 5 := by
  have hn : N ≠ 0 := fun e => by subst e; rw [cnt_zero] at h; omega
  unfold cntP at h
  rw [if_neg hn] at h
  obtain ⟨p, e, p1, p2, p3, p4, p5⟩ := pages_facts (Z := A + N)
  refine ⟨p, e, ?_, p1⟩
  by_cases h6 : 64 < A + N
  · have := p4 h6; omega
  · have := p5 (by omega); omega
set_option maxHeartbeats 8000000 in
set_option maxRecDepth 100000 in
theorem sides_law
    (lpc : ∀ (a n : Int) (w : World), Wf6 a → Wf6 n → Calls Try.prog 8 #[.int .i64 a, .int .i64 n] w (PcRead w (piecesF a n)))
    (lft : ∀ (a n : Int) (w : World), Wf6 a → Wf6 n → Calls Try.prog 12 #[.int .i64 a, .int .i64 n] w fun e w' => e = .returned (.bool (fitsF a n)) ∧ Below w.heap.size w w')
    (lpg : ∀ (z : Int) (w : World), Wf6 z → Calls Try.prog 10 #[.int .i64 z] w fun e w' => e = .returned (.int .i64 (pagesF z)) ∧ Below w.heap.size w w')
    (awk : ∀ w : World, Calls Try.prog 16 #[] w fun x w' => x = .returned (.bool true) ∧ Below w.heap.size w w')
    (a0 n0 : Int) (w : World) : Calls Try.prog 4 #[.int .i64 a0, .int .i64 n0] w fun e w' => e = .returned (.bool true) ∧ Below w.heap.size w w' := by
  obtain ⟨A, hA, hA2⟩ := small100 a0
  obtain ⟨N, hN, hN2⟩ := small100 n0
  have hAw : IntKind.i64.wrap (A : Int) = (A : Int) := i64w_idS _ (by omega)
  have hNw : IntKind.i64.wrap (N : Int) = (N : Int) := i64w_idS _ (by omega)
  have HPC := Lib.hid (fun w1 => lpc (A : Int) (N : Int) w1 (by omega) (by omega))
  have HFT := Lib.hid (fun w1 => lft (A : Int) (N : Int) w1 (by omega) (by omega))
  have HPG := Lib.hid (fun w1 => lpg ((A + N : Nat) : Int) w1 (by omega))
  have HAW := Lib.hid awk
  have hAN : IntKind.i64.wrap ((A : Int) + (N : Int)) = ((A + N : Nat) : Int) := by rw [i64w_idS _ (by omega)]; omega
  clear lpc lft lpg awk
  rw [fitsF_nat] at HFT
  by_cases hs : A + N ≤ 80
  rotate_left
  · have HV : Hid (piecesF (A : Int) (N : Int) = []) := Lib.hid (by unfold piecesF; rw [if_neg (by rw [fitsF_nat, decide_eq_false hs]; simp)])
    rw [HV.out] at HPC
    rw [decide_eq_false hs] at HFT
    have g1 : (80 : Int) < (A : Int) + (N : Int) := by omega
    have hAN2 : IntKind.i64.wrap ((A : Int) + (N : Int)) = (A : Int) + (N : Int) := i64w_idS _ (by omega)
    clear hAN hs hA2 hN2
    go_enter Try.func4, Try.ntmps4
    go_wp2_with (first
      | (go_at_call 8; (with_reducible refine (HPC.out _).mono ?_); rintro e w1 ⟨q, c, rfl, hz, hc, hb1⟩; have HB1 := Lib.hid hb1; clear hz hb1)
      | (go_at_call 12; (with_reducible refine (HFT.out _).mono ?_); rintro e w2 ⟨rfl, hb2⟩; have HB2 := Lib.hid (HB1.out.trans (hb2.mono HB1.out.size)); clear hb2)
      | (go_at_call 16; (with_reducible refine (HAW.out _).mono ?_); rintro e w3 ⟨rfl, hb3⟩; have HB3 := Lib.hid (HB2.out.trans (hb3.mono HB2.out.size)); clear hb3)
      | fail)
    go_ret
    exact ⟨rfl, HB3.out⟩
  · have HV : Hid (piecesF (A : Int) (N : Int) = piecesP A N) := Lib.hid (by unfold piecesF; rw [if_pos (by rw [fitsF_nat, decide_eq_true hs]), Int.toNat_natCast, Int.toNat_natCast])
    rw [HV.out] at HPC
    rw [decide_eq_true hs] at HFT
    have HCL : Hid ((piecesP A N).length = cntP A N) := Lib.hid (piecesP_len A N)
    have hcl := cntP_le hs
    have HP0 := Lib.hid (pos_zero A N)
    obtain ⟨l, hl⟩ : ∃ l, l = piecesP A N := ⟨_, rfl⟩
    rw [← hl] at HPC HCL
    have HLL := Lib.hid hl
    have hl5 : l.length ≤ 5 := by rw [HCL.out]; exact hcl
    clear hl
    go_enter Try.func4, Try.ntmps4
    go_upto_region 7 with (first
      | (go_at_call 8; (with_reducible refine (HPC.out _).mono ?_); rintro e w1 ⟨q, c, rfl, hz, hc, hb1⟩; have HZ := Lib.hid hz; have HB1 := Lib.hid hb1; clear hz hb1)
      | (go_at_call 12; (with_reducible refine (HFT.out _).mono ?_); rintro e w2 ⟨rfl, hb2⟩; have HB0 := Lib.hid hb2; have HB2 := Lib.hid (HB1.out.trans (hb2.mono HB1.out.size)); clear hb2)
      | fail)
    have HZL : Hid (∀ w1, Below w2.heap.size w2 w1 → PcLies w1 q l) := Lib.hid fun w1 hb => HZ.out.below (HB0.out.trans (hb.mono HB0.out.size))
    go_loopw [6, 7, 8, 39] (fun v6 _ _ v39 wr => ∃ jx : Nat, jx ≤ l.length ∧ v39 = .int .i64 jx ∧ v6 = .int .i64 (posP A N jx : Nat) ∧ Hid (Below w2.heap.size w2 wr)) (fun _ _ _ v39 _ => l.length - (RowKit.intOf v39).toNat)
    case atStart => exact ⟨0, Nat.zero_le _, rfl, by rw [HP0.out], Lib.hid (Below.refl _ _)⟩
    case round =>
      obtain ⟨jx, hj, rfl, rfl, HB⟩ := hrel
      have HBW := Lib.hid (HB2.out.trans (HB.out.mono HB2.out.size))
      by_cases hj1 : jx < l.length
      · have d2 : decide ((jx : Int) < (l.length : Int)) = true := decide_eq_true (by omega)
        have hjc : jx < cntP A N := by rw [← HCL.out]; exact hj1
        obtain ⟨e1, e2, e3, e4, e5, e6⟩ := pos_step hjc
        obtain ⟨f1, f2, f3, f4, f5, f6, f7⟩ := piece_facts hjc
        obtain ⟨PP, hPP, g1, g2⟩ := page_below hjc hs
        obtain ⟨B, o, rfl, hBs, hcc⟩ := HZL.out wr HB.out (by omega)
        have HCC : Hid (∀ w1, Below wr.heap.size wr w1 → ∀ i (h : i < l.length), w1.cell? ⟨B, o + i * 3, none⟩ = some (.int .i64 ((A / 16 + i : Nat) : Int))) := Lib.hid fun w1 hb i hi => by
          have h1 := (hcc i hi).1
          have h2 : (l[i]'hi).1 = ((A / 16 + i : Nat) : Int) := by
            have hL := HLL.out
            subst hL
            rw [piecesP_at hi]; rfl
          rw [h2] at h1
          exact (hb.cell (p := ⟨B, o + i * 3, none⟩) hBs).trans h1
        obtain ⟨k0, k1, k2⟩ := hcc jx hj1
        have hpc : l[jx]'hj1 = (((A / 16 + jx : Nat) : Int), ((begP A jx - (A / 16 + jx) * 16 : Nat) : Int), ((endP A N jx - begP A jx : Nat) : Int)) := by
          have hL := HLL.out
          subst hL
          rw [piecesP_at hj1]; rfl
        rw [hpc] at k0 k1 k2
        dsimp only at k0 k1 k2
        obtain ⟨pos, hpos⟩ : ∃ p, p = posP A N jx := ⟨_, rfl⟩
        obtain ⟨fr, hfr⟩ : ∃ p, p = begP A jx - (A / 16 + jx) * 16 := ⟨_, rfl⟩
        obtain ⟨kk, hkk⟩ : ∃ p, p = endP A N jx - begP A jx := ⟨_, rfl⟩
        obtain ⟨pg, hpg⟩ : ∃ p, p = A / 16 + jx := ⟨_, rfl⟩
        rw [← hfr] at k1 e2
        rw [← hkk] at k2
        rw [← hpg] at k0 g1 e1
        rw [← hpos] at e1 e2 e3 ⊢
        have E5 : Hid (posP A N (jx + 1) = pos + kk) := Lib.hid (by rw [e5, hpos, e6, hkk]; omega)
        have HPJ : Hid (pos + kk ≤ A + N ∧ 0 < kk ∧ fr + kk ≤ 16 ∧ pg * 16 + fr = pos ∧ pg < PP ∧ PP ≤ 5 ∧ pos < A + N) := Lib.hid ⟨by rw [hpos, e6, hkk]; omega, by rw [hkk]; omega, by rw [hfr, hkk]; omega, by omega, g1, g2, e3⟩
        have HPGE := Lib.hid hpg
        clear hpc hpos hfr hkk hpg e1 e2 e3 e4 e5 e6 f1 f2 f3 f4 f5 f6 f7 g1 g2
        have HPP := Lib.hid HPG.out
        rw [hPP] at HPP
        clear hPP
        obtain ⟨M, hM⟩ : ∃ m, m = pg * 16 := ⟨_, rfl⟩
        obtain ⟨FK, hFK⟩ : ∃ m, m = fr + kk := ⟨_, rfl⟩
        obtain ⟨AN, hANN⟩ : ∃ m, m = A + N := ⟨_, rfl⟩
        have HMW : Hid (IntKind.i64.wrap ((pg : Int) * 16) = (M : Int)) := Lib.hid (by have := HPJ.out; rw [i64w_idS _ (by omega)]; omega)
        have HHW : Hid (IntKind.i64.wrap ((M : Int) + (fr : Int)) = (pos : Int)) := Lib.hid (by have := HPJ.out; rw [i64w_idS _ (by omega)]; omega)
        have HFK : Hid (IntKind.i64.wrap ((fr : Int) + (kk : Int)) = (FK : Int)) := Lib.hid (by have := HPJ.out; rw [i64w_idS _ (by omega)]; omega)
        have HAN : Hid (IntKind.i64.wrap ((A : Int) + (N : Int)) = (AN : Int)) := Lib.hid (by rw [hANN]; exact hAN)
        have HFK2 : Hid (FK ≤ 16) := Lib.hid (by have := HPJ.out; omega)
        rw [← hANN] at HPP
        have hw9 : IntKind.i64.wrap ((pos : Int) + (kk : Int)) = ((pos + kk : Nat) : Int) := by have := HPJ.out; rw [i64w_idS _ (by omega)]; omega
        have HXV := Lib.hid (heap_alloc_new wr (.cells #[.int .i64 (pg : Int), .int .i64 (fr : Int), .int .i64 (kk : Int)] 25))
        have HBV := Lib.hid ((Below.refl wr.heap.size wr).alloc (Nat.le_refl _) (.cells #[.int .i64 (pg : Int), .int .i64 (fr : Int), .int .i64 (kk : Int)] 25))
        clear hM hFK hANN hcc
        go_upto_region 9 with fail
        generalize wr.alloc _ = V at HXV HBV ⊢
        obtain ⟨p, hp⟩ : ∃ p, p = wr.heap.size := ⟨_, rfl⟩
        rw [← hp] at HXV ⊢
        clear hp k0 k1 k2
        have HKV : Hid (∀ w1, Below V.heap.size V w1 → w1.cell? ⟨p, 0, none⟩ = some (.int .i64 (pg : Int)) ∧ w1.cell? ⟨p, 1, none⟩ = some (.int .i64 (fr : Int)) ∧ w1.cell? ⟨p, 2, none⟩ = some (.int .i64 (kk : Int))) := Lib.hid fun w1 hb => pcbox_cells ((hb.block p (lt_size HXV.out)).trans HXV.out)
        have HCV : Hid (∀ w1, Below V.heap.size V w1 → ∀ i (h : i < l.length), w1.cell? ⟨B, o + i * 3, none⟩ = some (.int .i64 ((A / 16 + i : Nat) : Int))) := Lib.hid fun w1 hb => HCC.out w1 (HBV.out.trans (hb.mono HBV.out.size))
        have HBVW := Lib.hid (HB.out.trans (HBV.out.mono HB.out.size))
        by_cases hj0 : jx = 0
        · have HJP : Hid (jx = 0) := Lib.hid hj0
          clear hj0
          refine region_st (fun j v w' => match j with | 0 => v = .pointer (some ⟨p, 0, none⟩) | 1 => v = .int .i64 (pg : Nat) | 2 => v = .int .i64 (M : Nat) | 3 => v = .pointer (some ⟨p, 1, none⟩) | 4 => v = .int .i64 (fr : Nat) | 5 => v = .int .i64 (pos : Nat) | 6 => v = .int .i64 (pos : Nat) | 7 => v = .bool false | 8 => v = .bool false | 9 => v = .pointer (some ⟨p, 2, none⟩) | 10 => v = .int .i64 (kk : Nat) | 11 => v = .bool false | 12 => v = .bool false | 13 => v = .bool false | 14 => v = .pointer (some ⟨p, 1, none⟩) | 15 => v = .int .i64 (fr : Nat) | 16 => v = .bool false | 17 => v = .bool false | 18 => v = .bool false | 19 => v = .pointer (some ⟨p, 1, none⟩) | 20 => v = .int .i64 (fr : Nat) | 21 => v = .pointer (some ⟨p, 2, none⟩) | 22 => v = .int .i64 (kk : Nat) | 23 => v = .int .i64 (FK : Nat) | 24 => v = .bool false | 25 => v = .bool false | 26 => v = .bool false | 27 => v = .pointer (some ⟨p, 0, none⟩) | 28 => v = .int .i64 (pg : Nat) | 29 => v = .int .i64 (A : Nat) | 30 => v = .int .i64 (N : Nat) | 31 => v = .int .i64 (AN : Nat) | 32 => v = .int .i64 (PP : Nat) | 33 => v = .bool false | 34 => v = .bool false | 35 => v = .bool false | 36 => v = .int .i64 (jx : Nat) | 37 => v = .bool false | 38 => v = .bool false | 39 => v = undef | 40 => v = undef | 41 => v = undef | 42 => v = undef | 43 => v = undef | 44 => v = undef | 45 => v = undef | 46 => v = undef | 47 => v = undef | 48 => v = undef | 49 => v = .bool false | 50 => v = .bool false | _ => True) (fun _ w' => Below V.heap.size V w') (fun w1 w2 => Below w1.heap.size w1 w2) (by kernel_rfl) (by kernel_rfl) (by kernel_rfl) ?hR ?hG ?hops ?hend
          case hR =>
            intro j v w1 w2 hv hb
            match j, hv with
            | 0, hv => exact hv
            | 1, hv => exact hv
            | 2, hv => exact hv
            | 3, hv => exact hv
            | 4, hv => exact hv
            | 5, hv => exact hv
            | 6, hv => exact hv
            | 7, hv => exact hv
            | 8, hv => exact hv
            | 9, hv => exact hv
            | 10, hv => exact hv
            | 11, hv => exact hv
            | 12, hv => exact hv
            | 13, hv => exact hv
            | 14, hv => exact hv
            | 15, hv => exact hv
            | 16, hv => exact hv
            | 17, hv => exact hv
            | 18, hv => exact hv
            | 19, hv => exact hv
            | 20, hv => exact hv
            | 21, hv => exact hv
            | 22, hv => exact hv
            | 23, hv => exact hv
            | 24, hv => exact hv
            | 25, hv => exact hv
            | 26, hv => exact hv
            | 27, hv => exact hv
            | 28, hv => exact hv
            | 29, hv => exact hv
            | 30, hv => exact hv
            | 31, hv => exact hv
            | 32, hv => exact hv
            | 33, hv => exact hv
            | 34, hv => exact hv
            | 35, hv => exact hv
            | 36, hv => exact hv
            | 37, hv => exact hv
            | 38, hv => exact hv
            | 39, hv => exact hv
            | 40, hv => exact hv
            | 41, hv => exact hv
            | 42, hv => exact hv
            | 43, hv => exact hv
            | 44, hv => exact hv
            | 45, hv => exact hv
            | 46, hv => exact hv
            | 47, hv => exact hv
            | 48, hv => exact hv
            | 49, hv => exact hv
            | 50, hv => exact hv
            | _ + 51, _ => exact trivial
          case hG => exact (Below.refl _ _).drew
          case hops =>
            refine OpsOkS.cons ?o0 (OpsOkS.cons ?o1 (OpsOkS.cons ?o2 (OpsOkS.cons ?o3 (OpsOkS.cons ?o4 (OpsOkS.cons ?o5 (OpsOkS.cons ?o6 (OpsOkS.cons ?o7 (OpsOkS.cons ?o8 (OpsOkS.cons ?o9 (OpsOkS.cons ?o10 (OpsOkS.cons ?o11 (OpsOkS.cons ?o12 (OpsOkS.cons ?o13 (OpsOkS.cons ?o14 (OpsOkS.cons ?o15 (OpsOkS.cons ?o16 (OpsOkS.cons ?o17 (OpsOkS.cons ?o18 (OpsOkS.cons ?o19 (OpsOkS.cons ?o20 (OpsOkS.cons ?o21 (OpsOkS.cons ?o22 (OpsOkS.cons ?o23 (OpsOkS.cons ?o24 (OpsOkS.cons ?o25 (OpsOkS.cons ?o26 (OpsOkS.cons ?o27 (OpsOkS.cons ?o28 (OpsOkS.cons ?o29 (OpsOkS.cons ?o30 (OpsOkS.cons ?o31 (OpsOkS.cons ?o32 (OpsOkS.cons ?o33 (OpsOkS.cons ?o34 (OpsOkS.cons ?o35 (OpsOkS.cons ?o36 (OpsOkS.cons ?o37 (OpsOkS.cons ?o38 (OpsOkS.cons ?o39 (OpsOkS.cons ?o40 (OpsOkS.cons ?o41 (OpsOkS.cons ?o42 (OpsOkS.cons ?o43 (OpsOkS.cons ?o44 (OpsOkS.cons ?o45 (OpsOkS.cons ?o46 (OpsOkS.cons ?o47 (OpsOkS.cons ?o48 (OpsOkS.cons ?o49 (OpsOkS.cons ?o50 OpsOkS.nil))))))))))))))))))))))))))))))))))))))))))))))))))
            case o0 =>
              intro a w1 Kx hG need old hsz fresh hKx
              have e0 : a.tmps[8]?.getD undef = .pointer (some ⟨p, 0, none⟩) := by rw [← Array.getD_eq_getD_getElem?]; exact old 8 (by kernel_rfl)
              refine op_value (v := .pointer (some ⟨p, 0, none⟩)) (wanted_none rfl) ?_ (hKx _ w1 rfl hG (Below.refl _ _))
              simp [execOp, go_sem, e0]
            case o1 =>
              intro a w1 Kx hG need old hsz fresh hKx
              have e0 : a.tmps[44]?.getD undef = .pointer (some ⟨p, 0, none⟩) := by rw [← Array.getD_eq_getD_getElem?]; exact (need 0 (by kernel_rfl) (by kernel_rfl))
              have k0 := (HKV.out w1 hG).1
              refine op_value (v := .int .i64 (pg : Nat)) (wanted_none rfl) ?_ (hKx _ w1 rfl hG (Below.refl _ _))
              simp [execOp, go_sem, e0, k0]
            case o2 =>
              intro a w1 Kx hG need old hsz fresh hKx
              have e0 : a.tmps[45]?.getD undef = .int .i64 (pg : Nat) := by rw [← Array.getD_eq_getD_getElem?]; exact (need 1 (by kernel_rfl) (by kernel_rfl))
              refine op_value (v := .int .i64 (M : Nat)) (wanted_none rfl) ?_ (hKx _ w1 rfl hG (Below.refl _ _))
              simp [execOp, go_sem, e0, HMW.out]
            case o3 =>
              intro a w1 Kx hG need old hsz fresh hKx
              have e0 : a.tmps[8]?.getD undef = .pointer (some ⟨p, 0, none⟩) := by rw [← Array.getD_eq_getD_getElem?]; exact old 8 (by kernel_rfl)
              refine op_value (v := .pointer (some ⟨p, 1, none⟩)) (wanted_none rfl) ?_ (hKx _ w1 rfl hG (Below.refl _ _))
              simp [execOp, go_sem, e0]
            case o4 =>
              intro a w1 Kx hG need old hsz fresh hKx
              have e0 : a.tmps[47]?.getD undef = .pointer (some ⟨p, 1, none⟩) := by rw [← Array.getD_eq_getD_getElem?]; exact (need 3 (by kernel_rfl) (by kernel_rfl))
              have k0 := (HKV.out w1 hG).2.1
              refine op_value (v := .int .i64 (fr : Nat)) (wanted_none rfl) ?_ (hKx _ w1 rfl hG (Below.refl _ _))
              simp [execOp, go_sem, e0, k0]
            case o5 =>
              intro a w1 Kx hG need old hsz fresh hKx
              have e0 : a.tmps[46]?.getD undef = .int .i64 (M : Nat) := by rw [← Array.getD_eq_getD_getElem?]; exact (need 2 (by kernel_rfl) (by kernel_rfl))
              have e1 : a.tmps[48]?.getD undef = .int .i64 (fr : Nat) := by rw [← Array.getD_eq_getD_getElem?]; exact (need 4 (by kernel_rfl) (by kernel_rfl))
              refine op_value (v := .int .i64 (pos : Nat)) (wanted_none rfl) ?_ (hKx _ w1 rfl hG (Below.refl _ _))
              simp [execOp, go_sem, e0, e1, HHW.out]
            case o6 =>
              intro a w1 Kx hG need old hsz fresh hKx
              have e0 : a.tmps[6]?.getD undef = .int .i64 (pos : Nat) := by rw [← Array.getD_eq_getD_getElem?]; exact old 6 (by kernel_rfl)
              refine op_value (v := .int .i64 (pos : Nat)) (wanted_none rfl) ?_ (hKx _ w1 rfl hG (Below.refl _ _))
              simp [execOp, go_sem, e0]
            case o7 =>
              intro a w1 Kx hG need old hsz fresh hKx
              have e0 : a.tmps[49]?.getD undef = .int .i64 (pos : Nat) := by rw [← Array.getD_eq_getD_getElem?]; exact (need 5 (by kernel_rfl) (by kernel_rfl))
              have e1 : a.tmps[50]?.getD undef = .int .i64 (pos : Nat) := by rw [← Array.getD_eq_getD_getElem?]; exact (need 6 (by kernel_rfl) (by kernel_rfl))
              refine op_value (v := .bool false) (wanted_none rfl) ?_ (hKx _ w1 rfl hG (Below.refl _ _))
              simp [execOp, go_sem, e0, e1]
            case o8 =>
              intro a w1 Kx hG need old hsz fresh hKx
              have e0 : a.tmps[51]?.getD undef = .bool false := by rw [← Array.getD_eq_getD_getElem?]; exact (need 7 (by kernel_rfl) (by kernel_rfl))
              refine op_value (v := .bool false) (wanted_none rfl) ?_ (hKx _ w1 rfl hG (Below.refl _ _))
              simp [execOp, go_sem, e0]
            case o9 =>
              intro a w1 Kx hG need old hsz fresh hKx
              have e0 : a.tmps[8]?.getD undef = .pointer (some ⟨p, 0, none⟩) := by rw [← Array.getD_eq_getD_getElem?]; exact old 8 (by kernel_rfl)
              refine op_value (v := .pointer (some ⟨p, 2, none⟩)) (wanted_of (j := 8) rfl (need 8 (by kernel_rfl) (by kernel_rfl))) ?_ (hKx _ w1 rfl hG (Below.refl _ _))
              simp [execOp, go_sem, e0]
            case o10 =>
              intro a w1 Kx hG need old hsz fresh hKx
              have e0 : a.tmps[53]?.getD undef = .pointer (some ⟨p, 2, none⟩) := by rw [← Array.getD_eq_getD_getElem?]; exact (need 9 (by kernel_rfl) (by kernel_rfl))
              have k0 := (HKV.out w1 hG).2.2
              refine op_value (v := .int .i64 (kk : Nat)) (wanted_of (j := 8) rfl (need 8 (by kernel_rfl) (by kernel_rfl))) ?_ (hKx _ w1 rfl hG (Below.refl _ _))
              simp [execOp, go_sem, e0, k0]
            case o11 =>
              intro a w1 Kx hG need old hsz fresh hKx
              have e0 : a.tmps[54]?.getD undef = .int .i64 (kk : Nat) := by rw [← Array.getD_eq_getD_getElem?]; exact (need 10 (by kernel_rfl) (by kernel_rfl))
              refine op_value (v := .bool false) (wanted_of (j := 8) rfl (need 8 (by kernel_rfl) (by kernel_rfl))) ?_ (hKx _ w1 rfl hG (Below.refl _ _))
              simp [execOp, go_sem, e0] <;> (have := HPJ.out; have := HFK2.out; omega)
            case o12 =>
              intro a w1 Kx hG need old hsz fresh hKx
              have e0 : a.tmps[52]?.getD undef = .bool false := by rw [← Array.getD_eq_getD_getElem?]; exact (need 8 (by kernel_rfl) (by kernel_rfl))
              have e1 : a.tmps[55]?.getD undef = .bool false := by rw [← Array.getD_eq_getD_getElem?]; exact (need 11 (by kernel_rfl) (by kernel_rfl))
              refine op_value (v := .bool false) (wanted_none rfl) ?_ (hKx _ w1 rfl hG (Below.refl _ _))
              simp [execOp, go_sem, asBool, e0, e1]
            case o13 =>
              intro a w1 Kx hG need old hsz fresh hKx
              have e0 : a.tmps[56]?.getD undef = .bool false := by rw [← Array.getD_eq_getD_getElem?]; exact (need 12 (by kernel_rfl) (by kernel_rfl))
              refine op_value (v := .bool false) (wanted_none rfl) ?_ (hKx _ w1 rfl hG (Below.refl _ _))
              simp [execOp, go_sem, e0]
            case o14 =>
              intro a w1 Kx hG need old hsz fresh hKx
              have e0 : a.tmps[8]?.getD undef = .pointer (some ⟨p, 0, none⟩) := by rw [← Array.getD_eq_getD_getElem?]; exact old 8 (by kernel_rfl)
              refine op_value (v := .pointer (some ⟨p, 1, none⟩)) (wanted_of (j := 13) rfl (need 13 (by kernel_rfl) (by kernel_rfl))) ?_ (hKx _ w1 rfl hG (Below.refl _ _))
              simp [execOp, go_sem, e0]
            case o15 =>
              intro a w1 Kx hG need old hsz fresh hKx
              have e0 : a.tmps[58]?.getD undef = .pointer (some ⟨p, 1, none⟩) := by rw [← Array.getD_eq_getD_getElem?]; exact (need 14 (by kernel_rfl) (by kernel_rfl))
              have k0 := (HKV.out w1 hG).2.1
              refine op_value (v := .int .i64 (fr : Nat)) (wanted_of (j := 13) rfl (need 13 (by kernel_rfl) (by kernel_rfl))) ?_ (hKx _ w1 rfl hG (Below.refl _ _))
              simp [execOp, go_sem, e0, k0]
            case o16 =>
              intro a w1 Kx hG need old hsz fresh hKx
              have e0 : a.tmps[59]?.getD undef = .int .i64 (fr : Nat) := by rw [← Array.getD_eq_getD_getElem?]; exact (need 15 (by kernel_rfl) (by kernel_rfl))
              refine op_value (v := .bool false) (wanted_of (j := 13) rfl (need 13 (by kernel_rfl) (by kernel_rfl))) ?_ (hKx _ w1 rfl hG (Below.refl _ _))
              simp [execOp, go_sem, e0]
            case o17 =>
              intro a w1 Kx hG need old hsz fresh hKx
              have e0 : a.tmps[57]?.getD undef = .bool false := by rw [← Array.getD_eq_getD_getElem?]; exact (need 13 (by kernel_rfl) (by kernel_rfl))
              have e1 : a.tmps[60]?.getD undef = .bool false := by rw [← Array.getD_eq_getD_getElem?]; exact (need 16 (by kernel_rfl) (by kernel_rfl))
              refine op_value (v := .bool false) (wanted_none rfl) ?_ (hKx _ w1 rfl hG (Below.refl _ _))
              simp [execOp, go_sem, asBool, e0, e1]
            case o18 =>
              intro a w1 Kx hG need old hsz fresh hKx
              have e0 : a.tmps[61]?.getD undef = .bool false := by rw [← Array.getD_eq_getD_getElem?]; exact (need 17 (by kernel_rfl) (by kernel_rfl))
              refine op_value (v := .bool false) (wanted_none rfl) ?_ (hKx _ w1 rfl hG (Below.refl _ _))
              simp [execOp, go_sem, e0]
            case o19 =>
              intro a w1 Kx hG need old hsz fresh hKx
              have e0 : a.tmps[8]?.getD undef = .pointer (some ⟨p, 0, none⟩) := by rw [← Array.getD_eq_getD_getElem?]; exact old 8 (by kernel_rfl)
              refine op_value (v := .pointer (some ⟨p, 1, none⟩)) (wanted_of (j := 18) rfl (need 18 (by kernel_rfl) (by kernel_rfl))) ?_ (hKx _ w1 rfl hG (Below.refl _ _))
              simp [execOp, go_sem, e0]
            case o20 =>
              intro a w1 Kx hG need old hsz fresh hKx
              have e0 : a.tmps[63]?.getD undef = .pointer (some ⟨p, 1, none⟩) := by rw [← Array.getD_eq_getD_getElem?]; exact (need 19 (by kernel_rfl) (by kernel_rfl))
              have k0 := (HKV.out w1 hG).2.1
              refine op_value (v := .int .i64 (fr : Nat)) (wanted_of (j := 18) rfl (need 18 (by kernel_rfl) (by kernel_rfl))) ?_ (hKx _ w1 rfl hG (Below.refl _ _))
              simp [execOp, go_sem, e0, k0]
            case o21 =>
              intro a w1 Kx hG need old hsz fresh hKx
              have e0 : a.tmps[8]?.getD undef = .pointer (some ⟨p, 0, none⟩) := by rw [← Array.getD_eq_getD_getElem?]; exact old 8 (by kernel_rfl)
              refine op_value (v := .pointer (some ⟨p, 2, none⟩)) (wanted_of (j := 18) rfl (need 18 (by kernel_rfl) (by kernel_rfl))) ?_ (hKx _ w1 rfl hG (Below.refl _ _))
              simp [execOp, go_sem, e0]
            case o22 =>
              intro a w1 Kx hG need old hsz fresh hKx
              have e0 : a.tmps[65]?.getD undef = .pointer (some ⟨p, 2, none⟩) := by rw [← Array.getD_eq_getD_getElem?]; exact (need 21 (by kernel_rfl) (by kernel_rfl))
              have k0 := (HKV.out w1 hG).2.2
              refine op_value (v := .int .i64 (kk : Nat)) (wanted_of (j := 18) rfl (need 18 (by kernel_rfl) (by kernel_rfl))) ?_ (hKx _ w1 rfl hG (Below.refl _ _))
              simp [execOp, go_sem, e0, k0]
            case o23 =>
              intro a w1 Kx hG need old hsz fresh hKx
              have e0 : a.tmps[64]?.getD undef = .int .i64 (fr : Nat) := by rw [← Array.getD_eq_getD_getElem?]; exact (need 20 (by kernel_rfl) (by kernel_rfl))
              have e1 : a.tmps[66]?.getD undef = .int .i64 (kk : Nat) := by rw [← Array.getD_eq_getD_getElem?]; exact (need 22 (by kernel_rfl) (by kernel_rfl))
              refine op_value (v := .int .i64 (FK : Nat)) (wanted_of (j := 18) rfl (need 18 (by kernel_rfl) (by kernel_rfl))) ?_ (hKx _ w1 rfl hG (Below.refl _ _))
              simp [execOp, go_sem, e0, e1, HFK.out]
            case o24 =>
              intro a w1 Kx hG need old hsz fresh hKx
              have e0 : a.tmps[67]?.getD undef = .int .i64 (FK : Nat) := by rw [← Array.getD_eq_getD_getElem?]; exact (need 23 (by kernel_rfl) (by kernel_rfl))
              refine op_value (v := .bool false) (wanted_of (j := 18) rfl (need 18 (by kernel_rfl) (by kernel_rfl))) ?_ (hKx _ w1 rfl hG (Below.refl _ _))
              simp [execOp, go_sem, e0] <;> (have := HPJ.out; have := HFK2.out; omega)
            case o25 =>
              intro a w1 Kx hG need old hsz fresh hKx
              have e0 : a.tmps[62]?.getD undef = .bool false := by rw [← Array.getD_eq_getD_getElem?]; exact (need 18 (by kernel_rfl) (by kernel_rfl))
              have e1 : a.tmps[68]?.getD undef = .bool false := by rw [← Array.getD_eq_getD_getElem?]; exact (need 24 (by kernel_rfl) (by kernel_rfl))
              refine op_value (v := .bool false) (wanted_none rfl) ?_ (hKx _ w1 rfl hG (Below.refl _ _))
              simp [execOp, go_sem, asBool, e0, e1]
            case o26 =>
              intro a w1 Kx hG need old hsz fresh hKx
              have e0 : a.tmps[69]?.getD undef = .bool false := by rw [← Array.getD_eq_getD_getElem?]; exact (need 25 (by kernel_rfl) (by kernel_rfl))
              refine op_value (v := .bool false) (wanted_none rfl) ?_ (hKx _ w1 rfl hG (Below.refl _ _))
              simp [execOp, go_sem, e0]
            case o27 =>
              intro a w1 Kx hG need old hsz fresh hKx
              have e0 : a.tmps[8]?.getD undef = .pointer (some ⟨p, 0, none⟩) := by rw [← Array.getD_eq_getD_getElem?]; exact old 8 (by kernel_rfl)
              refine op_value (v := .pointer (some ⟨p, 0, none⟩)) (wanted_of (j := 26) rfl (need 26 (by kernel_rfl) (by kernel_rfl))) ?_ (hKx _ w1 rfl hG (Below.refl _ _))
              simp [execOp, go_sem, e0]
            case o28 =>
              intro a w1 Kx hG need old hsz fresh hKx
              have e0 : a.tmps[71]?.getD undef = .pointer (some ⟨p, 0, none⟩) := by rw [← Array.getD_eq_getD_getElem?]; exact (need 27 (by kernel_rfl) (by kernel_rfl))
              have k0 := (HKV.out w1 hG).1
              refine op_value (v := .int .i64 (pg : Nat)) (wanted_of (j := 26) rfl (need 26 (by kernel_rfl) (by kernel_rfl))) ?_ (hKx _ w1 rfl hG (Below.refl _ _))
              simp [execOp, go_sem, e0, k0]
            case o29 =>
              intro a w1 Kx hG need old hsz fresh hKx
              have e0 : a.tmps[0]?.getD undef = .int .i64 (A : Nat) := by rw [← Array.getD_eq_getD_getElem?]; exact old 0 (by kernel_rfl)
              refine op_value (v := .int .i64 (A : Nat)) (wanted_of (j := 26) rfl (need 26 (by kernel_rfl) (by kernel_rfl))) ?_ (hKx _ w1 rfl hG (Below.refl _ _))
              simp [execOp, go_sem, e0]
            case o30 =>
              intro a w1 Kx hG need old hsz fresh hKx
              have e0 : a.tmps[1]?.getD undef = .int .i64 (N : Nat) := by rw [← Array.getD_eq_getD_getElem?]; exact old 1 (by kernel_rfl)
              refine op_value (v := .int .i64 (N : Nat)) (wanted_of (j := 26) rfl (need 26 (by kernel_rfl) (by kernel_rfl))) ?_ (hKx _ w1 rfl hG (Below.refl _ _))
              simp [execOp, go_sem, e0]
            case o31 =>
              intro a w1 Kx hG need old hsz fresh hKx
              have e0 : a.tmps[73]?.getD undef = .int .i64 (A : Nat) := by rw [← Array.getD_eq_getD_getElem?]; exact (need 29 (by kernel_rfl) (by kernel_rfl))
              have e1 : a.tmps[74]?.getD undef = .int .i64 (N : Nat) := by rw [← Array.getD_eq_getD_getElem?]; exact (need 30 (by kernel_rfl) (by kernel_rfl))
              refine op_value (v := .int .i64 (AN : Nat)) (wanted_of (j := 26) rfl (need 26 (by kernel_rfl) (by kernel_rfl))) ?_ (hKx _ w1 rfl hG (Below.refl _ _))
              simp [execOp, go_sem, e0, e1, HAN.out]
            case o32 =>
              intro a w1 Kx hG need old hsz fresh hKx
              have e0 : a.tmps[75]?.getD undef = .int .i64 (AN : Nat) := by rw [← Array.getD_eq_getD_getElem?]; exact (need 31 (by kernel_rfl) (by kernel_rfl))
              refine op_call (wanted_of (j := 26) rfl (need 26 (by kernel_rfl) (by kernel_rfl))) (f := 10) (args := #[.int .i64 (AN : Nat)]) ?run ((HPP.out w1).mono ?post)
              case run => simp [go_sem, e0]
              case post =>
                rintro e w2 ⟨rfl, hb2⟩
                exact ⟨_, rfl, hKx _ w2 rfl (hG.trans (hb2.mono hG.size)) hb2⟩
            case o33 =>
              intro a w1 Kx hG need old hsz fresh hKx
              have e0 : a.tmps[72]?.getD undef = .int .i64 (pg : Nat) := by rw [← Array.getD_eq_getD_getElem?]; exact (need 28 (by kernel_rfl) (by kernel_rfl))
              have e1 : a.tmps[76]?.getD undef = .int .i64 (PP : Nat) := by rw [← Array.getD_eq_getD_getElem?]; exact (need 32 (by kernel_rfl) (by kernel_rfl))
              refine op_value (v := .bool false) (wanted_of (j := 26) rfl (need 26 (by kernel_rfl) (by kernel_rfl))) ?_ (hKx _ w1 rfl hG (Below.refl _ _))
              simp [execOp, go_sem, e0, e1] <;> (have := HPJ.out; have := HFK2.out; omega)
            case o34 =>
              intro a w1 Kx hG need old hsz fresh hKx
              have e0 : a.tmps[70]?.getD undef = .bool false := by rw [← Array.getD_eq_getD_getElem?]; exact (need 26 (by kernel_rfl) (by kernel_rfl))
              have e1 : a.tmps[77]?.getD undef = .bool false := by rw [← Array.getD_eq_getD_getElem?]; exact (need 33 (by kernel_rfl) (by kernel_rfl))
              refine op_value (v := .bool false) (wanted_none rfl) ?_ (hKx _ w1 rfl hG (Below.refl _ _))
              simp [execOp, go_sem, asBool, e0, e1]
            case o35 =>
              intro a w1 Kx hG need old hsz fresh hKx
              have e0 : a.tmps[78]?.getD undef = .bool false := by rw [← Array.getD_eq_getD_getElem?]; exact (need 34 (by kernel_rfl) (by kernel_rfl))
              refine op_value (v := .bool false) (wanted_none rfl) ?_ (hKx _ w1 rfl hG (Below.refl _ _))
              simp [execOp, go_sem, e0]
            case o36 =>
              intro a w1 Kx hG need old hsz fresh hKx
              have e0 : a.tmps[7]?.getD undef = .int .i64 (jx : Nat) := by rw [← Array.getD_eq_getD_getElem?]; exact old 7 (by kernel_rfl)
              refine op_value (v := .int .i64 (jx : Nat)) (wanted_of (j := 35) rfl (need 35 (by kernel_rfl) (by kernel_rfl))) ?_ (hKx _ w1 rfl hG (Below.refl _ _))
              simp [execOp, go_sem, e0]
            case o37 =>
              intro a w1 Kx hG need old hsz fresh hKx
              have e0 : a.tmps[80]?.getD undef = .int .i64 (jx : Nat) := by rw [← Array.getD_eq_getD_getElem?]; exact (need 36 (by kernel_rfl) (by kernel_rfl))
              refine op_value (v := .bool false) (wanted_of (j := 35) rfl (need 35 (by kernel_rfl) (by kernel_rfl))) ?_ (hKx _ w1 rfl hG (Below.refl _ _))
              simp [execOp, go_sem, e0] <;> (have := HJP.out; omega)
            case o38 =>
              intro a w1 Kx hG need old hsz fresh hKx
              have e0 : a.tmps[81]?.getD undef = .bool false := by rw [← Array.getD_eq_getD_getElem?]; exact (need 37 (by kernel_rfl) (by kernel_rfl))
              refine op_value (v := .bool false) (wanted_of (j := 35) rfl (need 35 (by kernel_rfl) (by kernel_rfl))) ?_ (hKx _ w1 rfl hG (Below.refl _ _))
              simp [execOp, go_sem, e0]
            case o39 =>
              intro a w1 Kx hG need old hsz fresh hKx
              exact skip_op (j := 38) rfl (need 38 (by kernel_rfl) (by kernel_rfl)) (by decide) (hKx undef w1 rfl hG (Below.refl _ _))
            case o40 =>
              intro a w1 Kx hG need old hsz fresh hKx
              exact skip_op (j := 38) rfl (need 38 (by kernel_rfl) (by kernel_rfl)) (by decide) (hKx undef w1 rfl hG (Below.refl _ _))
            case o41 =>
              intro a w1 Kx hG need old hsz fresh hKx
              exact skip_op (j := 38) rfl (need 38 (by kernel_rfl) (by kernel_rfl)) (by decide) (hKx undef w1 rfl hG (Below.refl _ _))
            case o42 =>
              intro a w1 Kx hG need old hsz fresh hKx
              exact skip_op (j := 38) rfl (need 38 (by kernel_rfl) (by kernel_rfl)) (by decide) (hKx undef w1 rfl hG (Below.refl _ _))
            case o43 =>
              intro a w1 Kx hG need old hsz fresh hKx
              exact skip_op (j := 38) rfl (need 38 (by kernel_rfl) (by kernel_rfl)) (by decide) (hKx undef w1 rfl hG (Below.refl _ _))
            case o44 =>
              intro a w1 Kx hG need old hsz fresh hKx
              exact skip_op (j := 38) rfl (need 38 (by kernel_rfl) (by kernel_rfl)) (by decide) (hKx undef w1 rfl hG (Below.refl _ _))
            case o45 =>
              intro a w1 Kx hG need old hsz fresh hKx
              exact skip_op (j := 38) rfl (need 38 (by kernel_rfl) (by kernel_rfl)) (by decide) (hKx undef w1 rfl hG (Below.refl _ _))
            case o46 =>
              intro a w1 Kx hG need old hsz fresh hKx
              exact skip_op (j := 38) rfl (need 38 (by kernel_rfl) (by kernel_rfl)) (by decide) (hKx undef w1 rfl hG (Below.refl _ _))
            case o47 =>
              intro a w1 Kx hG need old hsz fresh hKx
              exact skip_op (j := 38) rfl (need 38 (by kernel_rfl) (by kernel_rfl)) (by decide) (hKx undef w1 rfl hG (Below.refl _ _))
            case o48 =>
              intro a w1 Kx hG need old hsz fresh hKx
              exact skip_op (j := 38) rfl (need 38 (by kernel_rfl) (by kernel_rfl)) (by decide) (hKx undef w1 rfl hG (Below.refl _ _))
            case o49 =>
              intro a w1 Kx hG need old hsz fresh hKx
              have e0 : a.tmps[82]?.getD undef = .bool false := by rw [← Array.getD_eq_getD_getElem?]; exact (need 38 (by kernel_rfl) (by kernel_rfl))
              refine op_value (v := .bool false) (wanted_of (j := 35) rfl (need 35 (by kernel_rfl) (by kernel_rfl))) ?_ (hKx _ w1 rfl hG (Below.refl _ _))
              simp [execOp, go_sem, asBool, e0]
            case o50 =>
              intro a w1 Kx hG need old hsz fresh hKx
              have e0 : a.tmps[79]?.getD undef = .bool false := by rw [← Array.getD_eq_getD_getElem?]; exact (need 35 (by kernel_rfl) (by kernel_rfl))
              have e1 : a.tmps[93]?.getD undef = .bool false := by rw [← Array.getD_eq_getD_getElem?]; exact (need 49 (by kernel_rfl) (by kernel_rfl))
              refine op_value (v := .bool false) (wanted_none rfl) ?_ (hKx _ w1 rfl hG (Below.refl _ _))
              simp [execOp, go_sem, asBool, e0, e1]
          case hend =>
            intro a w6 hG hde hsz hφ hold
            obtain rfl := act_puts [(44, .pointer (some ⟨p, 0, none⟩)), (45, .int .i64 (pg : Nat)), (46, .int .i64 (M : Nat)), (47, .pointer (some ⟨p, 1, none⟩)), (48, .int .i64 (fr : Nat)), (49, .int .i64 (pos : Nat)), (50, .int .i64 (pos : Nat)), (51, .bool false), (52, .bool false), (53, .pointer (some ⟨p, 2, none⟩)), (54, .int .i64 (kk : Nat)), (55, .bool false), (56, .bool false), (57, .bool false), (58, .pointer (some ⟨p, 1, none⟩)), (59, .int .i64 (fr : Nat)), (60, .bool false), (61, .bool false), (62, .bool false), (63, .pointer (some ⟨p, 1, none⟩)), (64, .int .i64 (fr : Nat)), (65, .pointer (some ⟨p, 2, none⟩)), (66, .int .i64 (kk : Nat)), (67, .int .i64 (FK : Nat)), (68, .bool false), (69, .bool false), (70, .bool false), (71, .pointer (some ⟨p, 0, none⟩)), (72, .int .i64 (pg : Nat)), (73, .int .i64 (A : Nat)), (74, .int .i64 (N : Nat)), (75, .int .i64 (AN : Nat)), (76, .int .i64 (PP : Nat)), (77, .bool false), (78, .bool false), (79, .bool false), (80, .int .i64 (jx : Nat)), (81, .bool false), (82, .bool false), (83, undef), (84, undef), (85, undef), (86, undef), (87, undef), (88, undef), (89, undef), (90, undef), (91, undef), (92, undef), (93, .bool false), (94, .bool false)] [44, 45, 46, 47, 48, 49, 50, 51, 52, 53, 54, 55, 56, 57, 58, 59, 60, 61, 62, 63, 64, 65, 66, 67, 68, 69, 70, 71, 72, 73, 74, 75, 76, 77, 78, 79, 80, 81, 82, 83, 84, 85, 86, 87, 88, 89, 90, 91, 92, 93, 94] rfl (by kernel_rfl) (by kernel_rfl) hde hsz (List.forall_mem_cons.2 ⟨(show a.tmps.getD 44 undef = .pointer (some ⟨p, 0, none⟩) from (hφ 0 (by kernel_rfl))), (List.forall_mem_cons.2 ⟨(show a.tmps.getD 45 undef = .int .i64 (pg : Nat) from (hφ 1 (by kernel_rfl))), (List.forall_mem_cons.2 ⟨(show a.tmps.getD 46 undef = .int .i64 (M : Nat) from (hφ 2 (by kernel_rfl))), (List.forall_mem_cons.2 ⟨(show a.tmps.getD 47 undef = .pointer (some ⟨p, 1, none⟩) from (hφ 3 (by kernel_rfl))), (List.forall_mem_cons.2 ⟨(show a.tmps.getD 48 undef = .int .i64 (fr : Nat) from (hφ 4 (by kernel_rfl))), (List.forall_mem_cons.2 ⟨(show a.tmps.getD 49 undef = .int .i64 (pos : Nat) from (hφ 5 (by kernel_rfl))), (List.forall_mem_cons.2 ⟨(show a.tmps.getD 50 undef = .int .i64 (pos : Nat) from (hφ 6 (by kernel_rfl))), (List.forall_mem_cons.2 ⟨(show a.tmps.getD 51 undef = .bool false from (hφ 7 (by kernel_rfl))), (List.forall_mem_cons.2 ⟨(show a.tmps.getD 52 undef = .bool false from (hφ 8 (by kernel_rfl))), (List.forall_mem_cons.2 ⟨(show a.tmps.getD 53 undef = .pointer (some ⟨p, 2, none⟩) from (hφ 9 (by kernel_rfl))), (List.forall_mem_cons.2 ⟨(show a.tmps.getD 54 undef = .int .i64 (kk : Nat) from (hφ 10 (by kernel_rfl))), (List.forall_mem_cons.2 ⟨(show a.tmps.getD 55 undef = .bool false from (hφ 11 (by kernel_rfl))), (List.forall_mem_cons.2 ⟨(show a.tmps.getD 56 undef = .bool false from (hφ 12 (by kernel_rfl))), (List.forall_mem_cons.2 ⟨(show a.tmps.getD 57 undef = .bool false from (hφ 13 (by kernel_rfl))), (List.forall_mem_cons.2 ⟨(show a.tmps.getD 58 undef = .pointer (some ⟨p, 1, none⟩) from (hφ 14 (by kernel_rfl))), (List.forall_mem_cons.2 ⟨(show a.tmps.getD 59 undef = .int .i64 (fr : Nat) from (hφ 15 (by kernel_rfl))), (List.forall_mem_cons.2 ⟨(show a.tmps.getD 60 undef = .bool false from (hφ 16 (by kernel_rfl))), (List.forall_mem_cons.2 ⟨(show a.tmps.getD 61 undef = .bool false from (hφ 17 (by kernel_rfl))), (List.forall_mem_cons.2 ⟨(show a.tmps.getD 62 undef = .bool false from (hφ 18 (by kernel_rfl))), (List.forall_mem_cons.2 ⟨(show a.tmps.getD 63 undef = .pointer (some ⟨p, 1, none⟩) from (hφ 19 (by kernel_rfl))), (List.forall_mem_cons.2 ⟨(show a.tmps.getD 64 undef = .int .i64 (fr : Nat) from (hφ 20 (by kernel_rfl))), (List.forall_mem_cons.2 ⟨(show a.tmps.getD 65 undef = .pointer (some ⟨p, 2, none⟩) from (hφ 21 (by kernel_rfl))), (List.forall_mem_cons.2 ⟨(show a.tmps.getD 66 undef = .int .i64 (kk : Nat) from (hφ 22 (by kernel_rfl))), (List.forall_mem_cons.2 ⟨(show a.tmps.getD 67 undef = .int .i64 (FK : Nat) from (hφ 23 (by kernel_rfl))), (List.forall_mem_cons.2 ⟨(show a.tmps.getD 68 undef = .bool false from (hφ 24 (by kernel_rfl))), (List.forall_mem_cons.2 ⟨(show a.tmps.getD 69 undef = .bool false from (hφ 25 (by kernel_rfl))), (List.forall_mem_cons.2 ⟨(show a.tmps.getD 70 undef = .bool false from (hφ 26 (by kernel_rfl))), (List.forall_mem_cons.2 ⟨(show a.tmps.getD 71 undef = .pointer (some ⟨p, 0, none⟩) from (hφ 27 (by kernel_rfl))), (List.forall_mem_cons.2 ⟨(show a.tmps.getD 72 undef = .int .i64 (pg : Nat) from (hφ 28 (by kernel_rfl))), (List.forall_mem_cons.2 ⟨(show a.tmps.getD 73 undef = .int .i64 (A : Nat) from (hφ 29 (by kernel_rfl))), (List.forall_mem_cons.2 ⟨(show a.tmps.getD 74 undef = .int .i64 (N : Nat) from (hφ 30 (by kernel_rfl))), (List.forall_mem_cons.2 ⟨(show a.tmps.getD 75 undef = .int .i64 (AN : Nat) from (hφ 31 (by kernel_rfl))), (List.forall_mem_cons.2 ⟨(show a.tmps.getD 76 undef = .int .i64 (PP : Nat) from (hφ 32 (by kernel_rfl))), (List.forall_mem_cons.2 ⟨(show a.tmps.getD 77 undef = .bool false from (hφ 33 (by kernel_rfl))), (List.forall_mem_cons.2 ⟨(show a.tmps.getD 78 undef = .bool false from (hφ 34 (by kernel_rfl))), (List.forall_mem_cons.2 ⟨(show a.tmps.getD 79 undef = .bool false from (hφ 35 (by kernel_rfl))), (List.forall_mem_cons.2 ⟨(show a.tmps.getD 80 undef = .int .i64 (jx : Nat) from (hφ 36 (by kernel_rfl))), (List.forall_mem_cons.2 ⟨(show a.tmps.getD 81 undef = .bool false from (hφ 37 (by kernel_rfl))), (List.forall_mem_cons.2 ⟨(show a.tmps.getD 82 undef = .bool false from (hφ 38 (by kernel_rfl))), (List.forall_mem_cons.2 ⟨(show a.tmps.getD 83 undef = undef from (hφ 39 (by kernel_rfl))), (List.forall_mem_cons.2 ⟨(show a.tmps.getD 84 undef = undef from (hφ 40 (by kernel_rfl))), (List.forall_mem_cons.2 ⟨(show a.tmps.getD 85 undef = undef from (hφ 41 (by kernel_rfl))), (List.forall_mem_cons.2 ⟨(show a.tmps.getD 86 undef = undef from (hφ 42 (by kernel_rfl))), (List.forall_mem_cons.2 ⟨(show a.tmps.getD 87 undef = undef from (hφ 43 (by kernel_rfl))), (List.forall_mem_cons.2 ⟨(show a.tmps.getD 88 undef = undef from (hφ 44 (by kernel_rfl))), (List.forall_mem_cons.2 ⟨(show a.tmps.getD 89 undef = undef from (hφ 45 (by kernel_rfl))), (List.forall_mem_cons.2 ⟨(show a.tmps.getD 90 undef = undef from (hφ 46 (by kernel_rfl))), (List.forall_mem_cons.2 ⟨(show a.tmps.getD 91 undef = undef from (hφ 47 (by kernel_rfl))), (List.forall_mem_cons.2 ⟨(show a.tmps.getD 92 undef = undef from (hφ 48 (by kernel_rfl))), (List.forall_mem_cons.2 ⟨(show a.tmps.getD 93 undef = .bool false from (hφ 49 (by kernel_rfl))), (List.forall_mem_cons.2 ⟨(show a.tmps.getD 94 undef = .bool false from (hφ 50 (by kernel_rfl))), (fun _ h => absurd h (by simp))⟩)⟩)⟩)⟩)⟩)⟩)⟩)⟩)⟩)⟩)⟩)⟩)⟩)⟩)⟩)⟩)⟩)⟩)⟩)⟩)⟩)⟩)⟩)⟩)⟩)⟩)⟩)⟩)⟩)⟩)⟩)⟩)⟩)⟩)⟩)⟩)⟩)⟩)⟩)⟩)⟩)⟩)⟩)⟩)⟩)⟩)⟩)⟩)⟩)⟩)⟩) hold
            clear hφ hold hsz hde
            simp only [putAll]
            have c2 := (HKV.out _ hG).2.2
            go_frame
            go_wp2_with fail
            go_roundw
            case rel => exact ⟨jx + 1, by omega, by go_num, by rw [E5.out] <;> exact congrArg _ (by omega), Lib.hid (HBVW.out.trans (hG.mono HBVW.out.size))⟩
            case measure => simp [RowKit.intOf]; omega
        · have HJP : Hid (0 < jx) := Lib.hid (by omega)
          obtain ⟨j1, hj1e⟩ : ∃ j, j = jx - 1 := ⟨_, rfl⟩
          have HJ1 : Hid (IntKind.i64.wrap ((jx : Int) - 1) = (j1 : Int)) := Lib.hid (by rw [i64w_idS _ (by omega)]; omega)
          have hjl : j1 < l.length := by omega
          have HJL : Hid ((j1 : Int) < (l.length : Int)) := Lib.hid (by omega)
          obtain ⟨pp, hpp⟩ : ∃ x, x = A / 16 + j1 := ⟨_, rfl⟩
          have HCJ : Hid (∀ w1, Below V.heap.size V w1 → w1.cell? ⟨B, o + j1 * 3, none⟩ = some (.int .i64 (pp : Int))) := Lib.hid fun w1 hb => by rw [hpp]; exact HCV.out w1 hb j1 hjl
          have HPQ : Hid (IntKind.i64.wrap ((pp : Int) + 1) = (pg : Int)) := Lib.hid (by have := HPGE.out; rw [i64w_idS _ (by omega)]; omega)
          clear hj0 hj1e hpp
          refine region_st (fun j v w' => match j with | 0 => v = .pointer (some ⟨p, 0, none⟩) | 1 => v = .int .i64 (pg : Nat) | 2 => v = .int .i64 (M : Nat) | 3 => v = .pointer (some ⟨p, 1, none⟩) | 4 => v = .int .i64 (fr : Nat) | 5 => v = .int .i64 (pos : Nat) | 6 => v = .int .i64 (pos : Nat) | 7 => v = .bool false | 8 => v = .bool false | 9 => v = .pointer (some ⟨p, 2, none⟩) | 10 => v = .int .i64 (kk : Nat) | 11 => v = .bool false | 12 => v = .bool false | 13 => v = .bool false | 14 => v = .pointer (some ⟨p, 1, none⟩) | 15 => v = .int .i64 (fr : Nat) | 16 => v = .bool false | 17 => v = .bool false | 18 => v = .bool false | 19 => v = .pointer (some ⟨p, 1, none⟩) | 20 => v = .int .i64 (fr : Nat) | 21 => v = .pointer (some ⟨p, 2, none⟩) | 22 => v = .int .i64 (kk : Nat) | 23 => v = .int .i64 (FK : Nat) | 24 => v = .bool false | 25 => v = .bool false | 26 => v = .bool false | 27 => v = .pointer (some ⟨p, 0, none⟩) | 28 => v = .int .i64 (pg : Nat) | 29 => v = .int .i64 (A : Nat) | 30 => v = .int .i64 (N : Nat) | 31 => v = .int .i64 (AN : Nat) | 32 => v = .int .i64 (PP : Nat) | 33 => v = .bool false | 34 => v = .bool false | 35 => v = .bool false | 36 => v = .int .i64 (jx : Nat) | 37 => v = .bool true | 38 => v = .bool true | 39 => v = .pointer (some ⟨p, 0, none⟩) | 40 => v = .int .i64 (pg : Nat) | 41 => v = .slice (some ⟨B, o, none⟩) l.length c | 42 => v = .int .i64 (jx : Nat) | 43 => v = .int .i64 (j1 : Nat) | 44 => v = .pointer (some ⟨B, o + j1 * 3, none⟩) | 45 => v = .pointer (some ⟨B, o + j1 * 3, none⟩) | 46 => v = .int .i64 (pp : Nat) | 47 => v = .int .i64 (pg : Nat) | 48 => v = .bool false | 49 => v = .bool false | 50 => v = .bool false | _ => True) (fun _ w' => Below V.heap.size V w') (fun w1 w2 => Below w1.heap.size w1 w2) (by kernel_rfl) (by kernel_rfl) (by kernel_rfl) ?hR ?hG ?hops ?hend
          case hR =>
            intro j v w1 w2 hv hb
            match j, hv with
            | 0, hv => exact hv
            | 1, hv => exact hv
            | 2, hv => exact hv
            | 3, hv => exact hv
            | 4, hv => exact hv
            | 5, hv => exact hv
            | 6, hv => exact hv
            | 7, hv => exact hv
            | 8, hv => exact hv
            | 9, hv => exact hv
            | 10, hv => exact hv
            | 11, hv => exact hv
            | 12, hv => exact hv
            | 13, hv => exact hv
            | 14, hv => exact hv
            | 15, hv => exact hv
            | 16, hv => exact hv
            | 17, hv => exact hv
            | 18, hv => exact hv
            | 19, hv => exact hv
            | 20, hv => exact hv
            | 21, hv => exact hv
            | 22, hv => exact hv
            | 23, hv => exact hv
            | 24, hv => exact hv
            | 25, hv => exact hv
            | 26, hv => exact hv
            | 27, hv => exact hv
            | 28, hv => exact hv
            | 29, hv => exact hv
            | 30, hv => exact hv
            | 31, hv => exact hv
            | 32, hv => exact hv
            | 33, hv => exact hv
            | 34, hv => exact hv
            | 35, hv => exact hv
            | 36, hv => exact hv
            | 37, hv => exact hv
            | 38, hv => exact hv
            | 39, hv => exact hv
            | 40, hv => exact hv
            | 41, hv => exact hv
            | 42, hv => exact hv
            | 43, hv => exact hv
            | 44, hv => exact hv
            | 45, hv => exact hv
            | 46, hv => exact hv
            | 47, hv => exact hv
            | 48, hv => exact hv
            | 49, hv => exact hv
            | 50, hv => exact hv
            | _ + 51, _ => exact trivial
          case hG => exact (Below.refl _ _).drew
          case hops =>
            refine OpsOkS.cons ?o0 (OpsOkS.cons ?o1 (OpsOkS.cons ?o2 (OpsOkS.cons ?o3 (OpsOkS.cons ?o4 (OpsOkS.cons ?o5 (OpsOkS.cons ?o6 (OpsOkS.cons ?o7 (OpsOkS.cons ?o8 (OpsOkS.cons ?o9 (OpsOkS.cons ?o10 (OpsOkS.cons ?o11 (OpsOkS.cons ?o12 (OpsOkS.cons ?o13 (OpsOkS.cons ?o14 (OpsOkS.cons ?o15 (OpsOkS.cons ?o16 (OpsOkS.cons ?o17 (OpsOkS.cons ?o18 (OpsOkS.cons ?o19 (OpsOkS.cons ?o20 (OpsOkS.cons ?o21 (OpsOkS.cons ?o22 (OpsOkS.cons ?o23 (OpsOkS.cons ?o24 (OpsOkS.cons ?o25 (OpsOkS.cons ?o26 (OpsOkS.cons ?o27 (OpsOkS.cons ?o28 (OpsOkS.cons ?o29 (OpsOkS.cons ?o30 (OpsOkS.cons ?o31 (OpsOkS.cons ?o32 (OpsOkS.cons ?o33 (OpsOkS.cons ?o34 (OpsOkS.cons ?o35 (OpsOkS.cons ?o36 (OpsOkS.cons ?o37 (OpsOkS.cons ?o38 (OpsOkS.cons ?o39 (OpsOkS.cons ?o40 (OpsOkS.cons ?o41 (OpsOkS.cons ?o42 (OpsOkS.cons ?o43 (OpsOkS.cons ?o44 (OpsOkS.cons ?o45 (OpsOkS.cons ?o46 (OpsOkS.cons ?o47 (OpsOkS.cons ?o48 (OpsOkS.cons ?o49 (OpsOkS.cons ?o50 OpsOkS.nil))))))))))))))))))))))))))))))))))))))))))))))))))
            case o0 =>
              intro a w1 Kx hG need old hsz fresh hKx
              have e0 : a.tmps[8]?.getD undef = .pointer (some ⟨p, 0, none⟩) := by rw [← Array.getD_eq_getD_getElem?]; exact old 8 (by kernel_rfl)
              refine op_value (v := .pointer (some ⟨p, 0, none⟩)) (wanted_none rfl) ?_ (hKx _ w1 rfl hG (Below.refl _ _))
              simp [execOp, go_sem, e0]
            case o1 =>
              intro a w1 Kx hG need old hsz fresh hKx
              have e0 : a.tmps[44]?.getD undef = .pointer (some ⟨p, 0, none⟩) := by rw [← Array.getD_eq_getD_getElem?]; exact (need 0 (by kernel_rfl) (by kernel_rfl))
              have k0 := (HKV.out w1 hG).1
              refine op_value (v := .int .i64 (pg : Nat)) (wanted_none rfl) ?_ (hKx _ w1 rfl hG (Below.refl _ _))
              simp [execOp, go_sem, e0, k0]
            case o2 =>
              intro a w1 Kx hG need old hsz fresh hKx
              have e0 : a.tmps[45]?.getD undef = .int .i64 (pg : Nat) := by rw [← Array.getD_eq_getD_getElem?]; exact (need 1 (by kernel_rfl) (by kernel_rfl))
              refine op_value (v := .int .i64 (M : Nat)) (wanted_none rfl) ?_ (hKx _ w1 rfl hG (Below.refl _ _))
              simp [execOp, go_sem, e0, HMW.out]
            case o3 =>
              intro a w1 Kx hG need old hsz fresh hKx
              have e0 : a.tmps[8]?.getD undef = .pointer (some ⟨p, 0, none⟩) := by rw [← Array.getD_eq_getD_getElem?]; exact old 8 (by kernel_rfl)
              refine op_value (v := .pointer (some ⟨p, 1, none⟩)) (wanted_none rfl) ?_ (hKx _ w1 rfl hG (Below.refl _ _))
              simp [execOp, go_sem, e0]
            case o4 =>
              intro a w1 Kx hG need old hsz fresh hKx
              have e0 : a.tmps[47]?.getD undef = .pointer (some ⟨p, 1, none⟩) := by rw [← Array.getD_eq_getD_getElem?]; exact (need 3 (by kernel_rfl) (by kernel_rfl))
              have k0 := (HKV.out w1 hG).2.1
              refine op_value (v := .int .i64 (fr : Nat)) (wanted_none rfl) ?_ (hKx _ w1 rfl hG (Below.refl _ _))
              simp [execOp, go_sem, e0, k0]
            case o5 =>
              intro a w1 Kx hG need old hsz fresh hKx
              have e0 : a.tmps[46]?.getD undef = .int .i64 (M : Nat) := by rw [← Array.getD_eq_getD_getElem?]; exact (need 2 (by kernel_rfl) (by kernel_rfl))
              have e1 : a.tmps[48]?.getD undef = .int .i64 (fr : Nat) := by rw [← Array.getD_eq_getD_getElem?]; exact (need 4 (by kernel_rfl) (by kernel_rfl))
              refine op_value (v := .int .i64 (pos : Nat)) (wanted_none rfl) ?_ (hKx _ w1 rfl hG (Below.refl _ _))
              simp [execOp, go_sem, e0, e1, HHW.out]
            case o6 =>
              intro a w1 Kx hG need old hsz fresh hKx
              have e0 : a.tmps[6]?.getD undef = .int .i64 (pos : Nat) := by rw [← Array.getD_eq_getD_getElem?]; exact old 6 (by kernel_rfl)
              refine op_value (v := .int .i64 (pos : Nat)) (wanted_none rfl) ?_ (hKx _ w1 rfl hG (Below.refl _ _))
              simp [execOp, go_sem, e0]
            case o7 =>
              intro a w1 Kx hG need old hsz fresh hKx
              have e0 : a.tmps[49]?.getD undef = .int .i64 (pos : Nat) := by rw [← Array.getD_eq_getD_getElem?]; exact (need 5 (by kernel_rfl) (by kernel_rfl))
              have e1 : a.tmps[50]?.getD undef = .int .i64 (pos : Nat) := by rw [← Array.getD_eq_getD_getElem?]; exact (need 6 (by kernel_rfl) (by kernel_rfl))
              refine op_value (v := .bool false) (wanted_none rfl) ?_ (hKx _ w1 rfl hG (Below.refl _ _))
              simp [execOp, go_sem, e0, e1]
            case o8 =>
              intro a w1 Kx hG need old hsz fresh hKx
              have e0 : a.tmps[51]?.getD undef = .bool false := by rw [← Array.getD_eq_getD_getElem?]; exact (need 7 (by kernel_rfl) (by kernel_rfl))
              refine op_value (v := .bool false) (wanted_none rfl) ?_ (hKx _ w1 rfl hG (Below.refl _ _))
              simp [execOp, go_sem, e0]
            case o9 =>
              intro a w1 Kx hG need old hsz fresh hKx
              have e0 : a.tmps[8]?.getD undef = .pointer (some ⟨p, 0, none⟩) := by rw [← Array.getD_eq_getD_getElem?]; exact old 8 (by kernel_rfl)
              refine op_value (v := .pointer (some ⟨p, 2, none⟩)) (wanted_of (j := 8) rfl (need 8 (by kernel_rfl) (by kernel_rfl))) ?_ (hKx _ w1 rfl hG (Below.refl _ _))
              simp [execOp, go_sem, e0]
            case o10 =>
              intro a w1 Kx hG need old hsz fresh hKx
              have e0 : a.tmps[53]?.getD undef = .pointer (some ⟨p, 2, none⟩) := by rw [← Array.getD_eq_getD_getElem?]; exact (need 9 (by kernel_rfl) (by kernel_rfl))
              have k0 := (HKV.out w1 hG).2.2
              refine op_value (v := .int .i64 (kk : Nat)) (wanted_of (j := 8) rfl (need 8 (by kernel_rfl) (by kernel_rfl))) ?_ (hKx _ w1 rfl hG (Below.refl _ _))
              simp [execOp, go_sem, e0, k0]
            case o11 =>
              intro a w1 Kx hG need old hsz fresh hKx
              have e0 : a.tmps[54]?.getD undef = .int .i64 (kk : Nat) := by rw [← Array.getD_eq_getD_getElem?]; exact (need 10 (by kernel_rfl) (by kernel_rfl))
              refine op_value (v := .bool false) (wanted_of (j := 8) rfl (need 8 (by kernel_rfl) (by kernel_rfl))) ?_ (hKx _ w1 rfl hG (Below.refl _ _))
              simp [execOp, go_sem, e0] <;> (have := HPJ.out; have := HFK2.out; omega)
            case o12 =>
              intro a w1 Kx hG need old hsz fresh hKx
              have e0 : a.tmps[52]?.getD undef = .bool false := by rw [← Array.getD_eq_getD_getElem?]; exact (need 8 (by kernel_rfl) (by kernel_rfl))
              have e1 : a.tmps[55]?.getD undef = .bool false := by rw [← Array.getD_eq_getD_getElem?]; exact (need 11 (by kernel_rfl) (by kernel_rfl))
              refine op_value (v := .bool false) (wanted_none rfl) ?_ (hKx _ w1 rfl hG (Below.refl _ _))
              simp [execOp, go_sem, asBool, e0, e1]
            case o13 =>
              intro a w1 Kx hG need old hsz fresh hKx
              have e0 : a.tmps[56]?.getD undef = .bool false := by rw [← Array.getD_eq_getD_getElem?]; exact (need 12 (by kernel_rfl) (by kernel_rfl))
              refine op_value (v := .bool false) (wanted_none rfl) ?_ (hKx _ w1 rfl hG (Below.refl _ _))
              simp [execOp, go_sem, e0]
            case o14 =>
              intro a w1 Kx hG need old hsz fresh hKx
              have e0 : a.tmps[8]?.getD undef = .pointer (some ⟨p, 0, none⟩) := by rw [← Array.getD_eq_getD_getElem?]; exact old 8 (by kernel_rfl)
              refine op_value (v := .pointer (some ⟨p, 1, none⟩)) (wanted_of (j := 13) rfl (need 13 (by kernel_rfl) (by kernel_rfl))) ?_ (hKx _ w1 rfl hG (Below.refl _ _))
              simp [execOp, go_sem, e0]
            case o15 =>
              intro a w1 Kx hG need old hsz fresh hKx
              have e0 : a.tmps[58]?.getD undef = .pointer (some ⟨p, 1, none⟩) := by rw [← Array.getD_eq_getD_getElem?]; exact (need 14 (by kernel_rfl) (by kernel_rfl))
              have k0 := (HKV.out w1 hG).2.1
              refine op_value (v := .int .i64 (fr : Nat)) (wanted_of (j := 13) rfl (need 13 (by kernel_rfl) (by kernel_rfl))) ?_ (hKx _ w1 rfl hG (Below.refl _ _))
              simp [execOp, go_sem, e0, k0]
            case o16 =>
              intro a w1 Kx hG need old hsz fresh hKx
              have e0 : a.tmps[59]?.getD undef = .int .i64 (fr : Nat) := by rw [← Array.getD_eq_getD_getElem?]; exact (need 15 (by kernel_rfl) (by kernel_rfl))
              refine op_value (v := .bool false) (wanted_of (j := 13) rfl (need 13 (by kernel_rfl) (by kernel_rfl))) ?_ (hKx _ w1 rfl hG (Below.refl _ _))
              simp [execOp, go_sem, e0]
            case o17 =>
              intro a w1 Kx hG need old hsz fresh hKx
              have e0 : a.tmps[57]?.getD undef = .bool false := by rw [← Array.getD_eq_getD_getElem?]; exact (need 13 (by kernel_rfl) (by kernel_rfl))
              have e1 : a.tmps[60]?.getD undef = .bool false := by rw [← Array.getD_eq_getD_getElem?]; exact (need 16 (by kernel_rfl) (by kernel_rfl))
              refine op_value (v := .bool false) (wanted_none rfl) ?_ (hKx _ w1 rfl hG (Below.refl _ _))
              simp [execOp, go_sem, asBool, e0, e1]
            case o18 =>
              intro a w1 Kx hG need old hsz fresh hKx
              have e0 : a.tmps[61]?.getD undef = .bool false := by rw [← Array.getD_eq_getD_getElem?]; exact (need 17 (by kernel_rfl) (by kernel_rfl))
              refine op_value (v := .bool false) (wanted_none rfl) ?_ (hKx _ w1 rfl hG (Below.refl _ _))
              simp [execOp, go_sem, e0]
            case o19 =>
              intro a w1 Kx hG need old hsz fresh hKx
              have e0 : a.tmps[8]?.getD undef = .pointer (some ⟨p, 0, none⟩) := by rw [← Array.getD_eq_getD_getElem?]; exact old 8 (by kernel_rfl)
              refine op_value (v := .pointer (some ⟨p, 1, none⟩)) (wanted_of (j := 18) rfl (need 18 (by kernel_rfl) (by kernel_rfl))) ?_ (hKx _ w1 rfl hG (Below.refl _ _))
              simp [execOp, go_sem, e0]
            case o20 =>
              intro a w1 Kx hG need old hsz fresh hKx
              have e0 : a.tmps[63]?.getD undef = .pointer (some ⟨p, 1, none⟩) := by rw [← Array.getD_eq_getD_getElem?]; exact (need 19 (by kernel_rfl) (by kernel_rfl))
              have k0 := (HKV.out w1 hG).2.1
              refine op_value (v := .int .i64 (fr : Nat)) (wanted_of (j := 18) rfl (need 18 (by kernel_rfl) (by kernel_rfl))) ?_ (hKx _ w1 rfl hG (Below.refl _ _))
              simp [execOp, go_sem, e0, k0]
            case o21 =>
              intro a w1 Kx hG need old hsz fresh hKx
              have e0 : a.tmps[8]?.getD undef = .pointer (some ⟨p, 0, none⟩) := by rw [← Array.getD_eq_getD_getElem?]; exact old 8 (by kernel_rfl)
              refine op_value (v := .pointer (some ⟨p, 2, none⟩)) (wanted_of (j := 18) rfl (need 18 (by kernel_rfl) (by kernel_rfl))) ?_ (hKx _ w1 rfl hG (Below.refl _ _))
              simp [execOp, go_sem, e0]
            case o22 =>
              intro a w1 Kx hG need old hsz fresh hKx
              have e0 : a.tmps[65]?.getD undef = .pointer (some ⟨p, 2, none⟩) := by rw [← Array.getD_eq_getD_getElem?]; exact (need 21 (by kernel_rfl) (by kernel_rfl))
              have k0 := (HKV.out w1 hG).2.2
              refine op_value (v := .int .i64 (kk : Nat)) (wanted_of (j := 18) rfl (need 18 (by kernel_rfl) (by kernel_rfl))) ?_ (hKx _ w1 rfl hG (Below.refl _ _))
              simp [execOp, go_sem, e0, k0]
            case o23 =>
              intro a w1 Kx hG need old hsz fresh hKx
              have e0 : a.tmps[64]?.getD undef = .int .i64 (fr : Nat) := by rw [← Array.getD_eq_getD_getElem?]; exact (need 20 (by kernel_rfl) (by kernel_rfl))
              have e1 : a.tmps[66]?.getD undef = .int .i64 (kk : Nat) := by rw [← Array.getD_eq_getD_getElem?]; exact (need 22 (by kernel_rfl) (by kernel_rfl))
              refine op_value (v := .int .i64 (FK : Nat)) (wanted_of (j := 18) rfl (need 18 (by kernel_rfl) (by kernel_rfl))) ?_ (hKx _ w1 rfl hG (Below.refl _ _))
              simp [execOp, go_sem, e0, e1, HFK.out]
            case o24 =>
              intro a w1 Kx hG need old hsz fresh hKx
              have e0 : a.tmps[67]?.getD undef = .int .i64 (FK : Nat) := by rw [← Array.getD_eq_getD_getElem?]; exact (need 23 (by kernel_rfl) (by kernel_rfl))
              refine op_value (v := .bool false) (wanted_of (j := 18) rfl (need 18 (by kernel_rfl) (by kernel_rfl))) ?_ (hKx _ w1 rfl hG (Below.refl _ _))
              simp [execOp, go_sem, e0] <;> (have := HPJ.out; have := HFK2.out; omega)
            case o25 =>
              intro a w1 Kx hG need old hsz fresh hKx
              have e0 : a.tmps[62]?.getD undef = .bool false := by rw [← Array.getD_eq_getD_getElem?]; exact (need 18 (by kernel_rfl) (by kernel_rfl))
              have e1 : a.tmps[68]?.getD undef = .bool false := by rw [← Array.getD_eq_getD_getElem?]; exact (need 24 (by kernel_rfl) (by kernel_rfl))
              refine op_value (v := .bool false) (wanted_none rfl) ?_ (hKx _ w1 rfl hG (Below.refl _ _))
              simp [execOp, go_sem, asBool, e0, e1]
            case o26 =>
              intro a w1 Kx hG need old hsz fresh hKx
              have e0 : a.tmps[69]?.getD undef = .bool false := by rw [← Array.getD_eq_getD_getElem?]; exact (need 25 (by kernel_rfl) (by kernel_rfl))
              refine op_value (v := .bool false) (wanted_none rfl) ?_ (hKx _ w1 rfl hG (Below.refl _ _))
              simp [execOp, go_sem, e0]
            case o27 =>
              intro a w1 Kx hG need old hsz fresh hKx
              have e0 : a.tmps[8]?.getD undef = .pointer (some ⟨p, 0, none⟩) := by rw [← Array.getD_eq_getD_getElem?]; exact old 8 (by kernel_rfl)
              refine op_value (v := .pointer (some ⟨p, 0, none⟩)) (wanted_of (j := 26) rfl (need 26 (by kernel_rfl) (by kernel_rfl))) ?_ (hKx _ w1 rfl hG (Below.refl _ _))
              simp [execOp, go_sem, e0]
            case o28 =>
              intro a w1 Kx hG need old hsz fresh hKx
              have e0 : a.tmps[71]?.getD undef = .pointer (some ⟨p, 0, none⟩) := by rw [← Array.getD_eq_getD_getElem?]; exact (need 27 (by kernel_rfl) (by kernel_rfl))
              have k0 := (HKV.out w1 hG).1
              refine op_value (v := .int .i64 (pg : Nat)) (wanted_of (j := 26) rfl (need 26 (by kernel_rfl) (by kernel_rfl))) ?_ (hKx _ w1 rfl hG (Below.refl _ _))
              simp [execOp, go_sem, e0, k0]
            case o29 =>
              intro a w1 Kx hG need old hsz fresh hKx
              have e0 : a.tmps[0]?.getD undef = .int .i64 (A : Nat) := by rw [← Array.getD_eq_getD_getElem?]; exact old 0 (by kernel_rfl)
              refine op_value (v := .int .i64 (A : Nat)) (wanted_of (j := 26) rfl (need 26 (by kernel_rfl) (by kernel_rfl))) ?_ (hKx _ w1 rfl hG (Below.refl _ _))
              simp [execOp, go_sem, e0]
            case o30 =>
              intro a w1 Kx hG need old hsz fresh hKx
              have e0 : a.tmps[1]?.getD undef = .int .i64 (N : Nat) := by rw [← Array.getD_eq_getD_getElem?]; exact old 1 (by kernel_rfl)
              refine op_value (v := .int .i64 (N : Nat)) (wanted_of (j := 26) rfl (need 26 (by kernel_rfl) (by kernel_rfl))) ?_ (hKx _ w1 rfl hG (Below.refl _ _))
              simp [execOp, go_sem, e0]
            case o31 =>
              intro a w1 Kx hG need old hsz fresh hKx
              have e0 : a.tmps[73]?.getD undef = .int .i64 (A : Nat) := by rw [← Array.getD_eq_getD_getElem?]; exact (need 29 (by kernel_rfl) (by kernel_rfl))
              have e1 : a.tmps[74]?.getD undef = .int .i64 (N : Nat) := by rw [← Array.getD_eq_getD_getElem?]; exact (need 30 (by kernel_rfl) (by kernel_rfl))
              refine op_value (v := .int .i64 (AN : Nat)) (wanted_of (j := 26) rfl (need 26 (by kernel_rfl) (by kernel_rfl))) ?_ (hKx _ w1 rfl hG (Below.refl _ _))
              simp [execOp, go_sem, e0, e1, HAN.out]
            case o32 =>
              intro a w1 Kx hG need old hsz fresh hKx
              have e0 : a.tmps[75]?.getD undef = .int .i64 (AN : Nat) := by rw [← Array.getD_eq_getD_getElem?]; exact (need 31 (by kernel_rfl) (by kernel_rfl))
              refine op_call (wanted_of (j := 26) rfl (need 26 (by kernel_rfl) (by kernel_rfl))) (f := 10) (args := #[.int .i64 (AN : Nat)]) ?run ((HPP.out w1).mono ?post)
              case run => simp [go_sem, e0]
              case post =>
                rintro e w2 ⟨rfl, hb2⟩
                exact ⟨_, rfl, hKx _ w2 rfl (hG.trans (hb2.mono hG.size)) hb2⟩
            case o33 =>
              intro a w1 Kx hG need old hsz fresh hKx
              have e0 : a.tmps[72]?.getD undef = .int .i64 (pg : Nat) := by rw [← Array.getD_eq_getD_getElem?]; exact (need 28 (by kernel_rfl) (by kernel_rfl))
              have e1 : a.tmps[76]?.getD undef = .int .i64 (PP : Nat) := by rw [← Array.getD_eq_getD_getElem?]; exact (need 32 (by kernel_rfl) (by kernel_rfl))
              refine op_value (v := .bool false) (wanted_of (j := 26) rfl (need 26 (by kernel_rfl) (by kernel_rfl))) ?_ (hKx _ w1 rfl hG (Below.refl _ _))
              simp [execOp, go_sem, e0, e1] <;> (have := HPJ.out; have := HFK2.out; omega)
            case o34 =>
              intro a w1 Kx hG need old hsz fresh hKx
              have e0 : a.tmps[70]?.getD undef = .bool false := by rw [← Array.getD_eq_getD_getElem?]; exact (need 26 (by kernel_rfl) (by kernel_rfl))
              have e1 : a.tmps[77]?.getD undef = .bool false := by rw [← Array.getD_eq_getD_getElem?]; exact (need 33 (by kernel_rfl) (by kernel_rfl))
              refine op_value (v := .bool false) (wanted_none rfl) ?_ (hKx _ w1 rfl hG (Below.refl _ _))
              simp [execOp, go_sem, asBool, e0, e1]
            case o35 =>
              intro a w1 Kx hG need old hsz fresh hKx
              have e0 : a.tmps[78]?.getD undef = .bool false := by rw [← Array.getD_eq_getD_getElem?]; exact (need 34 (by kernel_rfl) (by kernel_rfl))
              refine op_value (v := .bool false) (wanted_none rfl) ?_ (hKx _ w1 rfl hG (Below.refl _ _))
              simp [execOp, go_sem, e0]
            case o36 =>
              intro a w1 Kx hG need old hsz fresh hKx
              have e0 : a.tmps[7]?.getD undef = .int .i64 (jx : Nat) := by rw [← Array.getD_eq_getD_getElem?]; exact old 7 (by kernel_rfl)
              refine op_value (v := .int .i64 (jx : Nat)) (wanted_of (j := 35) rfl (need 35 (by kernel_rfl) (by kernel_rfl))) ?_ (hKx _ w1 rfl hG (Below.refl _ _))
              simp [execOp, go_sem, e0]
            case o37 =>
              intro a w1 Kx hG need old hsz fresh hKx
              have e0 : a.tmps[80]?.getD undef = .int .i64 (jx : Nat) := by rw [← Array.getD_eq_getD_getElem?]; exact (need 36 (by kernel_rfl) (by kernel_rfl))
              refine op_value (v := .bool true) (wanted_of (j := 35) rfl (need 35 (by kernel_rfl) (by kernel_rfl))) ?_ (hKx _ w1 rfl hG (Below.refl _ _))
              simp [execOp, go_sem, e0] <;> (have := HJP.out; omega)
            case o38 =>
              intro a w1 Kx hG need old hsz fresh hKx
              have e0 : a.tmps[81]?.getD undef = .bool true := by rw [← Array.getD_eq_getD_getElem?]; exact (need 37 (by kernel_rfl) (by kernel_rfl))
              refine op_value (v := .bool true) (wanted_of (j := 35) rfl (need 35 (by kernel_rfl) (by kernel_rfl))) ?_ (hKx _ w1 rfl hG (Below.refl _ _))
              simp [execOp, go_sem, e0]
            case o39 =>
              intro a w1 Kx hG need old hsz fresh hKx
              have e0 : a.tmps[8]?.getD undef = .pointer (some ⟨p, 0, none⟩) := by rw [← Array.getD_eq_getD_getElem?]; exact old 8 (by kernel_rfl)
              refine op_value (v := .pointer (some ⟨p, 0, none⟩)) (wanted_of (j := 38) rfl (need 38 (by kernel_rfl) (by kernel_rfl))) ?_ (hKx _ w1 rfl hG (Below.refl _ _))
              simp [execOp, go_sem, e0]
            case o40 =>
              intro a w1 Kx hG need old hsz fresh hKx
              have e0 : a.tmps[83]?.getD undef = .pointer (some ⟨p, 0, none⟩) := by rw [← Array.getD_eq_getD_getElem?]; exact (need 39 (by kernel_rfl) (by kernel_rfl))
              have k0 := (HKV.out w1 hG).1
              refine op_value (v := .int .i64 (pg : Nat)) (wanted_of (j := 38) rfl (need 38 (by kernel_rfl) (by kernel_rfl))) ?_ (hKx _ w1 rfl hG (Below.refl _ _))
              simp [execOp, go_sem, e0, k0]
            case o41 =>
              intro a w1 Kx hG need old hsz fresh hKx
              have e0 : a.tmps[5]?.getD undef = .slice (some ⟨B, o, none⟩) l.length c := by rw [← Array.getD_eq_getD_getElem?]; exact old 5 (by kernel_rfl)
              refine op_value (v := .slice (some ⟨B, o, none⟩) l.length c) (wanted_of (j := 38) rfl (need 38 (by kernel_rfl) (by kernel_rfl))) ?_ (hKx _ w1 rfl hG (Below.refl _ _))
              simp [execOp, go_sem, e0]
            case o42 =>
              intro a w1 Kx hG need old hsz fresh hKx
              have e0 : a.tmps[7]?.getD undef = .int .i64 (jx : Nat) := by rw [← Array.getD_eq_getD_getElem?]; exact old 7 (by kernel_rfl)
              refine op_value (v := .int .i64 (jx : Nat)) (wanted_of (j := 38) rfl (need 38 (by kernel_rfl) (by kernel_rfl))) ?_ (hKx _ w1 rfl hG (Below.refl _ _))
              simp [execOp, go_sem, e0]
            case o43 =>
              intro a w1 Kx hG need old hsz fresh hKx
              have e0 : a.tmps[86]?.getD undef = .int .i64 (jx : Nat) := by rw [← Array.getD_eq_getD_getElem?]; exact (need 42 (by kernel_rfl) (by kernel_rfl))
              refine op_value (v := .int .i64 (j1 : Nat)) (wanted_of (j := 38) rfl (need 38 (by kernel_rfl) (by kernel_rfl))) ?_ (hKx _ w1 rfl hG (Below.refl _ _))
              simp [execOp, go_sem, e0, HJ1.out]
            case o44 =>
              intro a w1 Kx hG need old hsz fresh hKx
              have e0 : a.tmps[85]?.getD undef = .slice (some ⟨B, o, none⟩) l.length c := by rw [← Array.getD_eq_getD_getElem?]; exact (need 41 (by kernel_rfl) (by kernel_rfl))
              have e1 : a.tmps[87]?.getD undef = .int .i64 (j1 : Nat) := by rw [← Array.getD_eq_getD_getElem?]; exact (need 43 (by kernel_rfl) (by kernel_rfl))
              refine op_value (v := .pointer (some ⟨B, o + j1 * 3, none⟩)) (wanted_of (j := 38) rfl (need 38 (by kernel_rfl) (by kernel_rfl))) ?_ (hKx _ w1 rfl hG (Below.refl _ _))
              simp [execOp, go_sem, e0, e1, HJL.out] <;> (have := HJL.out; omega)
            case o45 =>
              intro a w1 Kx hG need old hsz fresh hKx
              have e0 : a.tmps[88]?.getD undef = .pointer (some ⟨B, o + j1 * 3, none⟩) := by rw [← Array.getD_eq_getD_getElem?]; exact (need 44 (by kernel_rfl) (by kernel_rfl))
              refine op_value (v := .pointer (some ⟨B, o + j1 * 3, none⟩)) (wanted_of (j := 38) rfl (need 38 (by kernel_rfl) (by kernel_rfl))) ?_ (hKx _ w1 rfl hG (Below.refl _ _))
              simp [execOp, go_sem, e0]
            case o46 =>
              intro a w1 Kx hG need old hsz fresh hKx
              have e0 : a.tmps[89]?.getD undef = .pointer (some ⟨B, o + j1 * 3, none⟩) := by rw [← Array.getD_eq_getD_getElem?]; exact (need 45 (by kernel_rfl) (by kernel_rfl))
              have k0 := HCJ.out w1 hG
              refine op_value (v := .int .i64 (pp : Nat)) (wanted_of (j := 38) rfl (need 38 (by kernel_rfl) (by kernel_rfl))) ?_ (hKx _ w1 rfl hG (Below.refl _ _))
              simp [execOp, go_sem, e0, k0]
            case o47 =>
              intro a w1 Kx hG need old hsz fresh hKx
              have e0 : a.tmps[90]?.getD undef = .int .i64 (pp : Nat) := by rw [← Array.getD_eq_getD_getElem?]; exact (need 46 (by kernel_rfl) (by kernel_rfl))
              refine op_value (v := .int .i64 (pg : Nat)) (wanted_of (j := 38) rfl (need 38 (by kernel_rfl) (by kernel_rfl))) ?_ (hKx _ w1 rfl hG (Below.refl _ _))
              simp [execOp, go_sem, e0, HPQ.out]
            case o48 =>
              intro a w1 Kx hG need old hsz fresh hKx
              have e0 : a.tmps[84]?.getD undef = .int .i64 (pg : Nat) := by rw [← Array.getD_eq_getD_getElem?]; exact (need 40 (by kernel_rfl) (by kernel_rfl))
              have e1 : a.tmps[91]?.getD undef = .int .i64 (pg : Nat) := by rw [← Array.getD_eq_getD_getElem?]; exact (need 47 (by kernel_rfl) (by kernel_rfl))
              refine op_value (v := .bool false) (wanted_of (j := 38) rfl (need 38 (by kernel_rfl) (by kernel_rfl))) ?_ (hKx _ w1 rfl hG (Below.refl _ _))
              simp [execOp, go_sem, e0, e1]
            case o49 =>
              intro a w1 Kx hG need old hsz fresh hKx
              have e0 : a.tmps[82]?.getD undef = .bool true := by rw [← Array.getD_eq_getD_getElem?]; exact (need 38 (by kernel_rfl) (by kernel_rfl))
              have e1 : a.tmps[92]?.getD undef = .bool false := by rw [← Array.getD_eq_getD_getElem?]; exact (need 48 (by kernel_rfl) (by kernel_rfl))
              refine op_value (v := .bool false) (wanted_of (j := 35) rfl (need 35 (by kernel_rfl) (by kernel_rfl))) ?_ (hKx _ w1 rfl hG (Below.refl _ _))
              simp [execOp, go_sem, asBool, e0, e1]
            case o50 =>
              intro a w1 Kx hG need old hsz fresh hKx
              have e0 : a.tmps[79]?.getD undef = .bool false := by rw [← Array.getD_eq_getD_getElem?]; exact (need 35 (by kernel_rfl) (by kernel_rfl))
              have e1 : a.tmps[93]?.getD undef = .bool false := by rw [← Array.getD_eq_getD_getElem?]; exact (need 49 (by kernel_rfl) (by kernel_rfl))
              refine op_value (v := .bool false) (wanted_none rfl) ?_ (hKx _ w1 rfl hG (Below.refl _ _))
              simp [execOp, go_sem, asBool, e0, e1]
          case hend =>
            intro a w6 hG hde hsz hφ hold
            obtain rfl := act_puts [(44, .pointer (some ⟨p, 0, none⟩)), (45, .int .i64 (pg : Nat)), (46, .int .i64 (M : Nat)), (47, .pointer (some ⟨p, 1, none⟩)), (48, .int .i64 (fr : Nat)), (49, .int .i64 (pos : Nat)), (50, .int .i64 (pos : Nat)), (51, .bool false), (52, .bool false), (53, .pointer (some ⟨p, 2, none⟩)), (54, .int .i64 (kk : Nat)), (55, .bool false), (56, .bool false), (57, .bool false), (58, .pointer (some ⟨p, 1, none⟩)), (59, .int .i64 (fr : Nat)), (60, .bool false), (61, .bool false), (62, .bool false), (63, .pointer (some ⟨p, 1, none⟩)), (64, .int .i64 (fr : Nat)), (65, .pointer (some ⟨p, 2, none⟩)), (66, .int .i64 (kk : Nat)), (67, .int .i64 (FK : Nat)), (68, .bool false), (69, .bool false), (70, .bool false), (71, .pointer (some ⟨p, 0, none⟩)), (72, .int .i64 (pg : Nat)), (73, .int .i64 (A : Nat)), (74, .int .i64 (N : Nat)), (75, .int .i64 (AN : Nat)), (76, .int .i64 (PP : Nat)), (77, .bool false), (78, .bool false), (79, .bool false), (80, .int .i64 (jx : Nat)), (81, .bool true), (82, .bool true), (83, .pointer (some ⟨p, 0, none⟩)), (84, .int .i64 (pg : Nat)), (85, .slice (some ⟨B, o, none⟩) l.length c), (86, .int .i64 (jx : Nat)), (87, .int .i64 (j1 : Nat)), (88, .pointer (some ⟨B, o + j1 * 3, none⟩)), (89, .pointer (some ⟨B, o + j1 * 3, none⟩)), (90, .int .i64 (pp : Nat)), (91, .int .i64 (pg : Nat)), (92, .bool false), (93, .bool false), (94, .bool false)] [44, 45, 46, 47, 48, 49, 50, 51, 52, 53, 54, 55, 56, 57, 58, 59, 60, 61, 62, 63, 64, 65, 66, 67, 68, 69, 70, 71, 72, 73, 74, 75, 76, 77, 78, 79, 80, 81, 82, 83, 84, 85, 86, 87, 88, 89, 90, 91, 92, 93, 94] rfl (by kernel_rfl) (by kernel_rfl) hde hsz (List.forall_mem_cons.2 ⟨(show a.tmps.getD 44 undef = .pointer (some ⟨p, 0, none⟩) from (hφ 0 (by kernel_rfl))), (List.forall_mem_cons.2 ⟨(show a.tmps.getD 45 undef = .int .i64 (pg : Nat) from (hφ 1 (by kernel_rfl))), (List.forall_mem_cons.2 ⟨(show a.tmps.getD 46 undef = .int .i64 (M : Nat) from (hφ 2 (by kernel_rfl))), (List.forall_mem_cons.2 ⟨(show a.tmps.getD 47 undef = .pointer (some ⟨p, 1, none⟩) from (hφ 3 (by kernel_rfl))), (List.forall_mem_cons.2 ⟨(show a.tmps.getD 48 undef = .int .i64 (fr : Nat) from (hφ 4 (by kernel_rfl))), (List.forall_mem_cons.2 ⟨(show a.tmps.getD 49 undef = .int .i64 (pos : Nat) from (hφ 5 (by kernel_rfl))), (List.forall_mem_cons.2 ⟨(show a.tmps.getD 50 undef = .int .i64 (pos : Nat) from (hφ 6 (by kernel_rfl))), (List.forall_mem_cons.2 ⟨(show a.tmps.getD 51 undef = .bool false from (hφ 7 (by kernel_rfl))), (List.forall_mem_cons.2 ⟨(show a.tmps.getD 52 undef = .bool false from (hφ 8 (by kernel_rfl))), (List.forall_mem_cons.2 ⟨(show a.tmps.getD 53 undef = .pointer (some ⟨p, 2, none⟩) from (hφ 9 (by kernel_rfl))), (List.forall_mem_cons.2 ⟨(show a.tmps.getD 54 undef = .int .i64 (kk : Nat) from (hφ 10 (by kernel_rfl))), (List.forall_mem_cons.2 ⟨(show a.tmps.getD 55 undef = .bool false from (hφ 11 (by kernel_rfl))), (List.forall_mem_cons.2 ⟨(show a.tmps.getD 56 undef = .bool false from (hφ 12 (by kernel_rfl))), (List.forall_mem_cons.2 ⟨(show a.tmps.getD 57 undef = .bool false from (hφ 13 (by kernel_rfl))), (List.forall_mem_cons.2 ⟨(show a.tmps.getD 58 undef = .pointer (some ⟨p, 1, none⟩) from (hφ 14 (by kernel_rfl))), (List.forall_mem_cons.2 ⟨(show a.tmps.getD 59 undef = .int .i64 (fr : Nat) from (hφ 15 (by kernel_rfl))), (List.forall_mem_cons.2 ⟨(show a.tmps.getD 60 undef = .bool false from (hφ 16 (by kernel_rfl))), (List.forall_mem_cons.2 ⟨(show a.tmps.getD 61 undef = .bool false from (hφ 17 (by kernel_rfl))), (List.forall_mem_cons.2 ⟨(show a.tmps.getD 62 undef = .bool false from (hφ 18 (by kernel_rfl))), (List.forall_mem_cons.2 ⟨(show a.tmps.getD 63 undef = .pointer (some ⟨p, 1, none⟩) from (hφ 19 (by kernel_rfl))), (List.forall_mem_cons.2 ⟨(show a.tmps.getD 64 undef = .int .i64 (fr : Nat) from (hφ 20 (by kernel_rfl))), (List.forall_mem_cons.2 ⟨(show a.tmps.getD 65 undef = .pointer (some ⟨p, 2, none⟩) from (hφ 21 (by kernel_rfl))), (List.forall_mem_cons.2 ⟨(show a.tmps.getD 66 undef = .int .i64 (kk : Nat) from (hφ 22 (by kernel_rfl))), (List.forall_mem_cons.2 ⟨(show a.tmps.getD 67 undef = .int .i64 (FK : Nat) from (hφ 23 (by kernel_rfl))), (List.forall_mem_cons.2 ⟨(show a.tmps.getD 68 undef = .bool false from (hφ 24 (by kernel_rfl))), (List.forall_mem_cons.2 ⟨(show a.tmps.getD 69 undef = .bool false from (hφ 25 (by kernel_rfl))), (List.forall_mem_cons.2 ⟨(show a.tmps.getD 70 undef = .bool false from (hφ 26 (by kernel_rfl))), (List.forall_mem_cons.2 ⟨(show a.tmps.getD 71 undef = .pointer (some ⟨p, 0, none⟩) from (hφ 27 (by kernel_rfl))), (List.forall_mem_cons.2 ⟨(show a.tmps.getD 72 undef = .int .i64 (pg : Nat) from (hφ 28 (by kernel_rfl))), (List.forall_mem_cons.2 ⟨(show a.tmps.getD 73 undef = .int .i64 (A : Nat) from (hφ 29 (by kernel_rfl))), (List.forall_mem_cons.2 ⟨(show a.tmps.getD 74 undef = .int .i64 (N : Nat) from (hφ 30 (by kernel_rfl))), (List.forall_mem_cons.2 ⟨(show a.tmps.getD 75 undef = .int .i64 (AN : Nat) from (hφ 31 (by kernel_rfl))), (List.forall_mem_cons.2 ⟨(show a.tmps.getD 76 undef = .int .i64 (PP : Nat) from (hφ 32 (by kernel_rfl))), (List.forall_mem_cons.2 ⟨(show a.tmps.getD 77 undef = .bool false from (hφ 33 (by kernel_rfl))), (List.forall_mem_cons.2 ⟨(show a.tmps.getD 78 undef = .bool false from (hφ 34 (by kernel_rfl))), (List.forall_mem_cons.2 ⟨(show a.tmps.getD 79 undef = .bool false from (hφ 35 (by kernel_rfl))), (List.forall_mem_cons.2 ⟨(show a.tmps.getD 80 undef = .int .i64 (jx : Nat) from (hφ 36 (by kernel_rfl))), (List.forall_mem_cons.2 ⟨(show a.tmps.getD 81 undef = .bool true from (hφ 37 (by kernel_rfl))), (List.forall_mem_cons.2 ⟨(show a.tmps.getD 82 undef = .bool true from (hφ 38 (by kernel_rfl))), (List.forall_mem_cons.2 ⟨(show a.tmps.getD 83 undef = .pointer (some ⟨p, 0, none⟩) from (hφ 39 (by kernel_rfl))), (List.forall_mem_cons.2 ⟨(show a.tmps.getD 84 undef = .int .i64 (pg : Nat) from (hφ 40 (by kernel_rfl))), (List.forall_mem_cons.2 ⟨(show a.tmps.getD 85 undef = .slice (some ⟨B, o, none⟩) l.length c from (hφ 41 (by kernel_rfl))), (List.forall_mem_cons.2 ⟨(show a.tmps.getD 86 undef = .int .i64 (jx : Nat) from (hφ 42 (by kernel_rfl))), (List.forall_mem_cons.2 ⟨(show a.tmps.getD 87 undef = .int .i64 (j1 : Nat) from (hφ 43 (by kernel_rfl))), (List.forall_mem_cons.2 ⟨(show a.tmps.getD 88 undef = .pointer (some ⟨B, o + j1 * 3, none⟩) from (hφ 44 (by kernel_rfl))), (List.forall_mem_cons.2 ⟨(show a.tmps.getD 89 undef = .pointer (some ⟨B, o + j1 * 3, none⟩) from (hφ 45 (by kernel_rfl))), (List.forall_mem_cons.2 ⟨(show a.tmps.getD 90 undef = .int .i64 (pp : Nat) from (hφ 46 (by kernel_rfl))), (List.forall_mem_cons.2 ⟨(show a.tmps.getD 91 undef = .int .i64 (pg : Nat) from (hφ 47 (by kernel_rfl))), (List.forall_mem_cons.2 ⟨(show a.tmps.getD 92 undef = .bool false from (hφ 48 (by kernel_rfl))), (List.forall_mem_cons.2 ⟨(show a.tmps.getD 93 undef = .bool false from (hφ 49 (by kernel_rfl))), (List.forall_mem_cons.2 ⟨(show a.tmps.getD 94 undef = .bool false from (hφ 50 (by kernel_rfl))), (fun _ h => absurd h (by simp))⟩)⟩)⟩)⟩)⟩)⟩)⟩)⟩)⟩)⟩)⟩)⟩)⟩)⟩)⟩)⟩)⟩)⟩)⟩)⟩)⟩)⟩)⟩)⟩)⟩)⟩)⟩)⟩)⟩)⟩)⟩)⟩)⟩)⟩)⟩)⟩)⟩)⟩)⟩)⟩)⟩)⟩)⟩)⟩)⟩)⟩)⟩)⟩)⟩)⟩)⟩) hold
            clear hφ hold hsz hde
            simp only [putAll]
            have c2 := (HKV.out _ hG).2.2
            go_frame
            go_wp2_with fail
            go_roundw
            case rel => exact ⟨jx + 1, by omega, by go_num, by rw [E5.out] <;> exact congrArg _ (by omega), Lib.hid (HBVW.out.trans (hG.mono HBVW.out.size))⟩
            case measure => simp [RowKit.intOf]; omega
      · have d2 : decide ((jx : Int) < (l.length : Int)) = false := decide_eq_false (by omega)
        have e0 : posP A N jx = A + N := by unfold posP; rw [if_neg (by rw [← HCL.out]; omega)]
        rw [e0]
        clear e0
        go_wp2_with (first
          | (go_at_call 16; (with_reducible refine (HAW.out _).mono ?_); rintro e w3 ⟨rfl, hb3⟩; have HB3 := Lib.hid (HBW.out.trans (hb3.mono HBW.out.size)); clear hb3)
          | fail)
        go_ret
        exact ⟨rfl, HB3.out⟩
end Go.Proofs.Ytljlmaddbpihnaa
