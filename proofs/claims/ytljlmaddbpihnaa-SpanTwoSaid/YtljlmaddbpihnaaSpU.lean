/- The landed Pieces. -/
import Derived.Test.YtljlmaddbpihnaaSpP
import Derived.Test.YtljlmaddbpihnaaSpQ
import Derived.Deep.AppendLies
import Derived.Deep.Cut
namespace Go.Proofs.Ytljlmaddbpihnaa
open Go.RowKit

/-- A box of a piece, made. -/
theorem box_pc (w : World) (x y z : Int) : w.heap.size < (w.alloc (.cells #[.int .i64 x, .int .i64 y, .int .i64 z] 25)).heap.size ∧ (w.alloc (.cells #[.int .i64 x, .int .i64 y, .int .i64 z] 25)).cell? ⟨w.heap.size, 0, none⟩ = some (.int .i64 x) ∧ (w.alloc (.cells #[.int .i64 x, .int .i64 y, .int .i64 z] 25)).cell? ⟨w.heap.size, 1, none⟩ = some (.int .i64 y) ∧ (w.alloc (.cells #[.int .i64 x, .int .i64 y, .int .i64 z] 25)).cell? ⟨w.heap.size, 2, none⟩ = some (.int .i64 z) := by
  have hn := heap_alloc_new w (.cells #[.int .i64 x, .int .i64 y, .int .i64 z] 25)
  generalize w.alloc _ = W at hn ⊢
  exact ⟨lt_size hn, by simp [World.cell?, hn], by simp [World.cell?, hn], by simp [World.cell?, hn]⟩
set_option maxHeartbeats 4000000 in
set_option maxRecDepth 100000 in
theorem piecesl_any (a n : Int) (w : World) (HWA : Wf6 a) : Calls Try.prog 8 #[.int .i64 a, .int .i64 n] w (PcPost w (piecesF a n)) := by
  have HFI := Lib.hid (fun w1 => fitsl_any a n w1 HWA)
  cases hf : fitsF a n with
  | false =>
    rw [hf] at HFI
    have HV : Hid (piecesF a n = []) := Lib.hid (by unfold piecesF; rw [if_neg (by rw [hf]; simp)])
    clear hf
    go_enter Try.func8, Try.ntmps8
    go_wp2_with (first
      | (go_at_call 12; (with_reducible refine (HFI.out _).mono ?_); rintro e w1 ⟨rfl, hb1⟩; have HB1 := Lib.hid hb1; clear hb1)
      | fail)
    go_ret
    rw [HV.out]
    exact ⟨none, 0, rfl, pcown_nil _ _, HB1.out⟩
  | true =>
    rw [hf] at HFI
    obtain ⟨a0, n0, hs⟩ := fitsF_iff.1 hf
    have HV : Hid (piecesF a n = piecesP a.toNat n.toNat) := Lib.hid (by unfold piecesF; rw [if_pos hf])
    clear hf
    obtain ⟨A, rfl⟩ : ∃ A : Nat, a = (A : Int) := ⟨a.toNat, by omega⟩
    obtain ⟨N, rfl⟩ : ∃ N : Nat, n = (N : Int) := ⟨n.toNat, by omega⟩
    have hs2 : A + N ≤ 80 := by omega
    rw [Int.toNat_natCast, Int.toNat_natCast] at HV
    clear a0 n0 hs
    have HP0 := Lib.hid (pos_zero A N)
    have hcl := cntP_le hs2
    go_enter Try.func8, Try.ntmps8
    go_wp2_with (first
      | (go_at_call 12; (with_reducible refine (HFI.out _).mono ?_); rintro e w1 ⟨rfl, hb1⟩; have HB1 := Lib.hid hb1; clear hb1)
      | fail)
    go_loopw [0, 1, 5, 6, 7] (fun v0 v1 v5 _ _ wr => ∃ jx : Nat, jx ≤ cntP A N ∧ v0 = .int .i64 (posP A N jx : Nat) ∧ v1 = .int .i64 ((A + N - posP A N jx : Nat) : Int) ∧ Hid (PcOwn wr w.heap.size v5 ((piecesP A N).take jx)) ∧ Hid (Below w.heap.size w wr)) (fun _ v1 _ _ _ _ => (RowKit.intOf v1).toNat)
    case atStart => exact ⟨0, Nat.zero_le _, by rw [HP0.out], by rw [HP0.out]; congr 1; omega, Lib.hid (pcown_nil _ _), HB1⟩
    case round =>
      obtain ⟨jx, hj, rfl, rfl, HO, HB⟩ := hrel
      by_cases hj1 : jx < cntP A N
      · obtain ⟨e1, e2, e3, e4, e5, e6⟩ := pos_step hj1
        obtain ⟨f1, f2, f3, f4, f5, f6, f7⟩ := piece_facts hj1
        have HPC : Hid (pieceP A N jx = (((A / 16 + jx : Nat) : Int), ((begP A jx - (A / 16 + jx) * 16 : Nat) : Int), ((endP A N jx - begP A jx : Nat) : Int))) := Lib.hid rfl
        have HTK : Hid ((piecesP A N).take (jx + 1) = (piecesP A N).take jx ++ [pieceP A N jx]) := Lib.hid (by
          have h9 : jx < (piecesP A N).length := by rw [piecesP_len]; exact hj1
          rw [List.take_succ_eq_append_getElem h9, piecesP_at h9])
        obtain ⟨pos, hpos⟩ : ∃ p, p = posP A N jx := ⟨_, rfl⟩
        obtain ⟨fr, hfr⟩ : ∃ p, p = begP A jx - (A / 16 + jx) * 16 := ⟨_, rfl⟩
        obtain ⟨kk, hkk⟩ : ∃ p, p = endP A N jx - begP A jx := ⟨_, rfl⟩
        obtain ⟨pg, hpg⟩ : ∃ p, p = A / 16 + jx := ⟨_, rfl⟩
        rw [← hfr, ← hkk, ← hpg] at HPC
        rw [← hpos] at e1 e2 e3 e4 ⊢
        rw [← hpg] at e1
        rw [← hfr] at e2
        rw [← hkk, e2] at e4
        have E5 : Hid (posP A N (jx + 1) = pos + kk) := Lib.hid (by rw [e5, hpos, e6, hkk]; omega)
        have hk1 : pos + kk ≤ A + N := by rw [hpos, e6, hkk]; omega
        have hk2 : 0 < kk := by rw [hkk]; omega
        have d0 : decide ((0 : Int) < ((A + N - pos : Nat) : Int)) = true := decide_eq_true (by omega)
        clear hpos hfr hkk hpg e5 e6 f1 f2 f3 f4 f5 f6 f7
        have r1 : ((pos : Int)).tmod 16 = (fr : Int) := by rw [Int.tmod_eq_emod_of_nonneg (by omega)]; omega
        have r2 : ((pos : Int)).tdiv 16 = (pg : Int) := by rw [Int.tdiv_eq_ediv_of_nonneg (by omega)]; omega
        obtain ⟨rem, hrm⟩ : ∃ x, x = A + N - pos := ⟨_, rfl⟩
        obtain ⟨G, hG⟩ : ∃ x, x = 16 - fr := ⟨_, rfl⟩
        rw [← hrm, ← hG] at e4
        have hfr : fr < 16 := by omega
        have hwG : IntKind.i64.wrap (16 - (fr : Int)) = (G : Int) := by rw [show (16 : Int) - (fr : Int) = (G : Int) by omega]; exact i64w_idS _ (by omega)
        have hw1 : IntKind.i64.wrap ((pos : Int) + (kk : Int)) = ((pos + kk : Nat) : Int) := by rw [i64w_idS _ (by omega)]; omega
        have hw2 : IntKind.i64.wrap ((rem : Int) - (kk : Int)) = ((rem - kk : Nat) : Int) := by rw [i64w_idS _ (by omega)]; omega
        have hwf : IntKind.i64.wrap (fr : Int) = (fr : Int) := i64w_idS _ (by omega)
        have hwp : IntKind.i64.wrap (pg : Int) = (pg : Int) := i64w_idS _ (by omega)
        have hLn : ((piecesP A N).take jx).length ≤ 5 := by rw [List.length_take]; omega
        obtain ⟨S, hS⟩ : ∃ S, S = (piecesP A N).take jx := ⟨_, rfl⟩
        rw [← hS] at HO HTK hLn
        obtain ⟨q, cap, hq, -⟩ := own_slice HO.out
        subst hq
        have HOW := Lib.hid HO.out
        have HLTG : Hid (S.length + [((pg : Int), (fr : Int), (G : Int))].length ≤ 100000) := Lib.hid (by simp; omega)
        have HLTR : Hid (S.length + [((pg : Int), (fr : Int), (rem : Int))].length ≤ 100000) := Lib.hid (by simp; omega)
        have HRM : Hid (rem - kk = A + N - (pos + kk)) := Lib.hid (by omega)
        rw [← hrm] at d0 ⊢
        have hrk : kk ≤ rem := by omega
        clear hS hrm hG e1 e2 e3 hk1 HO
        by_cases hm : (G : Int) < (rem : Int)
        · have hkG : G = kk := by omega
          subst hkG
          clear e4 hwf
          have HB0 := Lib.hid (HB.out.alloc HB.out.size (.cells #[.int .i64 (pg : Int), .int .i64 (fr : Int), .int .i64 (G : Int)] 25))
          have HO1 := Lib.hid (HOW.out.alloc (.cells #[.int .i64 (pg : Int), .int .i64 (fr : Int), .int .i64 (G : Int)] 25))
          have HPX := Lib.hid (box_pc wr (pg : Int) (fr : Int) (G : Int))
          have HPO : Hid (∀ k, (Value.slice q S.length cap).ownBlock = some k → k < wr.heap.size) := Lib.hid fun k e => (HOW.out.lt k e).2
          obtain ⟨P, hP⟩ : ∃ P, P = wr.heap.size := ⟨_, rfl⟩
          go_upto_region 7 with fail
          rw [← hP]
          rw [← hP] at HPX HPO
          generalize wr.alloc _ = W1 at HB0 HO1 HPX
          clear hP
          obtain ⟨px, p0, p1, p2⟩ := HPX.out
          have HOA := Lib.hid (HO1.out.alloc (.cells #[.int .i64 (pg : Int), .int .i64 (fr : Int), .int .i64 (G : Int)] 25))
          have HL1 := Lib.hid (pcown_one_at W1 ((pg : Int), (fr : Int), (G : Int)) rfl)
          have HBA := Lib.hid (HB0.out.alloc HB0.out.size (.cells #[.int .i64 (pg : Int), .int .i64 (fr : Int), .int .i64 (G : Int)] 25))
          have HPA := Lib.hid (((show Below W1.heap.size W1 W1 from Below.refl _ _).alloc (Nat.le_refl _) (.cells #[.int .i64 (pg : Int), .int .i64 (fr : Int), .int .i64 (G : Int)] 25)).cell (p := ⟨P, 2, none⟩) px |>.trans p2)
          have HPS := Lib.hid (Nat.lt_trans px (Nat.lt_succ_self _))
          go_wp2_with (at_builtin; refine wpList_pcapp rfl _ _ rfl w.heap.size (.slice q S.length cap) S [((pg : Int), (fr : Int), (G : Int))] _ _ rfl rfl HOA.out HL1.out (fun e => by cases e) HLTG.out HBA.out.size ?_; intro q2 cap2 w3 hown2 hg2; have HB7 := Lib.hid (HBA.out.grown hg2 HBA.out.size fun k e => (HOA.out.lt k e).1); have HO6 := Lib.hid hown2; have hp3 := (hg2.cell_far ⟨P, 2, none⟩ (by simpa using HPS.out) (fun e => by have := HPO.out P e.symm; omega)).trans HPA.out; clear hown2 hg2)
          go_roundw
          case rel => exact ⟨jx + 1, by omega, by rw [E5.out]; exact congrArg _ (by omega), by rw [E5.out, ← HRM.out] <;> exact congrArg _ (by omega), Lib.hid (by rw [HTK.out, HPC.out]; exact HO6.out), HB7⟩
          case measure => simp [RowKit.intOf]; omega
        · have hkG : rem = kk := by omega
          subst hkG
          clear e4 hwf
          have HB0 := Lib.hid (HB.out.alloc HB.out.size (.cells #[.int .i64 (pg : Int), .int .i64 (fr : Int), .int .i64 (rem : Int)] 25))
          have HO1 := Lib.hid (HOW.out.alloc (.cells #[.int .i64 (pg : Int), .int .i64 (fr : Int), .int .i64 (rem : Int)] 25))
          have HPX := Lib.hid (box_pc wr (pg : Int) (fr : Int) (rem : Int))
          have HPO : Hid (∀ k, (Value.slice q S.length cap).ownBlock = some k → k < wr.heap.size) := Lib.hid fun k e => (HOW.out.lt k e).2
          obtain ⟨P, hP⟩ : ∃ P, P = wr.heap.size := ⟨_, rfl⟩
          go_upto_region 7 with fail
          rw [← hP]
          rw [← hP] at HPX HPO
          generalize wr.alloc _ = W1 at HB0 HO1 HPX
          clear hP
          obtain ⟨px, p0, p1, p2⟩ := HPX.out
          have HOA := Lib.hid (HO1.out.alloc (.cells #[.int .i64 (pg : Int), .int .i64 (fr : Int), .int .i64 (rem : Int)] 25))
          have HL1 := Lib.hid (pcown_one_at W1 ((pg : Int), (fr : Int), (rem : Int)) rfl)
          have HBA := Lib.hid (HB0.out.alloc HB0.out.size (.cells #[.int .i64 (pg : Int), .int .i64 (fr : Int), .int .i64 (rem : Int)] 25))
          have HPA := Lib.hid (((show Below W1.heap.size W1 W1 from Below.refl _ _).alloc (Nat.le_refl _) (.cells #[.int .i64 (pg : Int), .int .i64 (fr : Int), .int .i64 (rem : Int)] 25)).cell (p := ⟨P, 2, none⟩) px |>.trans p2)
          have HPS := Lib.hid (Nat.lt_trans px (Nat.lt_succ_self _))
          go_wp2_with (at_builtin; refine wpList_pcapp rfl _ _ rfl w.heap.size (.slice q S.length cap) S [((pg : Int), (fr : Int), (rem : Int))] _ _ rfl rfl HOA.out HL1.out (fun e => by cases e) HLTR.out HBA.out.size ?_; intro q2 cap2 w3 hown2 hg2; have HB7 := Lib.hid (HBA.out.grown hg2 HBA.out.size fun k e => (HOA.out.lt k e).1); have HO6 := Lib.hid hown2; have hp3 := (hg2.cell_far ⟨P, 2, none⟩ (by simpa using HPS.out) (fun e => by have := HPO.out P e.symm; omega)).trans HPA.out; clear hown2 hg2)
          go_roundw
          case rel => exact ⟨jx + 1, by omega, by rw [E5.out]; exact congrArg _ (by omega), by rw [E5.out, ← HRM.out] <;> exact congrArg _ (by omega), Lib.hid (by rw [HTK.out, HPC.out]; exact HO6.out), HB7⟩
          case measure => simp [RowKit.intOf]; omega
      · have e0 : posP A N jx = A + N := by unfold posP; rw [if_neg hj1]
        have HE : Hid ((piecesP A N).take jx = piecesP A N) := Lib.hid (List.take_of_length_le (by rw [piecesP_len]; omega))
        rw [e0, Nat.sub_self]
        rw [HE.out] at HO
        obtain ⟨q, cap, hq, -⟩ := own_slice HO.out
        subst hq
        clear e0
        go_wp2_with fail
        go_ret
        rw [HV.out]
        exact ⟨q, cap, rfl, HO.out, HB.out⟩
end Go.Proofs.Ytljlmaddbpihnaa
