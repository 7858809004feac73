/- The reference's Pieces. -/
import Derived.Test.YtljlmaddbpihnaaSpF
namespace Go.Proofs.Ytljlmaddbpihnaa
open Go.RowKit

/-- Where the j-th piece begins, or the end. -/
def posP (a n j : Nat) : Nat := if j < cntP a n then begP a j else a + n
theorem pos_zero (a n : Nat) : posP a n 0 = a := by
  unfold posP
  by_cases h : 0 < n
  · rw [if_pos (cnt_pos h)]; rfl
  · obtain rfl : n = 0 := by omega
    rw [if_neg (by rw [cnt_zero]; omega)]; omega
/-- One round of the loop. -/
theorem pos_step {a n j : Nat} (h : j < cntP a n) : posP a n j / 16 = a / 16 + j ∧ posP a n j % 16 = begP a j - (a / 16 + j) * 16 ∧ posP a n j < a + n ∧ min (a + n - posP a n j) (16 - posP a n j % 16) = endP a n j - begP a j ∧ posP a n (j + 1) = endP a n j ∧ posP a n j = begP a j := by
  obtain ⟨h1, h2, h3, h4, h5, h6, h7⟩ := piece_facts h
  have e1 : posP a n j = begP a j := by unfold posP; rw [if_pos h]
  have e2 : posP a n (j + 1) = endP a n j := by
    unfold posP
    split
    · next hh => exact (h5 hh).symm
    · next hh => exact (h6 (by omega)).symm
  refine ⟨by rw [e1]; omega, by rw [e1]; omega, by rw [e1]; omega, ?_, e2, e1⟩
  rw [e1]
  unfold endP at *
  omega
/-- What a call of Pieces answers. -/
def PcPost (w : World) (l : List P3) (e : Ending) (w' : World) : Prop := ∃ q c, e = .returned (.slice q l.length c) ∧ PcOwn w' w.heap.size (.slice q l.length c) l ∧ Below w.heap.size w w'
set_option maxHeartbeats 4000000 in
set_option maxRecDepth 100000 in
theorem piecesr_any (a n : Int) (w : World) : Calls Try.prog 9 #[.int .i64 a, .int .i64 n] w (PcPost w (piecesF a n)) := by
  have HFI := Lib.hid (fun w1 => fitsr_any a n w1)
  cases hf : fitsF a n with
  | false =>
    rw [hf] at HFI
    have HV : Hid (piecesF a n = []) := Lib.hid (by unfold piecesF; rw [if_neg (by rw [hf]; simp)])
    clear hf
    go_enter Try.func9, Try.ntmps9
    go_wp2_with (first
      | (go_at_call 13; (with_reducible refine (HFI.out _).mono ?_); rintro e w1 ⟨rfl, hb1⟩; have HB1 := Lib.hid hb1; clear hb1)
      | fail)
    go_ret
    rw [HV.out]
    exact ⟨none, 0, rfl, pcown_nil _ _, HB1.out⟩
  | true =>
    rw [hf] at HFI
    obtain ⟨a0, n0, hs⟩ := fitsF_iff.1 hf
    have HV : Hid (piecesF a n = piecesP a.toNat n.toNat) := Lib.hid (by unfold piecesF; rw [if_pos hf])
    clear hf
    obtain ⟨A, rfl⟩ : ∃ A : Nat, a = (A : Int) := ⟨a.toNat, by omega⟩
    obtain ⟨N, rfl⟩ : ∃ N : Nat, n = (N : Int) := ⟨n.toNat, by omega⟩
    have hs2 : A + N ≤ 80 := by omega
    rw [Int.toNat_natCast, Int.toNat_natCast] at HV
    clear a0 n0 hs
    have HP0 := Lib.hid (pos_zero A N)
    have hcl := cntP_le hs2
    go_enter Try.func9, Try.ntmps9
    go_wp2_with (first
      | (go_at_call 13; (with_reducible refine (HFI.out _).mono ?_); rintro e w1 ⟨rfl, hb1⟩; have HB1 := Lib.hid hb1; clear hb1)
      | fail)
    go_loopw [0, 1, 5, 6, 7] (fun v0 v1 v5 _ _ wr => ∃ jx : Nat, jx ≤ cntP A N ∧ v0 = .int .i64 (posP A N jx : Nat) ∧ v1 = .int .i64 ((A + N - posP A N jx : Nat) : Int) ∧ Hid (PcOwn wr w.heap.size v5 ((piecesP A N).take jx)) ∧ Hid (Below w.heap.size w wr)) (fun _ v1 _ _ _ _ => (RowKit.intOf v1).toNat)
    case atStart => exact ⟨0, Nat.zero_le _, by rw [HP0.out], by rw [HP0.out]; congr 1; omega, Lib.hid (pcown_nil _ _), HB1⟩
    case round =>
      obtain ⟨jx, hj, rfl, rfl, HO, HB⟩ := hrel
      by_cases hj1 : jx < cntP A N
      · obtain ⟨e1, e2, e3, e4, e5, e6⟩ := pos_step hj1
        obtain ⟨f1, f2, f3, f4, f5, f6, f7⟩ := piece_facts hj1
        have HPC : Hid (pieceP A N jx = (((A / 16 + jx : Nat) : Int), ((begP A jx - (A / 16 + jx) * 16 : Nat) : Int), ((endP A N jx - begP A jx : Nat) : Int))) := Lib.hid rfl
        have HTK : Hid ((piecesP A N).take (jx + 1) = (piecesP A N).take jx ++ [pieceP A N jx]) := Lib.hid (by
          have h9 : jx < (piecesP A N).length := by rw [piecesP_len]; exact hj1
          rw [List.take_succ_eq_append_getElem h9, piecesP_at h9])
        obtain ⟨pos, hpos⟩ : ∃ p, p = posP A N jx := ⟨_, rfl⟩
        obtain ⟨fr, hfr⟩ : ∃ p, p = begP A jx - (A / 16 + jx) * 16 := ⟨_, rfl⟩
        obtain ⟨kk, hkk⟩ : ∃ p, p = endP A N jx - begP A jx := ⟨_, rfl⟩
        obtain ⟨pg, hpg⟩ : ∃ p, p = A / 16 + jx := ⟨_, rfl⟩
        rw [← hfr, ← hkk, ← hpg] at HPC
        rw [← hpos] at e1 e2 e3 e4 ⊢
        rw [← hpg] at e1
        rw [← hfr] at e2
        rw [← hkk, e2] at e4
        have E5 : Hid (posP A N (jx + 1) = pos + kk) := Lib.hid (by rw [e5, hpos, e6, hkk]; omega)
        have hk1 : pos + kk ≤ A + N := by rw [hpos, e6, hkk]; omega
        have hk2 : 0 < kk := by rw [hkk]; omega
        have d0 : decide ((0 : Int) < ((A + N - pos : Nat) : Int)) = true := decide_eq_true (by omega)
        clear hpos hfr hkk hpg e5 e6 f1 f2 f3 f4 f5 f6 f7
        have r1 : ((pos : Int)).tmod 16 = (fr : Int) := by rw [Int.tmod_eq_emod_of_nonneg (by omega)]; omega
        have r2 : ((pos : Int)).tdiv 16 = (pg : Int) := by rw [Int.tdiv_eq_ediv_of_nonneg (by omega)]; omega
        obtain ⟨rem, hrm⟩ : ∃ x, x = A + N - pos := ⟨_, rfl⟩
        obtain ⟨G, hG⟩ : ∃ x, x = 16 - fr := ⟨_, rfl⟩
        rw [← hrm, ← hG] at e4
        have hfr : fr < 16 := by omega
        have hwG : IntKind.i64.wrap (16 - (fr : Int)) = (G : Int) := by rw [show (16 : Int) - (fr : Int) = (G : Int) by omega]; exact i64w_idS _ (by omega)
        have hw1 : IntKind.i64.wrap ((pos : Int) + (kk : Int)) = ((pos + kk : Nat) : Int) := by rw [i64w_idS _ (by omega)]; omega
        have hw2 : IntKind.i64.wrap ((rem : Int) - (kk : Int)) = ((rem - kk : Nat) : Int) := by rw [i64w_idS _ (by omega)]; omega
        have hwf : IntKind.i64.wrap (fr : Int) = (fr : Int) := i64w_idS _ (by omega)
        have hwp : IntKind.i64.wrap (pg : Int) = (pg : Int) := i64w_idS _ (by omega)
        have hLn : ((piecesP A N).take jx).length ≤ 5 := by rw [List.length_take]; omega
        obtain ⟨S, hS⟩ : ∃ S, S = (piecesP A N).take jx := ⟨_, rfl⟩
        rw [← hS] at HO HTK hLn
        obtain ⟨q, cap, hq, -⟩ := own_slice HO.out
        subst hq
        have HOA : Hid (PcOwn (wr.alloc (.cells #[.int .i64 (pg : Int), .int .i64 (fr : Int), .int .i64 (kk : Int)] 25)) w.heap.size (.slice q S.length cap) S) := Lib.hid (HO.out.alloc _)
        have HL1 := Lib.hid (pcown_one_at wr ((pg : Int), (fr : Int), (kk : Int)) rfl)
        have HBA := Lib.hid (HB.out.alloc HB.out.size (.cells #[.int .i64 (pg : Int), .int .i64 (fr : Int), .int .i64 (kk : Int)] 25))
        have HLT : Hid (S.length + [((pg : Int), (fr : Int), (kk : Int))].length ≤ 100000) := Lib.hid (by simp; omega)
        have HRM : Hid (rem - kk = A + N - (pos + kk)) := Lib.hid (by omega)
        rw [← hrm] at d0 ⊢
        have hrk : kk ≤ rem := by omega
        clear hS hrm hG e1 e2 e3 hk1 HB
        by_cases hm : (G : Int) < (rem : Int)
        · have hkG : G = kk := by omega
          subst hkG
          clear e4 hwf
          go_wp2_with (at_builtin; refine wpList_pcapp rfl _ _ rfl w.heap.size (.slice q S.length cap) S [((pg : Int), (fr : Int), (G : Int))] _ _ rfl rfl HOA.out HL1.out (fun e => by cases e) HLT.out HBA.out.size ?_; intro q2 cap2 w3 hown2 hg2; have HB7 := Lib.hid (HBA.out.grown hg2 HBA.out.size fun k e => (HOA.out.lt k e).1); have HO6 := Lib.hid hown2; clear hown2 hg2)
          go_roundw
          case rel => exact ⟨jx + 1, by omega, by rw [E5.out]; exact congrArg _ (by omega), by rw [E5.out, ← HRM.out] <;> exact congrArg _ (by omega), Lib.hid (by rw [HTK.out, HPC.out]; exact HO6.out), HB7⟩
          case measure => simp [RowKit.intOf]; omega
        · have hkG : rem = kk := by omega
          subst hkG
          clear e4 hwf
          go_wp2_with (at_builtin; refine wpList_pcapp rfl _ _ rfl w.heap.size (.slice q S.length cap) S [((pg : Int), (fr : Int), (rem : Int))] _ _ rfl rfl HOA.out HL1.out (fun e => by cases e) HLT.out HBA.out.size ?_; intro q2 cap2 w3 hown2 hg2; have HB7 := Lib.hid (HBA.out.grown hg2 HBA.out.size fun k e => (HOA.out.lt k e).1); have HO6 := Lib.hid hown2; clear hown2 hg2)
          go_roundw
          case rel => exact ⟨jx + 1, by omega, by rw [E5.out]; exact congrArg _ (by omega), by rw [E5.out, ← HRM.out] <;> exact congrArg _ (by omega), Lib.hid (by rw [HTK.out, HPC.out]; exact HO6.out), HB7⟩
          case measure => simp [RowKit.intOf]; omega
      · have e0 : posP A N jx = A + N := by unfold posP; rw [if_neg hj1]
        have HE : Hid ((piecesP A N).take jx = piecesP A N) := Lib.hid (List.take_of_length_le (by rw [piecesP_len]; omega))
        rw [e0, Nat.sub_self]
        rw [HE.out] at HO
        obtain ⟨q, cap, hq, -⟩ := own_slice HO.out
        subst hq
        clear e0
        go_wp2_with fail
        go_ret
        rw [HV.out]
        exact ⟨q, cap, rfl, HO.out, HB.out⟩
end Go.Proofs.Ytljlmaddbpihnaa
