/- SpanAll, SpanForms, over the landed contracts. -/
import Derived.Test.YtljlmaddbpihnaaSpC
import Derived.Test.YtljlmaddbpihnaaSpA
import Derived.Deep.RegionHeld3
namespace Go.Proofs.Ytljlmaddbpihnaa
open Go.RowKit

theorem whole_cnt (P : Nat) : cntP 0 (P * 16) = P := by
  unfold cntP
  split <;> omega
theorem whole_piece {P i : Nat} (h : i < P) : pieceP 0 (P * 16) i = ((i : Int), 0, 16) := by
  have h1 : begP 0 i = i * 16 := by unfold begP; split <;> omega
  have h2 : endP 0 (P * 16) i = i * 16 + 16 := by unfold endP; omega
  unfold pieceP
  rw [h1, h2]
  simp
theorem whole_pages {P : Nat} (h : P ≤ 5) : pagesF ((P * 16 : Nat) : Int) = (P : Int) := by
  unfold pagesF
  split
  · omega
  · split <;> omega
set_option maxHeartbeats 8000000 in
set_option maxRecDepth 100000 in
theorem all_law
    (lpc : ∀ (a n : Int) (w : World), Wf6 a → Wf6 n → Calls Try.prog 8 #[.int .i64 a, .int .i64 n] w (PcRead w (piecesF a n)))
    (lft : ∀ (a n : Int) (w : World), Wf6 a → Wf6 n → Calls Try.prog 12 #[.int .i64 a, .int .i64 n] w fun e w' => e = .returned (.bool (fitsF a n)) ∧ Below w.heap.size w w')
    (lpg : ∀ (z : Int) (w : World), Wf6 z → Calls Try.prog 10 #[.int .i64 z] w fun e w' => e = .returned (.int .i64 (pagesF z)) ∧ Below w.heap.size w w')
    (awk : ∀ w : World, Calls Try.prog 16 #[] w fun x w' => x = .returned (.bool true) ∧ Below w.heap.size w w')
    (p0 a0 : Int) (w : World) : Calls Try.prog 6 #[.int .i64 p0, .int .i64 a0] w fun e w' => e = .returned (.bool true) ∧ Below w.heap.size w w' := by
  obtain ⟨P, hP, hP2⟩ : ∃ N : Nat, (IntKind.u64.wrap p0).tmod 6 = (N : Int) ∧ N < 6 := by have := u64_tmod p0 6 (by decide) (by decide); simpa using this
  obtain ⟨A, hA, hA2⟩ : ∃ N : Nat, (IntKind.u64.wrap a0).tmod 81 = (N : Int) ∧ N < 81 := by have := u64_tmod a0 81 (by decide) (by decide); simpa using this
  have hPw : IntKind.i64.wrap (P : Int) = (P : Int) := i64w_idS _ (by omega)
  have hAw : IntKind.i64.wrap (A : Int) = (A : Int) := i64w_idS _ (by omega)
  obtain ⟨M, hM⟩ : ∃ M, M = P * 16 := ⟨_, rfl⟩
  have hPm : IntKind.i64.wrap ((P : Int) * 16) = (M : Int) := by rw [i64w_idS _ (by omega)]; omega
  have hfit : fitsF 0 (M : Int) = true := fitsF_iff.2 ⟨by omega, by omega, by omega⟩
  have hpf : piecesF 0 (M : Int) = piecesP 0 M := by unfold piecesF; rw [if_pos hfit]; rfl
  have HPC := Lib.hid (fun w1 => lpc 0 (M : Int) w1 (by omega) (by omega))
  rw [hpf] at HPC
  obtain ⟨l, hl⟩ : ∃ l, l = piecesP 0 M := ⟨_, rfl⟩
  have hll : l.length = P := by rw [hl, piecesP_len, hM, whole_cnt]
  have HLA : Hid (∀ i (h : i < l.length), l[i] = ((i : Int), 0, 16)) := Lib.hid (by
    subst hl
    intro i h
    rw [piecesP_at h, hM, whole_piece (by rw [piecesP_len, hM, whole_cnt] at h; exact h)])
  rw [← hl] at HPC
  have HPG : Hid (∀ w1, Calls Try.prog 10 #[.int .i64 (M : Int)] w1 fun e w' => e = .returned (.int .i64 (P : Int)) ∧ Below w1.heap.size w1 w') := Lib.hid fun w1 => by
    have := lpg (M : Int) w1 (by omega)
    rwa [hM, whole_pages (by omega), ← hM] at this
  obtain ⟨R, hR⟩ : ∃ R, R = 80 - A := ⟨_, rfl⟩
  have hRw : IntKind.i64.wrap (80 - (A : Int)) = (R : Int) := by rw [i64w_idS _ (by omega)]; omega
  have hRw1 : IntKind.i64.wrap ((R : Int) + 1) = ((R + 1 : Nat) : Int) := by rw [i64w_idS _ (by omega)]; omega
  have HF1 : Hid (∀ w1, Calls Try.prog 12 #[.int .i64 (A : Int), .int .i64 (R : Int)] w1 fun e w' => e = .returned (.bool true) ∧ Below w1.heap.size w1 w') := Lib.hid fun w1 => by
    have := lft (A : Int) (R : Int) w1 (by omega) (by omega)
    rwa [fitsF_nat, decide_eq_true (by omega)] at this
  have HF2 : Hid (∀ w1, Calls Try.prog 12 #[.int .i64 (A : Int), .int .i64 ((R + 1 : Nat) : Int)] w1 fun e w' => e = .returned (.bool false) ∧ Below w1.heap.size w1 w') := Lib.hid fun w1 => by
    have := lft (A : Int) ((R + 1 : Nat) : Int) w1 (by omega) (by omega)
    rwa [fitsF_nat, decide_eq_false (by omega)] at this
  have HP0 : Hid (∀ w1, Calls Try.prog 8 #[.int .i64 (A : Int), .int .i64 0] w1 (PcRead w1 [])) := Lib.hid fun w1 => by
    have := lpc (A : Int) 0 w1 (by omega) (by omega)
    have e : piecesF (A : Int) 0 = [] := by
      unfold piecesF
      rw [if_pos (fitsF_iff.2 ⟨by omega, by omega, by omega⟩)]
      rfl
    rwa [e] at this
  have HAW := Lib.hid awk
  have hl5 : l.length ≤ 5 := by omega
  have HLP := Lib.hid hll
  have b1 : ((l.length : Int) != (P : Int)) = false := by simp; omega
  have b2 : ((P : Int) != (P : Int)) = false := by simp
  obtain ⟨R1, hR1⟩ : ∃ x, x = R + 1 := ⟨_, rfl⟩
  rw [← hR1] at hRw1 HF2
  clear lpc lft lpg awk hfit hpf hl hM hR hR1 hll hP2 hA2
  go_enter Try.func6, Try.ntmps6
  go_upto_region 6 with (first
    | (go_at_call 8; (with_reducible refine (HPC.out _).mono ?_); rintro e w1 ⟨q, c, rfl, hz, hc, hb1⟩; have HZ := Lib.hid hz; have HB1 := Lib.hid hb1; clear hz hb1)
    | (go_at_call 10; (with_reducible refine (HPG.out _).mono ?_); rintro e w2 ⟨rfl, hb2⟩; have HB0 := Lib.hid hb2; have HB2 := Lib.hid (HB1.out.trans (hb2.mono HB1.out.size)); clear hb2)
    | fail)
  have HZL : Hid (∀ w1, Below w2.heap.size w2 w1 → PcLies w1 q l) := Lib.hid fun w1 hb => HZ.out.below (HB0.out.trans (hb.mono HB0.out.size))
  clear b1 b2
  go_loopw [6, 7, 28] (fun _ _ v28 wr => ∃ jx : Nat, jx ≤ l.length ∧ v28 = .int .i64 jx ∧ Hid (Below w2.heap.size w2 wr)) (fun _ _ v28 _ => l.length - (RowKit.intOf v28).toNat)
  case atStart => exact ⟨0, Nat.zero_le _, rfl, Lib.hid (Below.refl _ _)⟩
  case round =>
    obtain ⟨jx, hj, rfl, HB⟩ := hrel
    have HBW := Lib.hid (HB2.out.trans (HB.out.mono HB2.out.size))
    by_cases hj1 : jx < l.length
    · have d2 : decide ((jx : Int) < (l.length : Int)) = true := decide_eq_true (by omega)
      obtain ⟨B, o, rfl, hBs, hcc⟩ := HZL.out wr HB.out (by omega)
      obtain ⟨k0, k1, k2⟩ := hcc jx hj1
      rw [HLA.out jx hj1] at k0 k1 k2
      dsimp only at k0 k1 k2
      have HBV := Lib.hid (HB.out.alloc HB.out.size (.cells #[.int .i64 (jx : Int), .int .i64 0, .int .i64 16] 25))
      have HXV := Lib.hid (heap_alloc_new wr (.cells #[.int .i64 (jx : Int), .int .i64 0, .int .i64 16] 25))
      clear hcc
      go_upto_region 8 with fail
      generalize wr.alloc _ = V at HXV HBV ⊢
      obtain ⟨p, hp⟩ : ∃ p, p = wr.heap.size := ⟨_, rfl⟩
      rw [← hp] at HXV ⊢
      clear hp k0 k1 k2
      have x0 : V.cell? ⟨p, 0, none⟩ = some (.int .i64 (jx : Int)) := by have := HXV.out; simp [World.cell?, this]
      have x1 : V.cell? ⟨p, 1, none⟩ = some (.int .i64 0) := by have := HXV.out; simp [World.cell?, this]
      have x2 : V.cell? ⟨p, 2, none⟩ = some (.int .i64 16) := by have := HXV.out; simp [World.cell?, this]
      go_wp2_with fail
      go_roundw
      case rel => exact ⟨jx + 1, by omega, by go_num, HBV⟩
      case measure => simp [RowKit.intOf]; omega
    · have d2 : decide ((jx : Int) < (l.length : Int)) = false := decide_eq_false (by omega)
      go_wp2_with (first
        | (go_at_call 12; (with_reducible refine (HF1.out _).mono ?_); rintro e w3 ⟨rfl, hb3⟩; have HB3 := Lib.hid (HBW.out.trans (hb3.mono HBW.out.size)); clear hb3)
        | (go_at_call 12; (with_reducible refine (HF2.out _).mono ?_); rintro e w4 ⟨rfl, hb3⟩; have HB4 := Lib.hid (HB3.out.trans (hb3.mono HB3.out.size)); clear hb3)
        | (go_at_call 8; (with_reducible refine (HP0.out _).mono ?_); rintro e w5 ⟨q5, c5, rfl, hz, hc5, hb3⟩; have HB5 := Lib.hid (HB4.out.trans (hb3.mono HB4.out.size)); clear hb3 hz hc5)
        | (go_at_call 16; (with_reducible refine (HAW.out _).mono ?_); rintro e w6 ⟨rfl, hb3⟩; have HB6 := Lib.hid (HB5.out.trans (hb3.mono HB5.out.size)); clear hb3)
        | fail)
      go_ret
      exact ⟨rfl, HB6.out⟩
end Go.Proofs.Ytljlmaddbpihnaa
