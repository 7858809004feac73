/- NodeEnds: a file has no page behind its end (written by mken.py). -/
import Derived.Test.YtohiabkjbieflaaNdY
namespace Go.Proofs.Ytohiabkjbieflaa
open Go.RowKit Go.Lib

/-- The last page of the first jx refs. -/
def lastOf (sq : List Int) (N : Nat) (L : List P2) (jx : Nat) (la : Int) : Prop :=
  (jx = 0 ∧ la = -1) ∨ (0 < jx ∧ ∃ q, ∃ (h : q < sq.length), la = (q : Int) ∧ sq[q] ≠ 0 ∧ ∀ (h : jx - 1 < L.length), L[jx - 1].1 = 1 + (N : Int) * 5 + (q : Int))
set_option maxRecDepth 100000 in
set_option maxHeartbeats 8000000 in
theorem ends_law (n : Nd) (A B : Option Addr) (c d : Nat) (i0 : Int) (w : World) (hn : NLies w n A B c d) :
    Calls Try.prog 5 #[ndV n A B c d, .int .i64 i0] w fun e w' => e = .returned (.bool true) ∧ Below w.heap.size w w' := by
  have HNC := Lib.hid (lightN_cases n)
  obtain ⟨k, l, z, sq, en⟩ := n
  have HB0 := Lib.hid ((Below.refl w.heap.size w).alloc (Nat.le_refl _) (.cells #[.int .i64 k, .int .i64 l, .int .i64 z, .slice A sq.length c, .slice B en.length d] 25))
  have HBX : Hid (BoxAt (w.alloc (.cells #[.int .i64 k, .int .i64 l, .int .i64 z, .slice A sq.length c, .slice B en.length d] 25)) w.heap.size k l z (.slice A sq.length c) (.slice B en.length d)) := Lib.hid (heap_alloc_new _ _)
  have HLA : Hid (∀ w1, NLies w1 ⟨k, l, z, sq, en⟩ A B c d → Calls Try.prog 8 #[.agg #[.int .i64 k, .int .i64 l, .int .i64 z, .slice A sq.length c, .slice B en.length d]] w1 fun x w' => x = .returned (.int .i64 (lightN ⟨k, l, z, sq, en⟩)) ∧ Below w1.heap.size w1 w') := Lib.hid fun w1 h => lightN_any ⟨k, l, z, sq, en⟩ A B c d w1 h
  have HM1 : Hid (∀ w1, NLies w1 ⟨k, l, z, sq, en⟩ A B c d → Calls Try.prog 12 #[.agg #[.int .i64 k, .int .i64 l, .int .i64 z, .slice A sq.length c, .slice B en.length d]] w1 fun x w' => x = .returned (.bool (mayNd ⟨k, l, z, sq, en⟩)) ∧ Below w1.heap.size w1 w') := Lib.hid fun w1 h => maynl_any ⟨k, l, z, sq, en⟩ A B c d w1 h
  have HM2 : Hid (∀ w1, NLies w1 ⟨k, l, z, sq, en⟩ A B c d → Calls Try.prog 13 #[.agg #[.int .i64 k, .int .i64 l, .int .i64 z, .slice A sq.length c, .slice B en.length d]] w1 fun x w' => x = .returned (.bool (mayNd ⟨k, l, z, sq, en⟩)) ∧ Below w1.heap.size w1 w') := Lib.hid fun w1 h => maynr_any ⟨k, l, z, sq, en⟩ A B c d w1 h
  obtain ⟨LA, hLA⟩ : ∃ L, lightN ⟨k, l, z, sq, en⟩ = L := ⟨_, rfl⟩
  obtain ⟨M, hM⟩ : ∃ L, mayNd ⟨k, l, z, sq, en⟩ = L := ⟨_, rfl⟩
  rw [hLA] at HNC HLA
  rw [hM] at HM1 HM2
  have hM := Lib.hid hM
  clear hLA
  go_enter Try.func5, Try.ntmps5
  go_upto_region 1 with (fail)
  generalize w.alloc _ = W at HBX HB0 ⊢
  obtain ⟨P, hP⟩ : ∃ P, P = w.heap.size := ⟨_, rfl⟩
  rw [← hP] at HBX ⊢
  clear hP
  have hz0 : Hid (P < W.heap.size) := Lib.hid (lt_size HBX.out)
  have HN : Hid (∀ w1, Below W.heap.size W w1 → NLies w1 ⟨k, l, z, sq, en⟩ A B c d) := Lib.hid fun w1 hb => (hn.below HB0.out).below hb
  have HK : Hid (∀ w1, Below W.heap.size W w1 → BoxAt w1 P k l z (.slice A sq.length c) (.slice B en.length d)) := Lib.hid fun w1 hb => HBX.out.below hb hz0.out
  clear hn
  obtain ⟨s0, s1, s2, s3, s4⟩ := HBX.out.cells
  rcases HNC.out with ⟨rfl, ha⟩ | rfl
  case inr =>
    go_wp2_with (first
      | (go_at_call 8; (with_reducible refine (HLA.out _ (HN.out _ (Below.refl _ _))).mono ?_); rintro e w1 ⟨rfl, hb1⟩; replace hb1 := Lib.hid hb1; obtain ⟨s0, s1, s2, s3, s4⟩ := (HK.out _ hb1.out).cells)
      | (go_at_call 9; (with_reducible refine (awake_any _).mono ?_); rintro e w11 ⟨rfl, hb11⟩; have HB2 := Lib.hid hb11; clear hb11)
      | fail)
    go_ret
    exact ⟨rfl, HB0.out.trans ((hb1.out.trans (HB2.out.mono hb1.out.size)).mono HB0.out.size)⟩
  have HA : Hid (sq.length ≤ 60 ∧ en.length ≤ 60) := Lib.hid ha
  clear ha
  cases M with
  | false =>
    go_wp2_with (first
      | (go_at_call 8; (with_reducible refine (HLA.out _ (HN.out _ (Below.refl _ _))).mono ?_); rintro e w1 ⟨rfl, hb1⟩; replace hb1 := Lib.hid hb1; obtain ⟨s0, s1, s2, s3, s4⟩ := (HK.out _ hb1.out).cells)
      | (go_at_call 12; (with_reducible refine (HM1.out _ (HN.out _ hb1.out)).mono ?_); rintro e w2 ⟨rfl, hb2⟩; replace hb2 := Lib.hid (hb1.out.trans (hb2.mono hb1.out.size)); obtain ⟨s0, s1, s2, s3, s4⟩ := (HK.out _ hb2.out).cells)
      | (go_at_call 9; (with_reducible refine (awake_any _).mono ?_); rintro e w11 ⟨rfl, hb11⟩; have HB2 := Lib.hid hb11; clear hb11)
      | fail)
    go_ret
    exact ⟨rfl, HB0.out.trans ((hb2.out.trans (HB2.out.mono hb2.out.size)).mono HB0.out.size)⟩
  | true =>
  by_cases hk : k = 1
  case neg =>
    have e1 : (k != 1) = true := by simpa using hk
    clear hk
    go_wp2_with (first
      | (go_at_call 8; (with_reducible refine (HLA.out _ (HN.out _ (Below.refl _ _))).mono ?_); rintro e w1 ⟨rfl, hb1⟩; replace hb1 := Lib.hid hb1; obtain ⟨s0, s1, s2, s3, s4⟩ := (HK.out _ hb1.out).cells)
      | (go_at_call 12; (with_reducible refine (HM1.out _ (HN.out _ hb1.out)).mono ?_); rintro e w2 ⟨rfl, hb2⟩; replace hb2 := Lib.hid (hb1.out.trans (hb2.mono hb1.out.size)); obtain ⟨s0, s1, s2, s3, s4⟩ := (HK.out _ hb2.out).cells)
      | (go_at_call 13; (with_reducible refine (HM2.out _ (HN.out _ hb2.out)).mono ?_); rintro e w3 ⟨rfl, hb3⟩; replace hb3 := Lib.hid (hb2.out.trans (hb3.mono hb2.out.size)); obtain ⟨s0, s1, s2, s3, s4⟩ := (HK.out _ hb3.out).cells)
      | (go_at_call 9; (with_reducible refine (awake_any _).mono ?_); rintro e w11 ⟨rfl, hb11⟩; have HB2 := Lib.hid hb11; clear hb11)
      | fail)
    go_ret
    exact ⟨rfl, HB0.out.trans ((hb3.out.trans (HB2.out.mono hb3.out.size)).mono HB0.out.size)⟩
  subst hk
  obtain ⟨I, hI, hI2⟩ := small12 i0
  have hIw : IntKind.i64.wrap (I : Int) = (I : Int) := i64w_idE _ (by omega)
  have HR1 : Hid (∀ w1, NLies w1 ⟨1, l, z, sq, en⟩ A B c d → Calls Try.prog 10 #[.int .i64 (I : Nat), .agg #[.int .i64 1, .int .i64 l, .int .i64 z, .slice A sq.length c, .slice B en.length d]] w1 (RPost w1 (refsN (I : Int) ⟨1, l, z, sq, en⟩))) := Lib.hid fun w1 h => refsl_any (I : Int) ⟨1, l, z, sq, en⟩ A B c d w1 h
  have HP1 : Hid (∀ w1, NLies w1 ⟨1, l, z, sq, en⟩ A B c d → Calls Try.prog 18 #[.agg #[.int .i64 1, .int .i64 l, .int .i64 z, .slice A sq.length c, .slice B en.length d]] w1 fun x w' => x = .returned (.int .i64 ((refsN (I : Int) ⟨1, l, z, sq, en⟩).length : Nat)) ∧ Below w1.heap.size w1 w') := Lib.hid fun w1 h => by
    have := pagesl_any ⟨1, l, z, sq, en⟩ A B c d w1 h
    rwa [← refsN_len (i := (I : Int)) (n := ⟨1, l, z, sq, en⟩) (by omega)] at this
  have HL5 := Lib.hid (refsN_most (I : Int) ⟨1, l, z, sq, en⟩)
  have HRF : Hid (refsN (I : Int) ⟨1, l, z, sq, en⟩ = rfsN (I : Int) 0 sq) := Lib.hid (refsN_file rfl hM.out (by omega) (by omega))
  have HMem : Hid (∀ r ∈ refsN (I : Int) ⟨1, l, z, sq, en⟩, sq.length = 5 ∧ ∃ q, ∃ (h : q < sq.length), r = (1 + (I : Int) * 5 + (q : Int), sq[q]) ∧ sq[q] ≠ 0 ∧ (q : Int) * 16 < z) := Lib.hid fun r hr => (refsN_mem hr).2.2
  have HRise : Hid ((refsN (I : Int) ⟨1, l, z, sq, en⟩).Pairwise fun a b => a.1 < b.1) := Lib.hid (by rw [HRF.out]; exact rfsN_rise)
  have F5 : Hid (sq.length ≤ 5) := Lib.hid (may_len hM.out)
  generalize refsN (I : Int) ⟨1, l, z, sq, en⟩ = L at HR1 HP1 HL5 HMem HRise
  clear HRF
  have hl5 := HL5.out
  have h5 := F5.out
  go_upto_region 9 with (first
    | (go_at_call 8; (with_reducible refine (HLA.out _ (HN.out _ (Below.refl _ _))).mono ?_); rintro e w1 ⟨rfl, hb1⟩; replace hb1 := Lib.hid hb1; obtain ⟨s0, s1, s2, s3, s4⟩ := (HK.out _ hb1.out).cells)
    | (go_at_call 12; (with_reducible refine (HM1.out _ (HN.out _ hb1.out)).mono ?_); rintro e w2 ⟨rfl, hb2⟩; replace hb2 := Lib.hid (hb1.out.trans (hb2.mono hb1.out.size)); obtain ⟨s0, s1, s2, s3, s4⟩ := (HK.out _ hb2.out).cells)
    | (go_at_call 13; (with_reducible refine (HM2.out _ (HN.out _ hb2.out)).mono ?_); rintro e w3 ⟨rfl, hb3⟩; replace hb3 := Lib.hid (hb2.out.trans (hb3.mono hb2.out.size)); obtain ⟨s0, s1, s2, s3, s4⟩ := (HK.out _ hb3.out).cells)
    | (go_at_call 10; (with_reducible refine (HR1.out _ (HN.out _ hb3.out)).mono ?_); rintro e w4 ⟨A4, c4, rfl, hl4, -, -, -, hb4⟩; have HO4 := Lib.hid hl4; clear hl4; have HB4 := Lib.hid (hb4); replace hb4 := Lib.hid (hb3.out.trans (hb4.mono hb3.out.size)); obtain ⟨s0, s1, s2, s3, s4⟩ := (HK.out _ hb4.out).cells)
    | (go_at_call 18; (with_reducible refine (HP1.out _ (HN.out _ hb4.out)).mono ?_); rintro e w5 ⟨rfl, hb5⟩; replace HO4 := Lib.hid (HO4.out.below hb5); replace hb5 := Lib.hid (hb4.out.trans (hb5.mono hb4.out.size)))
    | fail)
  replace HN := Lib.hid fun w1 (hb : Below w5.heap.size w5 w1) => HN.out w1 (hb5.out.trans (hb.mono hb5.out.size))
  replace HK := Lib.hid fun w1 (hb : Below w5.heap.size w5 w1) => HK.out w1 (hb5.out.trans (hb.mono hb5.out.size))
  replace HB0 := Lib.hid (HB0.out.trans (hb5.out.mono HB0.out.size))
  clear hb1 hb2 hb3 hb4 hb5 HB4 HR1 HP1 HM1 HM2 HLA HBX hz0 HNC
  go_loopw [6, 8, 9, 10, 45] (fun v6 _ _ _ v45 wr => ∃ (jx : Nat) (la : Int), jx ≤ L.length ∧ v45 = .int .i64 jx ∧ v6 = .int .i64 la ∧ Hid (lastOf sq I L jx la) ∧ Hid (Below w5.heap.size w5 wr)) (fun _ _ _ _ v45 _ => L.length - (RowKit.intOf v45).toNat)
  case atStart => exact ⟨0, -1, Nat.zero_le _, rfl, rfl, Lib.hid (.inl ⟨rfl, rfl⟩), Lib.hid (Below.refl _ _)⟩
  case round =>
    obtain ⟨jx, la, hj, rfl, rfl, HLast, HBR⟩ := hrel
    by_cases hj1 : jx < L.length
    · have d2 : decide ((jx : Int) < (L.length : Int)) = true := decide_eq_true (by omega)
      obtain ⟨B1, o1, rfl, hBs, hcc⟩ := (HO4.out.below HBR.out) (by omega)
      obtain ⟨q0, q1⟩ := hcc jx hj1
      obtain ⟨-, q, hq, hr, hne, hqz⟩ := HMem.out _ (List.getElem_mem hj1)
      have HLT : Hid (la < (q : Int)) := Lib.hid (by
        rcases HLast.out with ⟨_, rfl⟩ | ⟨h0, q', hq', rfl, _, hl⟩
        · omega
        · have h1 := List.pairwise_iff_getElem.1 HRise.out (jx - 1) jx (by omega) hj1 (by omega)
          rw [hl (by omega), hr] at h1
          dsimp only at h1
          omega)
      have HR0 : Hid (L[jx].1 = 1 + (I : Int) * 5 + (q : Int)) := Lib.hid (by rw [hr])
      have HNE := Lib.hid hne
      obtain ⟨Bq, oq, rfl, hBq, hcq⟩ := (HN.out _ HBR.out).sq (show 0 < sq.length by omega)
      have k0 := hcq q hq
      dsimp only at k0
      rw [hr] at q0 q1
      dsimp only at q0 q1
      obtain ⟨R, hR⟩ : ∃ R, 1 + (I : Int) * 5 + (q : Int) = R := ⟨_, rfl⟩
      have hsp := fun w1 : World => splitpage_any R w1
      rw [← hR, splitS_in (a := (I : Int)) (by omega) (by omega) (show q < 5 by omega)] at hsp
      rw [hR] at hsp q0
      have HSP := Lib.hid hsp
      have HQN := Lib.hid hq
      obtain ⟨s, hs⟩ : ∃ s, sq[q]'hq = s := ⟨_, rfl⟩
      replace q1 : wr.cell? ⟨B1, o1 + jx * 2 + 1, none⟩ = some (.int .i64 s) := by rw [← hs]; exact q1
      replace k0 : wr.cell? ⟨Bq, oq + q, none⟩ = some (.int .i64 s) := by rw [← hs]; exact k0
      have HQ : Hid (q < sq.length) := Lib.hid hq
      have HQZ : Hid ((q : Int) * 16 < z) := Lib.hid hqz
      have HWQ : Hid (IntKind.i64.wrap ((q : Int) * 16) = (q : Int) * 16) := Lib.hid (i64w_idE _ (by omega))
      have HIX : Hid (∀ w, (Instr.indexAt 22 (.slice (some ⟨Bq, oq, none⟩) sq.length c) (.int .i64 (q : Nat))).run Try.prog w = .ok (.pointer (some ⟨Bq, oq + q, none⟩)) w) := Lib.hid fun w => by
        have e0 : ¬ ((q : Int) < 0) := by omega
        simp [go_sem, hq]
      have HB5 := Lib.hid (HBR.out.alloc HBR.out.size (.cells #[.int .i64 R, .int .i64 s] 31))
      have HX5 := Lib.hid (heap_alloc_new wr (.cells #[.int .i64 R, .int .i64 s] 31))
      have HBY := Lib.hid ((Below.refl wr.heap.size wr).alloc (Nat.le_refl _) (.cells #[.int .i64 R, .int .i64 s] 31))
      clear hcc hcq hr hne hqz hsp hs hR
      go_upto_region 11 with (fail)
      generalize wr.alloc _ = Y at HB5 HX5 HBY ⊢
      obtain ⟨b, hb⟩ : ∃ p, p = wr.heap.size := ⟨_, rfl⟩
      rw [← hb] at HX5 ⊢
      have hbY : Hid (b < Y.heap.size) := Lib.hid (lt_size HX5.out)
      have HKY : Hid (∀ w1, Below Y.heap.size Y w1 → w1.cell? ⟨P, 2, none⟩ = some (.int .i64 z) ∧ w1.cell? ⟨P, 3, none⟩ = some (.slice (some ⟨Bq, oq, none⟩) sq.length c) ∧ w1.cell? ⟨Bq, oq + q, none⟩ = some (.int .i64 s) ∧ w1.cell? ⟨b, 1, none⟩ = some (.int .i64 s)) := Lib.hid fun w1 h => by
        have h1 := (HK.out _ (HB5.out.trans (h.mono HB5.out.size))).cells
        have h2 := (h.block b hbY.out).trans HX5.out
        refine ⟨h1.2.2.1, h1.2.2.2.1, (h.cell (p := ⟨Bq, oq + q, none⟩) (Nat.lt_of_lt_of_le hBq HBY.out.size)).trans ((HBY.out.cell (p := ⟨Bq, oq + q, none⟩) hBq).trans k0), by simp [World.cell?, h2]⟩
      have u0 : Y.cell? ⟨b, 0, none⟩ = some (.int .i64 R) := by have := HX5.out; simp [World.cell?, this]
      clear hb q0 q1 k0
      go_upto_region 12 with (first
        | (go_at_call 22; (with_reducible refine (HSP.out _).mono ?_); rintro e w8 ⟨rfl, rfl⟩)
        | fail)
      refine region_st (fun j v w' => match j with | 0 => v = .int .i64 (I : Nat) | 1 => v = .int .i64 (I : Nat) | 2 => v = .bool false | 3 => v = .bool false | 4 => v = .int .i64 (q : Nat) | 5 => v = .int .i64 la | 6 => v = .bool false | 7 => v = .bool false | 8 => v = .bool false | 9 => v = .int .i64 (q : Nat) | 10 => v = .pointer (some ⟨P, 3, none⟩) | 11 => v = .slice (some ⟨Bq, oq, none⟩) sq.length c | 12 => v = .int .i64 (sq.length : Nat) | 13 => v = .bool false | 14 => v = .bool false | 15 => v = .bool false | 16 => v = .int .i64 (q : Nat) | 17 => v = .int .i64 ((q : Nat) * 16) | 18 => v = .pointer (some ⟨P, 2, none⟩) | 19 => v = .int .i64 z | 20 => v = .bool false | 21 => v = .bool false | 22 => v = .bool false | 23 => v = .pointer (some ⟨P, 3, none⟩) | 24 => v = .slice (some ⟨Bq, oq, none⟩) sq.length c | 25 => v = .int .i64 (q : Nat) | 26 => v = .pointer (some ⟨Bq, oq + q, none⟩) | 27 => v = .int .i64 s | 28 => v = .pointer (some ⟨b, 1, none⟩) | 29 => v = .int .i64 s | 30 => v = .bool false | 31 => v = .bool false | _ => True) (fun _ w' => Below Y.heap.size Y w') (fun w1 w2 => Below w1.heap.size w1 w2) (by kernel_rfl) (by kernel_rfl) (by kernel_rfl) ?hR ?hG ?hops ?hend
      case hR =>
        intro j v w1 w2 hv hb
        match j, hv with
        | 0, hv => exact hv
        | 1, hv => exact hv
        | 2, hv => exact hv
        | 3, hv => exact hv
        | 4, hv => exact hv
        | 5, hv => exact hv
        | 6, hv => exact hv
        | 7, hv => exact hv
        | 8, hv => exact hv
        | 9, hv => exact hv
        | 10, hv => exact hv
        | 11, hv => exact hv
        | 12, hv => exact hv
        | 13, hv => exact hv
        | 14, hv => exact hv
        | 15, hv => exact hv
        | 16, hv => exact hv
        | 17, hv => exact hv
        | 18, hv => exact hv
        | 19, hv => exact hv
        | 20, hv => exact hv
        | 21, hv => exact hv
        | 22, hv => exact hv
        | 23, hv => exact hv
        | 24, hv => exact hv
        | 25, hv => exact hv
        | 26, hv => exact hv
        | 27, hv => exact hv
        | 28, hv => exact hv
        | 29, hv => exact hv
        | 30, hv => exact hv
        | 31, hv => exact hv
        | _ + 32, _ => exact trivial
      case hG => exact (Below.refl _ _).drew
      case hops =>
        refine OpsOkS.cons ?o0 (OpsOkS.cons ?o1 (OpsOkS.cons ?o2 (OpsOkS.cons ?o3 (OpsOkS.cons ?o4 (OpsOkS.cons ?o5 (OpsOkS.cons ?o6 (OpsOkS.cons ?o7 (OpsOkS.cons ?o8 (OpsOkS.cons ?o9 (OpsOkS.cons ?o10 (OpsOkS.cons ?o11 (OpsOkS.cons ?o12 (OpsOkS.cons ?o13 (OpsOkS.cons ?o14 (OpsOkS.cons ?o15 (OpsOkS.cons ?o16 (OpsOkS.cons ?o17 (OpsOkS.cons ?o18 (OpsOkS.cons ?o19 (OpsOkS.cons ?o20 (OpsOkS.cons ?o21 (OpsOkS.cons ?o22 (OpsOkS.cons ?o23 (OpsOkS.cons ?o24 (OpsOkS.cons ?o25 (OpsOkS.cons ?o26 (OpsOkS.cons ?o27 (OpsOkS.cons ?o28 (OpsOkS.cons ?o29 (OpsOkS.cons ?o30 (OpsOkS.cons ?o31 OpsOkS.nil)))))))))))))))))))))))))))))))
        case o0 =>
          intro a w1 Kx hG need old hsz fresh hKx
          have e0 : a.tmps[9]?.getD undef = .int .i64 (I : Nat) := by rw [← Array.getD_eq_getD_getElem?]; exact old 9 (by kernel_rfl)
          refine op_value (v := .int .i64 (I : Nat)) (wanted_none rfl) ?_ (hKx _ w1 rfl hG (Below.refl _ _))
          simp [execOp, go_sem, e0]
        case o1 =>
          intro a w1 Kx hG need old hsz fresh hKx
          have e0 : a.tmps[1]?.getD undef = .int .i64 (I : Nat) := by rw [← Array.getD_eq_getD_getElem?]; exact old 1 (by kernel_rfl)
          refine op_value (v := .int .i64 (I : Nat)) (wanted_none rfl) ?_ (hKx _ w1 rfl hG (Below.refl _ _))
          simp [execOp, go_sem, e0]
        case o2 =>
          intro a w1 Kx hG need old hsz fresh hKx
          have e0 : a.tmps[55]?.getD undef = .int .i64 (I : Nat) := by rw [← Array.getD_eq_getD_getElem?]; exact (need 0 (by kernel_rfl) (by kernel_rfl))
          have e1 : a.tmps[56]?.getD undef = .int .i64 (I : Nat) := by rw [← Array.getD_eq_getD_getElem?]; exact (need 1 (by kernel_rfl) (by kernel_rfl))
          refine op_value (v := .bool false) (wanted_none rfl) ?_ (hKx _ w1 rfl hG (Below.refl _ _))
          simp [execOp, go_sem, e0, e1]
        case o3 =>
          intro a w1 Kx hG need old hsz fresh hKx
          have e0 : a.tmps[57]?.getD undef = .bool false := by rw [← Array.getD_eq_getD_getElem?]; exact (need 2 (by kernel_rfl) (by kernel_rfl))
          refine op_value (v := .bool false) (wanted_none rfl) ?_ (hKx _ w1 rfl hG (Below.refl _ _))
          simp [execOp, go_sem, e0]
        case o4 =>
          intro a w1 Kx hG need old hsz fresh hKx
          have e0 : a.tmps[10]?.getD undef = .int .i64 (q : Nat) := by rw [← Array.getD_eq_getD_getElem?]; exact old 10 (by kernel_rfl)
          refine op_value (v := .int .i64 (q : Nat)) (wanted_of (j := 3) rfl (need 3 (by kernel_rfl) (by kernel_rfl))) ?_ (hKx _ w1 rfl hG (Below.refl _ _))
          simp [execOp, go_sem, e0]
        case o5 =>
          intro a w1 Kx hG need old hsz fresh hKx
          have e0 : a.tmps[6]?.getD undef = .int .i64 la := by rw [← Array.getD_eq_getD_getElem?]; exact old 6 (by kernel_rfl)
          refine op_value (v := .int .i64 la) (wanted_of (j := 3) rfl (need 3 (by kernel_rfl) (by kernel_rfl))) ?_ (hKx _ w1 rfl hG (Below.refl _ _))
          simp [execOp, go_sem, e0]
        case o6 =>
          intro a w1 Kx hG need old hsz fresh hKx
          have e0 : a.tmps[59]?.getD undef = .int .i64 (q : Nat) := by rw [← Array.getD_eq_getD_getElem?]; exact (need 4 (by kernel_rfl) (by kernel_rfl))
          have e1 : a.tmps[60]?.getD undef = .int .i64 la := by rw [← Array.getD_eq_getD_getElem?]; exact (need 5 (by kernel_rfl) (by kernel_rfl))
          refine op_value (v := .bool false) (wanted_of (j := 3) rfl (need 3 (by kernel_rfl) (by kernel_rfl))) ?_ (hKx _ w1 rfl hG (Below.refl _ _))
          simp [execOp, go_sem, e0, e1]; exact HLT.out
        case o7 =>
          intro a w1 Kx hG need old hsz fresh hKx
          have e0 : a.tmps[58]?.getD undef = .bool false := by rw [← Array.getD_eq_getD_getElem?]; exact (need 3 (by kernel_rfl) (by kernel_rfl))
          have e1 : a.tmps[61]?.getD undef = .bool false := by rw [← Array.getD_eq_getD_getElem?]; exact (need 6 (by kernel_rfl) (by kernel_rfl))
          refine op_value (v := .bool false) (wanted_none rfl) ?_ (hKx _ w1 rfl hG (Below.refl _ _))
          simp [execOp, go_sem, asBool, e0, e1]
        case o8 =>
          intro a w1 Kx hG need old hsz fresh hKx
          have e0 : a.tmps[62]?.getD undef = .bool false := by rw [← Array.getD_eq_getD_getElem?]; exact (need 7 (by kernel_rfl) (by kernel_rfl))
          refine op_value (v := .bool false) (wanted_none rfl) ?_ (hKx _ w1 rfl hG (Below.refl _ _))
          simp [execOp, go_sem, e0]
        case o9 =>
          intro a w1 Kx hG need old hsz fresh hKx
          have e0 : a.tmps[10]?.getD undef = .int .i64 (q : Nat) := by rw [← Array.getD_eq_getD_getElem?]; exact old 10 (by kernel_rfl)
          refine op_value (v := .int .i64 (q : Nat)) (wanted_of (j := 8) rfl (need 8 (by kernel_rfl) (by kernel_rfl))) ?_ (hKx _ w1 rfl hG (Below.refl _ _))
          simp [execOp, go_sem, e0]
        case o10 =>
          intro a w1 Kx hG need old hsz fresh hKx
          have e0 : a.tmps[2]?.getD undef = .pointer (some ⟨P, 0, none⟩) := by rw [← Array.getD_eq_getD_getElem?]; exact old 2 (by kernel_rfl)
          refine op_value (v := .pointer (some ⟨P, 3, none⟩)) (wanted_of (j := 8) rfl (need 8 (by kernel_rfl) (by kernel_rfl))) ?_ (hKx _ w1 rfl hG (Below.refl _ _))
          simp [execOp, go_sem, e0]
        case o11 =>
          intro a w1 Kx hG need old hsz fresh hKx
          have e0 : a.tmps[65]?.getD undef = .pointer (some ⟨P, 3, none⟩) := by rw [← Array.getD_eq_getD_getElem?]; exact (need 10 (by kernel_rfl) (by kernel_rfl))
          have k0 := (HKY.out w1 hG).2.1
          refine op_value (v := .slice (some ⟨Bq, oq, none⟩) sq.length c) (wanted_of (j := 8) rfl (need 8 (by kernel_rfl) (by kernel_rfl))) ?_ (hKx _ w1 rfl hG (Below.refl _ _))
          simp [execOp, go_sem, e0, k0]
        case o12 =>
          intro a w1 Kx hG need old hsz fresh hKx
          have e0 : a.tmps[66]?.getD undef = .slice (some ⟨Bq, oq, none⟩) sq.length c := by rw [← Array.getD_eq_getD_getElem?]; exact (need 11 (by kernel_rfl) (by kernel_rfl))
          refine op_value (v := .int .i64 (sq.length : Nat)) (wanted_of (j := 8) rfl (need 8 (by kernel_rfl) (by kernel_rfl))) ?_ (hKx _ w1 rfl hG (Below.refl _ _))
          simp [go_sem, e0]
        case o13 =>
          intro a w1 Kx hG need old hsz fresh hKx
          have e0 : a.tmps[64]?.getD undef = .int .i64 (q : Nat) := by rw [← Array.getD_eq_getD_getElem?]; exact (need 9 (by kernel_rfl) (by kernel_rfl))
          have e1 : a.tmps[67]?.getD undef = .int .i64 (sq.length : Nat) := by rw [← Array.getD_eq_getD_getElem?]; exact (need 12 (by kernel_rfl) (by kernel_rfl))
          refine op_value (v := .bool false) (wanted_of (j := 8) rfl (need 8 (by kernel_rfl) (by kernel_rfl))) ?_ (hKx _ w1 rfl hG (Below.refl _ _))
          simp [execOp, go_sem, e0, e1]; exact HQ.out
        case o14 =>
          intro a w1 Kx hG need old hsz fresh hKx
          have e0 : a.tmps[63]?.getD undef = .bool false := by rw [← Array.getD_eq_getD_getElem?]; exact (need 8 (by kernel_rfl) (by kernel_rfl))
          have e1 : a.tmps[68]?.getD undef = .bool false := by rw [← Array.getD_eq_getD_getElem?]; exact (need 13 (by kernel_rfl) (by kernel_rfl))
          refine op_value (v := .bool false) (wanted_none rfl) ?_ (hKx _ w1 rfl hG (Below.refl _ _))
          simp [execOp, go_sem, asBool, e0, e1]
        case o15 =>
          intro a w1 Kx hG need old hsz fresh hKx
          have e0 : a.tmps[69]?.getD undef = .bool false := by rw [← Array.getD_eq_getD_getElem?]; exact (need 14 (by kernel_rfl) (by kernel_rfl))
          refine op_value (v := .bool false) (wanted_none rfl) ?_ (hKx _ w1 rfl hG (Below.refl _ _))
          simp [execOp, go_sem, e0]
        case o16 =>
          intro a w1 Kx hG need old hsz fresh hKx
          have e0 : a.tmps[10]?.getD undef = .int .i64 (q : Nat) := by rw [← Array.getD_eq_getD_getElem?]; exact old 10 (by kernel_rfl)
          refine op_value (v := .int .i64 (q : Nat)) (wanted_of (j := 15) rfl (need 15 (by kernel_rfl) (by kernel_rfl))) ?_ (hKx _ w1 rfl hG (Below.refl _ _))
          simp [execOp, go_sem, e0]
        case o17 =>
          intro a w1 Kx hG need old hsz fresh hKx
          have e0 : a.tmps[71]?.getD undef = .int .i64 (q : Nat) := by rw [← Array.getD_eq_getD_getElem?]; exact (need 16 (by kernel_rfl) (by kernel_rfl))
          refine op_value (v := .int .i64 ((q : Nat) * 16)) (wanted_of (j := 15) rfl (need 15 (by kernel_rfl) (by kernel_rfl))) ?_ (hKx _ w1 rfl hG (Below.refl _ _))
          simp [execOp, go_sem, e0, HWQ.out]
        case o18 =>
          intro a w1 Kx hG need old hsz fresh hKx
          have e0 : a.tmps[2]?.getD undef = .pointer (some ⟨P, 0, none⟩) := by rw [← Array.getD_eq_getD_getElem?]; exact old 2 (by kernel_rfl)
          refine op_value (v := .pointer (some ⟨P, 2, none⟩)) (wanted_of (j := 15) rfl (need 15 (by kernel_rfl) (by kernel_rfl))) ?_ (hKx _ w1 rfl hG (Below.refl _ _))
          simp [execOp, go_sem, e0]
        case o19 =>
          intro a w1 Kx hG need old hsz fresh hKx
          have e0 : a.tmps[73]?.getD undef = .pointer (some ⟨P, 2, none⟩) := by rw [← Array.getD_eq_getD_getElem?]; exact (need 18 (by kernel_rfl) (by kernel_rfl))
          have k0 := (HKY.out w1 hG).1
          refine op_value (v := .int .i64 z) (wanted_of (j := 15) rfl (need 15 (by kernel_rfl) (by kernel_rfl))) ?_ (hKx _ w1 rfl hG (Below.refl _ _))
          simp [execOp, go_sem, e0, k0]
        case o20 =>
          intro a w1 Kx hG need old hsz fresh hKx
          have e0 : a.tmps[72]?.getD undef = .int .i64 ((q : Nat) * 16) := by rw [← Array.getD_eq_getD_getElem?]; exact (need 17 (by kernel_rfl) (by kernel_rfl))
          have e1 : a.tmps[74]?.getD undef = .int .i64 z := by rw [← Array.getD_eq_getD_getElem?]; exact (need 19 (by kernel_rfl) (by kernel_rfl))
          refine op_value (v := .bool false) (wanted_of (j := 15) rfl (need 15 (by kernel_rfl) (by kernel_rfl))) ?_ (hKx _ w1 rfl hG (Below.refl _ _))
          simp [execOp, go_sem, e0, e1]; exact HQZ.out
        case o21 =>
          intro a w1 Kx hG need old hsz fresh hKx
          have e0 : a.tmps[70]?.getD undef = .bool false := by rw [← Array.getD_eq_getD_getElem?]; exact (need 15 (by kernel_rfl) (by kernel_rfl))
          have e1 : a.tmps[75]?.getD undef = .bool false := by rw [← Array.getD_eq_getD_getElem?]; exact (need 20 (by kernel_rfl) (by kernel_rfl))
          refine op_value (v := .bool false) (wanted_none rfl) ?_ (hKx _ w1 rfl hG (Below.refl _ _))
          simp [execOp, go_sem, asBool, e0, e1]
        case o22 =>
          intro a w1 Kx hG need old hsz fresh hKx
          have e0 : a.tmps[76]?.getD undef = .bool false := by rw [← Array.getD_eq_getD_getElem?]; exact (need 21 (by kernel_rfl) (by kernel_rfl))
          refine op_value (v := .bool false) (wanted_none rfl) ?_ (hKx _ w1 rfl hG (Below.refl _ _))
          simp [execOp, go_sem, e0]
        case o23 =>
          intro a w1 Kx hG need old hsz fresh hKx
          have e0 : a.tmps[2]?.getD undef = .pointer (some ⟨P, 0, none⟩) := by rw [← Array.getD_eq_getD_getElem?]; exact old 2 (by kernel_rfl)
          refine op_value (v := .pointer (some ⟨P, 3, none⟩)) (wanted_of (j := 22) rfl (need 22 (by kernel_rfl) (by kernel_rfl))) ?_ (hKx _ w1 rfl hG (Below.refl _ _))
          simp [execOp, go_sem, e0]
        case o24 =>
          intro a w1 Kx hG need old hsz fresh hKx
          have e0 : a.tmps[78]?.getD undef = .pointer (some ⟨P, 3, none⟩) := by rw [← Array.getD_eq_getD_getElem?]; exact (need 23 (by kernel_rfl) (by kernel_rfl))
          have k0 := (HKY.out w1 hG).2.1
          refine op_value (v := .slice (some ⟨Bq, oq, none⟩) sq.length c) (wanted_of (j := 22) rfl (need 22 (by kernel_rfl) (by kernel_rfl))) ?_ (hKx _ w1 rfl hG (Below.refl _ _))
          simp [execOp, go_sem, e0, k0]
        case o25 =>
          intro a w1 Kx hG need old hsz fresh hKx
          have e0 : a.tmps[10]?.getD undef = .int .i64 (q : Nat) := by rw [← Array.getD_eq_getD_getElem?]; exact old 10 (by kernel_rfl)
          refine op_value (v := .int .i64 (q : Nat)) (wanted_of (j := 22) rfl (need 22 (by kernel_rfl) (by kernel_rfl))) ?_ (hKx _ w1 rfl hG (Below.refl _ _))
          simp [execOp, go_sem, e0]
        case o26 =>
          intro a w1 Kx hG need old hsz fresh hKx
          have e0 : a.tmps[79]?.getD undef = .slice (some ⟨Bq, oq, none⟩) sq.length c := by rw [← Array.getD_eq_getD_getElem?]; exact (need 24 (by kernel_rfl) (by kernel_rfl))
          have e1 : a.tmps[80]?.getD undef = .int .i64 (q : Nat) := by rw [← Array.getD_eq_getD_getElem?]; exact (need 25 (by kernel_rfl) (by kernel_rfl))
          refine op_value (v := .pointer (some ⟨Bq, oq + q, none⟩)) (wanted_of (j := 22) rfl (need 22 (by kernel_rfl) (by kernel_rfl))) ?_ (hKx _ w1 rfl hG (Below.refl _ _))
          simp [execOp, go_sem, e0, e1, HIX.out]
        case o27 =>
          intro a w1 Kx hG need old hsz fresh hKx
          have e0 : a.tmps[81]?.getD undef = .pointer (some ⟨Bq, oq + q, none⟩) := by rw [← Array.getD_eq_getD_getElem?]; exact (need 26 (by kernel_rfl) (by kernel_rfl))
          have k0 := (HKY.out w1 hG).2.2.1
          refine op_value (v := .int .i64 s) (wanted_of (j := 22) rfl (need 22 (by kernel_rfl) (by kernel_rfl))) ?_ (hKx _ w1 rfl hG (Below.refl _ _))
          simp [execOp, go_sem, e0, k0]
        case o28 =>
          intro a w1 Kx hG need old hsz fresh hKx
          have e0 : a.tmps[8]?.getD undef = .pointer (some ⟨b, 0, none⟩) := by rw [← Array.getD_eq_getD_getElem?]; exact old 8 (by kernel_rfl)
          refine op_value (v := .pointer (some ⟨b, 1, none⟩)) (wanted_of (j := 22) rfl (need 22 (by kernel_rfl) (by kernel_rfl))) ?_ (hKx _ w1 rfl hG (Below.refl _ _))
          simp [execOp, go_sem, e0]
        case o29 =>
          intro a w1 Kx hG need old hsz fresh hKx
          have e0 : a.tmps[83]?.getD undef = .pointer (some ⟨b, 1, none⟩) := by rw [← Array.getD_eq_getD_getElem?]; exact (need 28 (by kernel_rfl) (by kernel_rfl))
          have k0 := (HKY.out w1 hG).2.2.2
          refine op_value (v := .int .i64 s) (wanted_of (j := 22) rfl (need 22 (by kernel_rfl) (by kernel_rfl))) ?_ (hKx _ w1 rfl hG (Below.refl _ _))
          simp [execOp, go_sem, e0, k0]
        case o30 =>
          intro a w1 Kx hG need old hsz fresh hKx
          have e0 : a.tmps[82]?.getD undef = .int .i64 s := by rw [← Array.getD_eq_getD_getElem?]; exact (need 27 (by kernel_rfl) (by kernel_rfl))
          have e1 : a.tmps[84]?.getD undef = .int .i64 s := by rw [← Array.getD_eq_getD_getElem?]; exact (need 29 (by kernel_rfl) (by kernel_rfl))
          refine op_value (v := .bool false) (wanted_of (j := 22) rfl (need 22 (by kernel_rfl) (by kernel_rfl))) ?_ (hKx _ w1 rfl hG (Below.refl _ _))
          simp [execOp, go_sem, e0, e1]
        case o31 =>
          intro a w1 Kx hG need old hsz fresh hKx
          have e0 : a.tmps[77]?.getD undef = .bool false := by rw [← Array.getD_eq_getD_getElem?]; exact (need 22 (by kernel_rfl) (by kernel_rfl))
          have e1 : a.tmps[85]?.getD undef = .bool false := by rw [← Array.getD_eq_getD_getElem?]; exact (need 30 (by kernel_rfl) (by kernel_rfl))
          refine op_value (v := .bool false) (wanted_none rfl) ?_ (hKx _ w1 rfl hG (Below.refl _ _))
          simp [execOp, go_sem, asBool, e0, e1]
      case hend =>
        intro a w6 hG hde hsz hφ hold
        obtain rfl := act_puts [(55, .int .i64 (I : Nat)), (56, .int .i64 (I : Nat)), (57, .bool false), (58, .bool false), (59, .int .i64 (q : Nat)), (60, .int .i64 la), (61, .bool false), (62, .bool false), (63, .bool false), (64, .int .i64 (q : Nat)), (65, .pointer (some ⟨P, 3, none⟩)), (66, .slice (some ⟨Bq, oq, none⟩) sq.length c), (67, .int .i64 (sq.length : Nat)), (68, .bool false), (69, .bool false), (70, .bool false), (71, .int .i64 (q : Nat)), (72, .int .i64 ((q : Nat) * 16)), (73, .pointer (some ⟨P, 2, none⟩)), (74, .int .i64 z), (75, .bool false), (76, .bool false), (77, .bool false), (78, .pointer (some ⟨P, 3, none⟩)), (79, .slice (some ⟨Bq, oq, none⟩) sq.length c), (80, .int .i64 (q : Nat)), (81, .pointer (some ⟨Bq, oq + q, none⟩)), (82, .int .i64 s), (83, .pointer (some ⟨b, 1, none⟩)), (84, .int .i64 s), (85, .bool false), (86, .bool false)] [55, 56, 57, 58, 59, 60, 61, 62, 63, 64, 65, 66, 67, 68, 69, 70, 71, 72, 73, 74, 75, 76, 77, 78, 79, 80, 81, 82, 83, 84, 85, 86] rfl (by kernel_rfl) (by kernel_rfl) hde hsz (List.forall_mem_cons.2 ⟨(show a.tmps.getD 55 undef = .int .i64 (I : Nat) from (hφ 0 (by kernel_rfl))), (List.forall_mem_cons.2 ⟨(show a.tmps.getD 56 undef = .int .i64 (I : Nat) from (hφ 1 (by kernel_rfl))), (List.forall_mem_cons.2 ⟨(show a.tmps.getD 57 undef = .bool false from (hφ 2 (by kernel_rfl))), (List.forall_mem_cons.2 ⟨(show a.tmps.getD 58 undef = .bool false from (hφ 3 (by kernel_rfl))), (List.forall_mem_cons.2 ⟨(show a.tmps.getD 59 undef = .int .i64 (q : Nat) from (hφ 4 (by kernel_rfl))), (List.forall_mem_cons.2 ⟨(show a.tmps.getD 60 undef = .int .i64 la from (hφ 5 (by kernel_rfl))), (List.forall_mem_cons.2 ⟨(show a.tmps.getD 61 undef = .bool false from (hφ 6 (by kernel_rfl))), (List.forall_mem_cons.2 ⟨(show a.tmps.getD 62 undef = .bool false from (hφ 7 (by kernel_rfl))), (List.forall_mem_cons.2 ⟨(show a.tmps.getD 63 undef = .bool false from (hφ 8 (by kernel_rfl))), (List.forall_mem_cons.2 ⟨(show a.tmps.getD 64 undef = .int .i64 (q : Nat) from (hφ 9 (by kernel_rfl))), (List.forall_mem_cons.2 ⟨(show a.tmps.getD 65 undef = .pointer (some ⟨P, 3, none⟩) from (hφ 10 (by kernel_rfl))), (List.forall_mem_cons.2 ⟨(show a.tmps.getD 66 undef = .slice (some ⟨Bq, oq, none⟩) sq.length c from (hφ 11 (by kernel_rfl))), (List.forall_mem_cons.2 ⟨(show a.tmps.getD 67 undef = .int .i64 (sq.length : Nat) from (hφ 12 (by kernel_rfl))), (List.forall_mem_cons.2 ⟨(show a.tmps.getD 68 undef = .bool false from (hφ 13 (by kernel_rfl))), (List.forall_mem_cons.2 ⟨(show a.tmps.getD 69 undef = .bool false from (hφ 14 (by kernel_rfl))), (List.forall_mem_cons.2 ⟨(show a.tmps.getD 70 undef = .bool false from (hφ 15 (by kernel_rfl))), (List.forall_mem_cons.2 ⟨(show a.tmps.getD 71 undef = .int .i64 (q : Nat) from (hφ 16 (by kernel_rfl))), (List.forall_mem_cons.2 ⟨(show a.tmps.getD 72 undef = .int .i64 ((q : Nat) * 16) from (hφ 17 (by kernel_rfl))), (List.forall_mem_cons.2 ⟨(show a.tmps.getD 73 undef = .pointer (some ⟨P, 2, none⟩) from (hφ 18 (by kernel_rfl))), (List.forall_mem_cons.2 ⟨(show a.tmps.getD 74 undef = .int .i64 z from (hφ 19 (by kernel_rfl))), (List.forall_mem_cons.2 ⟨(show a.tmps.getD 75 undef = .bool false from (hφ 20 (by kernel_rfl))), (List.forall_mem_cons.2 ⟨(show a.tmps.getD 76 undef = .bool false from (hφ 21 (by kernel_rfl))), (List.forall_mem_cons.2 ⟨(show a.tmps.getD 77 undef = .bool false from (hφ 22 (by kernel_rfl))), (List.forall_mem_cons.2 ⟨(show a.tmps.getD 78 undef = .pointer (some ⟨P, 3, none⟩) from (hφ 23 (by kernel_rfl))), (List.forall_mem_cons.2 ⟨(show a.tmps.getD 79 undef = .slice (some ⟨Bq, oq, none⟩) sq.length c from (hφ 24 (by kernel_rfl))), (List.forall_mem_cons.2 ⟨(show a.tmps.getD 80 undef = .int .i64 (q : Nat) from (hφ 25 (by kernel_rfl))), (List.forall_mem_cons.2 ⟨(show a.tmps.getD 81 undef = .pointer (some ⟨Bq, oq + q, none⟩) from (hφ 26 (by kernel_rfl))), (List.forall_mem_cons.2 ⟨(show a.tmps.getD 82 undef = .int .i64 s from (hφ 27 (by kernel_rfl))), (List.forall_mem_cons.2 ⟨(show a.tmps.getD 83 undef = .pointer (some ⟨b, 1, none⟩) from (hφ 28 (by kernel_rfl))), (List.forall_mem_cons.2 ⟨(show a.tmps.getD 84 undef = .int .i64 s from (hφ 29 (by kernel_rfl))), (List.forall_mem_cons.2 ⟨(show a.tmps.getD 85 undef = .bool false from (hφ 30 (by kernel_rfl))), (List.forall_mem_cons.2 ⟨(show a.tmps.getD 86 undef = .bool false from (hφ 31 (by kernel_rfl))), (fun _ h => absurd h (by simp))⟩)⟩)⟩)⟩)⟩)⟩)⟩)⟩)⟩)⟩)⟩)⟩)⟩)⟩)⟩)⟩)⟩)⟩)⟩)⟩)⟩)⟩)⟩)⟩)⟩)⟩)⟩)⟩)⟩)⟩)⟩)⟩) hold
        clear hφ hold hsz hde
        simp only [putAll]
        go_frame
        go_wp2_with fail
        go_roundw
        case rel => exact ⟨jx + 1, (q : Int), by omega, by go_num, rfl, Lib.hid (.inr ⟨by omega, q, HQ.out, rfl, HNE.out, fun _ => HR0.out⟩), Lib.hid (HB5.out.trans (hG.mono HB5.out.size))⟩
        case measure => simp [RowKit.intOf]; omega
    · have d2 : decide ((jx : Int) < (L.length : Int)) = false := decide_eq_false (by omega)
      have HCP : Hid (∀ w1, NLies w1 ⟨1, l, z, sq, en⟩ A B c d → Calls Try.prog 20 #[.agg #[.int .i64 1, .int .i64 l, .int .i64 z, .slice A sq.length c, .slice B en.length d]] w1 (CopyPost w1 ⟨1, l, z, sq, en⟩)) := Lib.hid fun w1 h => copyl_any ⟨1, l, z, sq, en⟩ A B c d w1 h HA.out.1 HA.out.2
      rcases HLast.out with ⟨_, rfl⟩ | ⟨_, q, hq, rfl, hne, _⟩
      · obtain ⟨s0, s1, s2, s3, s4⟩ := (HK.out _ HBR.out).cells
        go_upto_region 17 with (first
          | (go_at_call 20; (with_reducible refine (HCP.out _ (HN.out _ HBR.out)).mono ?_); rintro e w7 ⟨A7, B7, c7, d7, rfl, hI7, hE7, hb7⟩; replace hI7 := Lib.hid hI7; replace hE7 := Lib.hid hE7; replace hb7 := Lib.hid hb7)
          | fail)
        obtain ⟨Z, hZ⟩ : ∃ X, X = w7.alloc (.cells #[.int .i64 1, .int .i64 l, .int .i64 z, .slice A7 sq.length c7, .slice B7 en.length d7] 25) := ⟨_, rfl⟩
        obtain ⟨p, hp⟩ : ∃ p, p = w7.heap.size := ⟨_, rfl⟩
        rw [← hZ, ← hp]
        have BZ : Hid (BoxAt Z p 1 l z (.slice A7 sq.length c7) (.slice B7 en.length d7)) := Lib.hid (by rw [hZ, hp]; exact heap_alloc_new _ _)
        have HBZ : Hid (Below wr.heap.size wr Z) := Lib.hid (by rw [hZ]; exact hb7.out.alloc hb7.out.size _)
        have hpz : Hid (wr.heap.size ≤ p) := Lib.hid (by rw [hp]; exact hb7.out.size)
        have HLZ : Hid (∀ z', NLies (Z.setCell ⟨p, 2, none⟩ (.int .i64 z')) ⟨1, l, z', sq, en⟩ A7 B7 c7 d7) := Lib.hid fun z' => by
          have hk : ∀ g, g < w7.heap.size → (Z.setCell ⟨p, 2, none⟩ (.int .i64 z')).heap[g]? = w7.heap[g]? := fun g hg => by
            rw [Below.heap_setCell _ _ _ _ (show g ≠ p by omega), hZ]
            exact ((Below.refl _ _).alloc (Nat.le_refl _) _).block g hg
          exact nlies_own (n := ⟨1, l, z', sq, en⟩) (own_keep hI7.out fun g e => hk g (hI7.out.lt g e).2) (own_keep hE7.out fun g e => hk g (hE7.out.lt g e).2) (by have := HA.out; unfold maxLen; dsimp only; omega) (by have := HA.out; unfold maxLen; dsimp only; omega)
        clear hZ hp hb7 hI7 hE7 s0 s1 s2 s3 s4
        obtain ⟨s0, s1, s2, s3, s4⟩ := BZ.out.cells
        have f2 := BZ.out.frozen 2
        have hw : IntKind.i64.wrap ((-1 : Int) * 16) = -16 := rfl
        go_wp2_with (first
          | (go_at_call 9; (with_reducible refine (awake_any _).mono ?_); rintro e w11 ⟨rfl, hb11⟩; have HB2 := Lib.hid hb11; clear hb11)
          | fail)
        go_ret
        exact ⟨rfl, HB0.out.trans ((HBR.out.trans (((HBZ.out.setCell hpz.out _).trans (HB2.out.mono (by simpa using HBZ.out.size))).mono HBR.out.size)).mono HB0.out.size)⟩
      · obtain ⟨s0, s1, s2, s3, s4⟩ := (HK.out _ HBR.out).cells
        go_upto_region 17 with (first
          | (go_at_call 20; (with_reducible refine (HCP.out _ (HN.out _ HBR.out)).mono ?_); rintro e w7 ⟨A7, B7, c7, d7, rfl, hI7, hE7, hb7⟩; replace hI7 := Lib.hid hI7; replace hE7 := Lib.hid hE7; replace hb7 := Lib.hid hb7)
          | fail)
        obtain ⟨Z, hZ⟩ : ∃ X, X = w7.alloc (.cells #[.int .i64 1, .int .i64 l, .int .i64 z, .slice A7 sq.length c7, .slice B7 en.length d7] 25) := ⟨_, rfl⟩
        obtain ⟨p, hp⟩ : ∃ p, p = w7.heap.size := ⟨_, rfl⟩
        rw [← hZ, ← hp]
        have BZ : Hid (BoxAt Z p 1 l z (.slice A7 sq.length c7) (.slice B7 en.length d7)) := Lib.hid (by rw [hZ, hp]; exact heap_alloc_new _ _)
        have HBZ : Hid (Below wr.heap.size wr Z) := Lib.hid (by rw [hZ]; exact hb7.out.alloc hb7.out.size _)
        have hpz : Hid (wr.heap.size ≤ p) := Lib.hid (by rw [hp]; exact hb7.out.size)
        have HLZ : Hid (∀ z', NLies (Z.setCell ⟨p, 2, none⟩ (.int .i64 z')) ⟨1, l, z', sq, en⟩ A7 B7 c7 d7) := Lib.hid fun z' => by
          have hk : ∀ g, g < w7.heap.size → (Z.setCell ⟨p, 2, none⟩ (.int .i64 z')).heap[g]? = w7.heap[g]? := fun g hg => by
            rw [Below.heap_setCell _ _ _ _ (show g ≠ p by omega), hZ]
            exact ((Below.refl _ _).alloc (Nat.le_refl _) _).block g hg
          exact nlies_own (n := ⟨1, l, z', sq, en⟩) (own_keep hI7.out fun g e => hk g (hI7.out.lt g e).2) (own_keep hE7.out fun g e => hk g (hE7.out.lt g e).2) (by have := HA.out; unfold maxLen; dsimp only; omega) (by have := HA.out; unfold maxLen; dsimp only; omega)
        clear hZ hp hb7 hI7 hE7 s0 s1 s2 s3 s4
        obtain ⟨s0, s1, s2, s3, s4⟩ := BZ.out.cells
        have f2 := BZ.out.frozen 2
        have hw : IntKind.i64.wrap ((q : Int) * 16) = (q : Int) * 16 := i64w_idE _ (by omega)
        have b0 : decide ((q : Int) < 0) = false := decide_eq_false (by omega)
        have HML : Hid (∀ w1, NLies w1 ⟨1, l, (q : Int) * 16, sq, en⟩ A7 B7 c7 d7 → Calls Try.prog 12 #[.agg #[.int .i64 1, .int .i64 l, .int .i64 ((q : Int) * 16), .slice A7 sq.length c7, .slice B7 en.length d7]] w1 fun x w' => x = .returned (.bool false) ∧ Below w1.heap.size w1 w') := Lib.hid fun w1 h => by
          have := maynl_any ⟨1, l, (q : Int) * 16, sq, en⟩ A7 B7 c7 d7 w1 h
          rwa [may_less (n := ⟨1, l, z, sq, en⟩) rfl hq hne] at this
        clear hq hne
        go_upto_region 18 with (fail)
        obtain ⟨Y, hY⟩ : ∃ X, X = Z.setCell ⟨p, 2, none⟩ (.int .i64 ((q : Int) * 16)) := ⟨_, rfl⟩
        rw [← hY]
        have HLY := Lib.hid (HLZ.out ((q : Int) * 16))
        rw [← hY] at HLY
        have BY : Hid (BoxAt Y p 1 l ((q : Int) * 16) (.slice A7 sq.length c7) (.slice B7 en.length d7)) := Lib.hid (by rw [hY]; exact BZ.out.set2 _)
        have HBY : Hid (Below wr.heap.size wr Y) := Lib.hid (by rw [hY]; exact HBZ.out.setCell hpz.out _)
        clear hY s0 s1 s2 s3 s4 f2 HLZ
        obtain ⟨s0, s1, s2, s3, s4⟩ := BY.out.cells
        go_wp2_with (first
          | (go_at_call 12; (with_reducible refine (HML.out _ HLY.out).mono ?_); rintro e w8 ⟨rfl, hb8⟩; replace hb8 := Lib.hid hb8)
          | (go_at_call 9; (with_reducible refine (awake_any _).mono ?_); rintro e w11 ⟨rfl, hb11⟩; have HB2 := Lib.hid hb11; clear hb11)
          | fail)
        go_ret
        exact ⟨rfl, HB0.out.trans ((HBR.out.trans ((HBY.out.trans ((hb8.out.trans (HB2.out.mono hb8.out.size)).mono HBY.out.size)).mono HBR.out.size)).mono HB0.out.size)⟩
end Go.Proofs.Ytohiabkjbieflaa
