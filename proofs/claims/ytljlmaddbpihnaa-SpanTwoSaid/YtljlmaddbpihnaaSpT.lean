/- SpanTwo, over the landed contracts (written by mkspt.py out of XSpT.src and XSpT.body). -/
import Derived.Test.YtljlmaddbpihnaaSpS
namespace Go.Proofs.Ytljlmaddbpihnaa
open Go.RowKit

/-- What is marked: from A on, below H. -/
def markL (A H : Nat) : List Value := (List.range 80).map fun x => Value.int .i64 (if A ≤ x ∧ x < H then 1 else 0)
theorem markL_len (A H : Nat) : (markL A H).length = 80 := by simp [markL]
theorem markL_at {A H x : Nat} (h : x < 80) : (markL A H)[x]? = some (Value.int .i64 (if A ≤ x ∧ x < H then 1 else 0)) := by
  unfold markL
  rw [List.getElem?_map, List.getElem?_range h]; rfl
theorem markL_set {A H : Nat} (hA : A ≤ H) (hH : H < 80) : (markL A H).set H (.int .i64 1) = markL A (H + 1) := by
  apply List.ext_getElem?
  intro x
  by_cases hx : x < 80
  · rw [markL_at hx, List.getElem?_set]
    by_cases e : H = x
    · subst e
      rw [if_pos rfl, if_pos (by rw [markL_len]; exact hH), if_pos ⟨hA, by omega⟩]
    · rw [if_neg e, markL_at hx]
      congr 2
      by_cases h : A ≤ x ∧ x < H
      · rw [if_pos h, if_pos ⟨h.1, by omega⟩]
      · rw [if_neg h, if_neg (by omega)]
  · rw [List.getElem?_eq_none (by rw [List.length_set, markL_len]; omega), List.getElem?_eq_none (by rw [markL_len]; omega)]
abbrev Marks (w : World) (g A H : Nat) : Prop := w.heap[g]? = some (.cells (markL A H).toArray 32 (0, 0))
theorem markL_none (A : Nat) : markL A A = markL 0 0 := by
  unfold markL
  apply List.map_congr_left
  intro x _
  rw [if_neg (by omega), if_neg (by omega)]
set_option maxRecDepth 100000 in
theorem zero80 (w : World) : (zeroValue 32).run Try.prog w = .ok (.agg (markL 0 0).toArray) w := by kernel_rfl
/-- All but block g stands. -/
structure Kx (g : Nat) (w w' : World) : Prop where
  os : w'.os = w.os
  tape : w'.tape = w.tape
  output : w'.output = w.output
  size : w.heap.size ≤ w'.heap.size
  block : ∀ b, b < w.heap.size → b ≠ g → w'.heap[b]? = w.heap[b]?
theorem Kx.refl (g : Nat) (w : World) : Kx g w w := ⟨rfl, rfl, rfl, Nat.le_refl _, fun _ _ _ => rfl⟩
theorem Kx.trans {g : Nat} {a b c : World} (h : Kx g a b) (k : Kx g b c) : Kx g a c :=
  ⟨k.os.trans h.os, k.tape.trans h.tape, k.output.trans h.output, Nat.le_trans h.size k.size, fun x hx hg => (k.block x (Nat.lt_of_lt_of_le hx h.size) hg).trans (h.block x hx hg)⟩
theorem Kx.of {g : Nat} {a b : World} (h : Below a.heap.size a b) : Kx g a b := ⟨h.os, h.tape, h.output, h.size, fun x hx _ => h.block x hx⟩
theorem Kx.set {g i : Nat} {w : World} {u : Value} : Kx g w (w.setCell ⟨g, i, none⟩ u) := by
  refine ⟨rfl, rfl, rfl, by simp [World.setCell], fun b _ hb => ?_⟩
  rw [Below.heap_setCell _ _ _ _ hb]
theorem Kx.below {g B : Nat} {w0 w w' : World} (h : Below B w0 w) (k : Kx g w w') (hB : B ≤ g) (hs : B ≤ w.heap.size) : Below B w0 w' :=
  ⟨k.os.trans h.os, k.tape.trans h.tape, k.output.trans h.output, Nat.le_trans h.size k.size, fun x hx => (k.block x (by omega) (by omega)).trans (h.block x hx)⟩
/-- Pieces that lie outside block g. -/
def PcAt (g : Nat) (w : World) (A : Option Addr) (l : List P3) : Prop :=
  0 < l.length → ∃ B o, A = some ⟨B, o, none⟩ ∧ B < w.heap.size ∧ B ≠ g ∧ ∀ j (h : j < l.length),
    w.cell? ⟨B, o + j * 3, none⟩ = some (.int .i64 l[j].1) ∧ w.cell? ⟨B, o + j * 3 + 1, none⟩ = some (.int .i64 l[j].2.1) ∧ w.cell? ⟨B, o + j * 3 + 2, none⟩ = some (.int .i64 l[j].2.2)
theorem Kx.cell {g : Nat} {w w' : World} (k : Kx g w w') {p : Addr} (h : p.block < w.heap.size) (hg : p.block ≠ g) : w'.cell? p = w.cell? p := World.cell?_of_block (w := w) (k.block p.block h hg)
theorem PcAt.kx {g : Nat} {w w' : World} {A : Option Addr} {l : List P3} (h : PcAt g w A l) (k : Kx g w w') : PcAt g w' A l := fun hn => by
  obtain ⟨B, o, e, hB, hg, hc⟩ := h hn
  refine ⟨B, o, e, Nat.lt_of_lt_of_le hB k.size, hg, fun j hj => ?_⟩
  obtain ⟨h0, h1, h2⟩ := hc j hj
  exact ⟨(k.cell (p := ⟨B, o + j * 3, none⟩) hB hg).trans h0, (k.cell (p := ⟨B, o + j * 3 + 1, none⟩) hB hg).trans h1, (k.cell (p := ⟨B, o + j * 3 + 2, none⟩) hB hg).trans h2⟩
theorem marks_cell {w : World} {g A H x : Nat} (h : Marks w g A H) (hx : x < 80) : w.cell? ⟨g, x, none⟩ = some (.int .i64 (if A ≤ x ∧ x < H then 1 else 0)) := by
  have e := markL_at (A := A) (H := H) hx
  simp only [World.cell?, h]
  simpa using e
theorem PcAt.of {g : Nat} {w : World} {A : Option Addr} {l : List P3} {a : Nat} (h : PcLies w A l) (hm : Marks w g a a) (hp : ∀ j (h : j < l.length), 0 < l[j].2.2) : PcAt g w A l := fun hn => by
  obtain ⟨B, o, e, hB, hc⟩ := h hn
  refine ⟨B, o, e, hB, fun hg => ?_, hc⟩
  subst hg
  obtain ⟨-, -, h2⟩ := hc 0 hn
  have h0 := hp 0 hn
  by_cases hx : o + 0 * 3 + 2 < 80
  · rw [marks_cell hm hx, if_neg (by omega)] at h2
    have := Option.some.inj h2
    injection this with _ h3
    omega
  · have e0 : w.cell? ⟨B, o + 0 * 3 + 2, none⟩ = none := by
      simp only [World.cell?, hm]
      simp [markL_len]
      omega
    rw [e0] at h2; cases h2
theorem marks_set {w : World} {g A H : Nat} (h : Marks w g A H) (hA : A ≤ H) (hH : H < 80) : Marks (w.setCell ⟨g, H, none⟩ (.int .i64 1)) g A (H + 1) := by
  unfold Marks
  rw [heap_setCell_same _ g H _ _ _ h, List.setIfInBounds_toArray, markL_set hA hH]
theorem Marks.of {w w' : World} {g A H : Nat} (h : Marks w g A H) (hb : Below w.heap.size w w') : Marks w' g A H := (hb.block g (lt_size h)).trans h
theorem piece_two {a n j : Nat} (h : j < (piecesP a n).length) (hs : a + n ≤ 80) : ∃ pg fr kk pos : Nat, (piecesP a n)[j] = ((pg : Int), (fr : Int), (kk : Int)) ∧ posP a n j = pos ∧ posP a n (j + 1) = pos + kk ∧ 0 < kk ∧ fr + kk ≤ 16 ∧ pg * 16 + fr = pos ∧ pg < 5 ∧ pos + kk ≤ a + n ∧ a ≤ pos := by
  rw [piecesP_len] at h
  obtain ⟨e1, e2, e3, e4, e5, e6⟩ := pos_step h
  obtain ⟨f1, f2, f3, f4, f5, f6, f7⟩ := piece_facts h
  refine ⟨a / 16 + j, begP a j - (a / 16 + j) * 16, endP a n j - begP a j, begP a j, ?_, e6, by rw [e5]; omega, by omega, by omega, by omega, by omega, by omega, f7⟩
  rw [piecesP_at]; rfl
theorem pieces_pos (a n : Nat) (j : Nat) (h : j < (piecesP a n).length) : 0 < ((piecesP a n)[j]).2.2 := by
  have h' := h
  rw [piecesP_len] at h'
  obtain ⟨f1, f2, f3, f4, f5, f6, f7⟩ := piece_facts h'
  rw [piecesP_at]
  show (0 : Int) < ((endP a n j - begP a j : Nat) : Int)
  omega
theorem pos_end (a n : Nat) : posP a n (piecesP a n).length = a + n := by
  unfold posP; rw [if_neg (by rw [piecesP_len]; omega)]
theorem idx2_0 (a b : Value) (w : World) : (Instr.index 33 (.agg #[a, b]) (.int .i64 0)).run Try.prog w = .ok a w := by
  rfl
theorem idx2_1 (a b : Value) (w : World) : (Instr.index 33 (.agg #[a, b]) (.int .i64 1)).run Try.prog w = .ok b w := by
  rfl
theorem idx80 {H S i : Nat} (hi : i < 80) (w : World) : (Instr.index 32 (.agg (markL H S).toArray) (.int .i64 (i : Int))).run Try.prog w = .ok (.int .i64 (if H ≤ i ∧ i < S then 1 else 0)) w := by
  have h1 : (i : Int) < 80 := by omega
  have h2 := markL_at (A := H) (H := S) hi
  have h3 : ((markL H S).toArray)[i]? = some (Value.int .i64 (if H ≤ i ∧ i < S then 1 else 0)) := by simpa using h2
  simp only [Instr.index, run_underlying Try.underlying32, asIntOf, Sem.run_bind, Sem.run_pure, Result.andThen_ok]
  simp [h1]
  simp [go_sem, h3]
set_option maxHeartbeats 8000000 in
set_option maxRecDepth 100000 in
theorem two_law
    (lpc : ∀ (a n : Int) (w : World), Wf6 a → Wf6 n → Calls Try.prog 8 #[.int .i64 a, .int .i64 n] w (PcRead w (piecesF a n)))
    (lft : ∀ (a n : Int) (w : World), Wf6 a → Wf6 n → Calls Try.prog 12 #[.int .i64 a, .int .i64 n] w fun e w' => e = .returned (.bool (fitsF a n)) ∧ Below w.heap.size w w')
    (awk : ∀ w : World, Calls Try.prog 16 #[] w fun x w' => x = .returned (.bool true) ∧ Below w.heap.size w w')
    (a0 n0 m0 : Int) (w : World) : Calls Try.prog 7 #[.int .i64 a0, .int .i64 n0, .int .i64 m0] w fun e w' => e = .returned (.bool true) ∧ Below w.heap.size w w' := by
  obtain ⟨A, hA, hA2⟩ : ∃ N : Nat, (IntKind.u64.wrap a0).tmod 60 = (N : Int) ∧ N < 60 := by have := u64_tmod a0 60 (by decide) (by decide); simpa using this
  obtain ⟨N, hN, hN2⟩ : ∃ N : Nat, (IntKind.u64.wrap n0).tmod 40 = (N : Int) ∧ N < 40 := by have := u64_tmod n0 40 (by decide) (by decide); simpa using this
  obtain ⟨M, hM, hM2⟩ : ∃ N : Nat, (IntKind.u64.wrap m0).tmod 40 = (N : Int) ∧ N < 40 := by have := u64_tmod m0 40 (by decide) (by decide); simpa using this
  have hAw : IntKind.i64.wrap (A : Int) = (A : Int) := i64w_idS _ (by omega)
  have hNw : IntKind.i64.wrap (N : Int) = (N : Int) := i64w_idS _ (by omega)
  have hMw : IntKind.i64.wrap (M : Int) = (M : Int) := i64w_idS _ (by omega)
  obtain ⟨NM, hNM⟩ : ∃ x, x = N + M := ⟨_, rfl⟩
  obtain ⟨AN, hAN⟩ : ∃ x, x = A + N := ⟨_, rfl⟩
  obtain ⟨S, hS⟩ : ∃ x, x = A + N + M := ⟨_, rfl⟩
  have hw1 : IntKind.i64.wrap ((N : Int) + (M : Int)) = (NM : Int) := by rw [i64w_idS _ (by omega)]; omega
  have hw2 : IntKind.i64.wrap ((A : Int) + (N : Int)) = (AN : Int) := by rw [i64w_idS _ (by omega)]; omega
  have hw3 : IntKind.i64.wrap ((AN : Int) + (M : Int)) = (S : Int) := by rw [i64w_idS _ (by omega)]; omega
  have HFT : Hid (∀ w1, Calls Try.prog 12 #[.int .i64 (A : Int), .int .i64 (NM : Int)] w1 fun e w' => e = .returned (.bool (decide (S ≤ 80))) ∧ Below w1.heap.size w1 w') := Lib.hid fun w1 => by
    have := lft (A : Int) (NM : Int) w1 (by omega) (by omega)
    rwa [fitsF_nat, show A + NM = S by omega] at this
  have HP1 := Lib.hid (fun w1 => lpc (A : Int) (N : Int) w1 (by omega) (by omega))
  have HP2 := Lib.hid (fun w1 => lpc (AN : Int) (M : Int) w1 (by omega) (by omega))
  have HAW := Lib.hid awk
  have HSS := Lib.hid (show NM = N + M ∧ AN = A + N ∧ S = A + N + M ∧ A < 60 ∧ N < 40 ∧ M < 40 from ⟨hNM, hAN, hS, hA2, hN2, hM2⟩)
  clear lpc lft awk hNM hAN hS hA2 hN2 hM2
  by_cases hs : S ≤ 80
  rotate_left
  · rw [decide_eq_false hs] at HFT
    have d1 : decide ((80 : Int) < (S : Int)) = true := decide_eq_true (by omega)
    clear hs
    go_enter Try.func7, Try.ntmps7
    go_wp2_with (first
      | (go_at_call 12; (with_reducible refine (HFT.out _).mono ?_); rintro e w2 ⟨rfl, hb2⟩; have HB2 := Lib.hid hb2; clear hb2)
      | (go_at_call 16; (with_reducible refine (HAW.out _).mono ?_); rintro e w3 ⟨rfl, hb3⟩; have HB3 := Lib.hid (HB2.out.trans (hb3.mono HB2.out.size)); clear hb3)
      | fail)
    go_ret
    exact ⟨rfl, HB3.out⟩
  rw [decide_eq_true hs] at HFT
  have HV1 : Hid (piecesF (A : Int) (N : Int) = piecesP A N) := Lib.hid (by have := HSS.out; unfold piecesF; rw [if_pos (by rw [fitsF_nat, decide_eq_true (by omega)]), Int.toNat_natCast, Int.toNat_natCast])
  have HV2 : Hid (piecesF (AN : Int) (M : Int) = piecesP AN M) := Lib.hid (by have := HSS.out; unfold piecesF; rw [if_pos (by rw [fitsF_nat, decide_eq_true (by omega)]), Int.toNat_natCast, Int.toNat_natCast])
  rw [HV1.out] at HP1
  rw [HV2.out] at HP2
  obtain ⟨l1, hl1⟩ : ∃ l, l = piecesP A N := ⟨_, rfl⟩
  obtain ⟨l2, hl2⟩ : ∃ l, l = piecesP AN M := ⟨_, rfl⟩
  rw [← hl1] at HP1
  rw [← hl2] at HP2
  have HL1 := Lib.hid hl1
  have HL2 := Lib.hid hl2
  clear hl1 hl2 HV1 HV2
  have hzv := fun w1 : World => zero80 w1
  go_enter Try.func7, Try.ntmps7
  go_upto_region 5 with (first
    | (go_at_call 12; (with_reducible refine (HFT.out _).mono ?_); rintro e w2 ⟨rfl, hb2⟩; have HB2 := Lib.hid hb2; clear hb2)
    | fail)
  have HBx : Hid (Below w.heap.size w (w2.alloc (.cells (markL 0 0).toArray 32))) := Lib.hid (HB2.out.alloc HB2.out.size _)
  have HMx : Hid (Marks (w2.alloc (.cells (markL 0 0).toArray 32)) w2.heap.size A A) := Lib.hid (by unfold Marks; rw [markL_none A]; exact heap_alloc_new _ _)
  have HGx : Hid (w.heap.size ≤ w2.heap.size) := Lib.hid HB2.out.size
  generalize w2.alloc _ = W0 at HBx HMx ⊢
  obtain ⟨g, hg⟩ : ∃ g, g = w2.heap.size := ⟨_, rfl⟩
  rw [← hg] at HMx HGx ⊢
  clear hg HB2
  go_upto_region 6 with (first
    | (go_at_call 8; (with_reducible refine (HP1.out _).mono ?_); rintro e w3 ⟨q1, c1, rfl, hz, hc1, hb3⟩; have HZ1 := Lib.hid hz; have HB3 := Lib.hid hb3; clear hz hb3)
    | (go_at_call 8; (with_reducible refine (HP2.out _).mono ?_); rintro e w4 ⟨q2, c2, rfl, hz, hc2, hb4⟩; have HZ2 := Lib.hid hz; have HB4 := Lib.hid hb4; clear hz hb4)
    | fail)
  have HM3 : Hid (Marks w3 g A A) := Lib.hid (HMx.out.of HB3.out)
  have HM4 : Hid (Marks w4 g A A) := Lib.hid (HM3.out.of HB4.out)
  have HA1 : Hid (PcAt g w4 q1 l1) := Lib.hid ((PcAt.of HZ1.out HM3.out (by have := HL1.out; subst this; exact pieces_pos _ _)).kx (Kx.of HB4.out))
  have HA2 : Hid (PcAt g w4 q2 l2) := Lib.hid (PcAt.of HZ2.out HM4.out (by have := HL2.out; subst this; exact pieces_pos _ _))
  have HBW4 : Hid (Below w.heap.size w w4) := Lib.hid (HBx.out.trans ((HB3.out.trans (HB4.out.mono HB3.out.size)).mono HBx.out.size))
  clear HM3 HZ1 HZ2 HMx HB3 HB4 HP1 HP2
  go_loopw [9, 11, 12, 51] (fun _ _ _ v51 wr => Hid (Kx g w4 wr) ∧ (v51 = .int .i64 0 ∧ Hid (Marks wr g A A) ∨ v51 = .int .i64 1 ∧ Hid (Marks wr g A AN) ∨ v51 = .int .i64 2 ∧ Hid (Marks wr g A S))) (fun _ _ _ v51 _ => 2 - (RowKit.intOf v51).toNat)
  case atStart => exact ⟨Lib.hid (Kx.refl _ _), .inl ⟨rfl, HM4⟩⟩
  case round =>
    obtain ⟨HK, ⟨rfl, HM⟩ | ⟨rfl, HM⟩ | ⟨rfl, HM⟩⟩ := hrel
    · have hi0 := fun w1 : World => idx2_0 (.slice q1 l1.length c1) (.slice q2 l2.length c2) w1
      have hl5 : l1.length ≤ 5 := by have hL := HL1.out; subst hL; rw [piecesP_len]; exact cntP_le (by have := HSS.out; omega)
      go_upto_region 9 with fail
      go_loopw [11, 12, 56] (fun _ _ v56 wr => ∃ jx : Nat, jx ≤ l1.length ∧ v56 = .int .i64 jx ∧ Hid (Marks wr g A (posP A N jx)) ∧ Hid (Kx g w4 wr)) (fun _ _ v56 _ => l1.length - (RowKit.intOf v56).toNat)
      case atStart => exact ⟨0, Nat.zero_le _, rfl, Lib.hid (by rw [pos_zero]; exact HM.out), HK⟩
      case round =>
        obtain ⟨jx, hj, rfl, HM2, HK2⟩ := hrel
        by_cases hj1 : jx < l1.length
        · have d2 : decide ((jx : Int) < (l1.length : Int)) = true := decide_eq_true (by omega)
          obtain ⟨B, o, hBe, hBs, hBg, hcc⟩ := (HA1.out.kx HK2.out) (by omega)
          obtain ⟨k0, k1, k2⟩ := hcc jx hj1
          obtain ⟨pg, fr, kk, pos, e0, e1, e2, e3, e4, e5, e6, e7, e8⟩ : ∃ pg fr kk pos : Nat, l1[jx]'hj1 = ((pg : Int), (fr : Int), (kk : Int)) ∧ posP A N jx = pos ∧ posP A N (jx + 1) = pos + kk ∧ 0 < kk ∧ fr + kk ≤ 16 ∧ pg * 16 + fr = pos ∧ pg < 5 ∧ pos + kk ≤ A + N ∧ A ≤ pos := by
            have hL := HL1.out
            subst hL
            exact piece_two hj1 (by have := HSS.out; omega)
          rw [e0] at k0 k1 k2
          dsimp only at k0 k1 k2
          rw [e1] at HM2
          have HPJ : Hid (0 < kk ∧ fr + kk ≤ 16 ∧ pg * 16 + fr = pos ∧ pg < 5 ∧ pos + kk ≤ 80 ∧ A ≤ pos) := Lib.hid (by have := HSS.out; exact ⟨e3, e4, e5, e6, by omega, by omega⟩)
          have HE2 : Hid (posP A N (jx + 1) = pos + kk) := Lib.hid e2
          clear e0 e1 e2 e3 e4 e5 e6 e7 e8 hcc
          obtain ⟨FK, hFK⟩ : ∃ m, m = fr + kk := ⟨_, rfl⟩
          obtain ⟨MM, hMM⟩ : ∃ m, m = pg * 16 := ⟨_, rfl⟩
          have HFK : Hid (IntKind.i64.wrap ((fr : Int) + (kk : Int)) = (FK : Int)) := Lib.hid (by have := HPJ.out; rw [i64w_idS _ (by omega)]; omega)
          have HMW : Hid (IntKind.i64.wrap ((pg : Int) * 16) = (MM : Int)) := Lib.hid (by have := HPJ.out; rw [i64w_idS _ (by omega)]; omega)
          have HHW : Hid (IntKind.i64.wrap ((MM : Int) + (fr : Int)) = (pos : Int)) := Lib.hid (by have := HPJ.out; rw [i64w_idS _ (by omega)]; omega)
          have HFK2 : Hid (FK ≤ 16) := Lib.hid (by have := HPJ.out; omega)
          clear hFK hMM
          have HXV := Lib.hid (heap_alloc_new wr (.cells #[.int .i64 (pg : Int), .int .i64 (fr : Int), .int .i64 (kk : Int)] 25))
          have HBV := Lib.hid ((Below.refl wr.heap.size wr).alloc (Nat.le_refl _) (.cells #[.int .i64 (pg : Int), .int .i64 (fr : Int), .int .i64 (kk : Int)] 25))
          have HGS : Hid (g < wr.heap.size) := Lib.hid (lt_size HM2.out)
          subst hBe
          go_upto_region 11 with fail
          generalize wr.alloc _ = V at HXV HBV ⊢
          obtain ⟨p, hp⟩ : ∃ p, p = wr.heap.size := ⟨_, rfl⟩
          rw [← hp] at HXV HGS ⊢
          clear hp k0 k1 k2
          have HKV : Hid (∀ w1, Below V.heap.size V w1 → w1.cell? ⟨p, 0, none⟩ = some (.int .i64 (pg : Int)) ∧ w1.cell? ⟨p, 1, none⟩ = some (.int .i64 (fr : Int)) ∧ w1.cell? ⟨p, 2, none⟩ = some (.int .i64 (kk : Int))) := Lib.hid fun w1 hb => pcbox_cells ((hb.block p (lt_size HXV.out)).trans HXV.out)
          obtain ⟨cc0, cc1, cc2⟩ := HKV.out _ (Below.refl _ _)
          have HPC : Hid (V.cell? ⟨p, 0, none⟩ = some (.int .i64 (pg : Int)) ∧ V.cell? ⟨p, 1, none⟩ = some (.int .i64 (fr : Int))) := Lib.hid ⟨cc0, cc1⟩
          have HPS : Hid (p < V.heap.size) := Lib.hid (lt_size HXV.out)
          have HK3 : Hid (Kx g w4 V) := Lib.hid (HK2.out.trans (Kx.of HBV.out))
          have HM3 : Hid (Marks V g A pos) := Lib.hid (HM2.out.of HBV.out)
          have f1 : ¬ (5 ≤ pg) := by have := HPJ.out; omega
          have f2 : ¬ (16 < kk) := by have := HPJ.out; omega
          have f3 : ¬ (16 < FK) := by have := HFK2.out; omega
          have hfk := HFK.out
          go_upto_region 14 with fail
          clear f1 f2 f3 hfk cc0 cc1 cc2
          go_loopw [12, 93] (fun _ v93 wr => ∃ kx : Nat, kx ≤ kk ∧ v93 = .int .i64 kx ∧ Hid (Marks wr g A (pos + kx)) ∧ Hid (Kx g w4 wr) ∧ Hid (wr.cell? ⟨p, 0, none⟩ = some (.int .i64 (pg : Int)) ∧ wr.cell? ⟨p, 1, none⟩ = some (.int .i64 (fr : Int)) ∧ p < wr.heap.size)) (fun _ v93 _ => kk - (RowKit.intOf v93).toNat)
          case atStart => exact ⟨0, Nat.zero_le _, rfl, Lib.hid HM3.out, HK3, Lib.hid ⟨HPC.out.1, HPC.out.2, HPS.out⟩⟩
          case round =>
            obtain ⟨kx, hk, rfl, HM4, HK4, HPD⟩ := hrel
            by_cases hk1 : kx < kk
            · have d3 : decide ((kx : Int) < (kk : Int)) = true := decide_eq_true (by omega)
              obtain ⟨p0, p1, -⟩ := HPD.out
              obtain ⟨H, hH⟩ : ∃ m, m = pos + kx := ⟨_, rfl⟩
              have HH : Hid (H < 80 ∧ A ≤ H) := Lib.hid (by have := HPJ.out; omega)
              have hh1 := HMW.out
              have hh2 := HHW.out
              have hh3 : IntKind.i64.wrap ((pos : Int) + (kx : Int)) = (H : Int) := by have := HPJ.out; rw [i64w_idS _ (by omega)]; omega
              rw [← hH] at HM4
              have hh4 : (H : Int) < 80 := by have := HH.out; omega
              have m0 : wr.cell? ⟨g, H, none⟩ = some (.int .i64 0) := by
                rw [marks_cell HM4.out HH.out.1, if_neg (by omega)]
              have m1 : wr.frozen? ⟨g, H, none⟩ = false := by
                have := HM4.out
                unfold Marks at this
                simp [World.frozen?, this]
              have HM5 : Hid (Marks (wr.setCell ⟨g, H, none⟩ (.int .i64 1)) g A (pos + (kx + 1))) := Lib.hid (by
                have := marks_set HM4.out HH.out.2 HH.out.1
                rwa [show H + 1 = pos + (kx + 1) by omega] at this)
              have HK5 : Hid (Kx g w4 (wr.setCell ⟨g, H, none⟩ (.int .i64 1))) := Lib.hid (HK4.out.trans Kx.set)
              have HPE : Hid ((wr.setCell ⟨g, H, none⟩ (.int .i64 1)).cell? ⟨p, 0, none⟩ = some (.int .i64 (pg : Int)) ∧ (wr.setCell ⟨g, H, none⟩ (.int .i64 1)).cell? ⟨p, 1, none⟩ = some (.int .i64 (fr : Int)) ∧ p < (wr.setCell ⟨g, H, none⟩ (.int .i64 1)).heap.size) := Lib.hid (by
                have hk := Kx.set (g := g) (i := H) (w := wr) (u := .int .i64 1)
                have hne : p ≠ g := by have := HGS.out; omega
                obtain ⟨x0, x1, x2⟩ := HPD.out
                exact ⟨(hk.cell (p := ⟨p, 0, none⟩) x2 hne).trans x0, (hk.cell (p := ⟨p, 1, none⟩) x2 hne).trans x1, Nat.lt_of_lt_of_le x2 hk.size⟩)
              clear hH
              go_wp2_with fail
              go_roundw
              case rel => exact ⟨kx + 1, by omega, by go_num, HM5, HK5, HPE⟩
              case measure => simp [RowKit.intOf]; omega
            · have d3 : decide ((kx : Int) < (kk : Int)) = false := decide_eq_false (by omega)
              have hkk : kx = kk := by omega
              have HM5 : Hid (Marks wr g A (posP A N (jx + 1))) := Lib.hid (by rw [HE2.out, ← hkk]; exact HM4.out)
              clear hkk
              go_wp2_with fail
              go_roundw
              case rel => exact ⟨jx + 1, by omega, by go_num, HM5, HK4⟩
              case measure => simp [RowKit.intOf]; omega
        · have d2 : decide ((jx : Int) < (l1.length : Int)) = false := decide_eq_false (by omega)
          have HE : Hid (Marks wr g A AN) := Lib.hid (by
            have h := HM2.out
            have hj2 : jx = l1.length := by omega
            have hL := HL1.out
            rw [hj2, hL, pos_end] at h
            have := HSS.out
            rwa [show AN = A + N by omega])
          go_wp2_with fail
          go_roundw
          case rel => exact ⟨HK2, .inr (.inl ⟨rfl, HE⟩)⟩
          case measure => simp [RowKit.intOf]
    · have hi0 := fun w1 : World => idx2_1 (.slice q1 l1.length c1) (.slice q2 l2.length c2) w1
      have hl5 : l2.length ≤ 5 := by have hL := HL2.out; subst hL; rw [piecesP_len]; exact cntP_le (by have := HSS.out; omega)
      go_upto_region 9 with fail
      go_loopw [11, 12, 56] (fun _ _ v56 wr => ∃ jx : Nat, jx ≤ l2.length ∧ v56 = .int .i64 jx ∧ Hid (Marks wr g A (posP AN M jx)) ∧ Hid (Kx g w4 wr)) (fun _ _ v56 _ => l2.length - (RowKit.intOf v56).toNat)
      case atStart => exact ⟨0, Nat.zero_le _, rfl, Lib.hid (by rw [pos_zero]; exact HM.out), HK⟩
      case round =>
        obtain ⟨jx, hj, rfl, HM2, HK2⟩ := hrel
        by_cases hj1 : jx < l2.length
        · have d2 : decide ((jx : Int) < (l2.length : Int)) = true := decide_eq_true (by omega)
          obtain ⟨B, o, hBe, hBs, hBg, hcc⟩ := (HA2.out.kx HK2.out) (by omega)
          obtain ⟨k0, k1, k2⟩ := hcc jx hj1
          obtain ⟨pg, fr, kk, pos, e0, e1, e2, e3, e4, e5, e6, e7, e8⟩ : ∃ pg fr kk pos : Nat, l2[jx]'hj1 = ((pg : Int), (fr : Int), (kk : Int)) ∧ posP AN M jx = pos ∧ posP AN M (jx + 1) = pos + kk ∧ 0 < kk ∧ fr + kk ≤ 16 ∧ pg * 16 + fr = pos ∧ pg < 5 ∧ pos + kk ≤ AN + M ∧ AN ≤ pos := by
            have hL := HL2.out
            subst hL
            exact piece_two hj1 (by have := HSS.out; omega)
          rw [e0] at k0 k1 k2
          dsimp only at k0 k1 k2
          rw [e1] at HM2
          have HPJ : Hid (0 < kk ∧ fr + kk ≤ 16 ∧ pg * 16 + fr = pos ∧ pg < 5 ∧ pos + kk ≤ 80 ∧ A ≤ pos) := Lib.hid (by have := HSS.out; exact ⟨e3, e4, e5, e6, by omega, by omega⟩)
          have HE2 : Hid (posP AN M (jx + 1) = pos + kk) := Lib.hid e2
          clear e0 e1 e2 e3 e4 e5 e6 e7 e8 hcc
          obtain ⟨FK, hFK⟩ : ∃ m, m = fr + kk := ⟨_, rfl⟩
          obtain ⟨MM, hMM⟩ : ∃ m, m = pg * 16 := ⟨_, rfl⟩
          have HFK : Hid (IntKind.i64.wrap ((fr : Int) + (kk : Int)) = (FK : Int)) := Lib.hid (by have := HPJ.out; rw [i64w_idS _ (by omega)]; omega)
          have HMW : Hid (IntKind.i64.wrap ((pg : Int) * 16) = (MM : Int)) := Lib.hid (by have := HPJ.out; rw [i64w_idS _ (by omega)]; omega)
          have HHW : Hid (IntKind.i64.wrap ((MM : Int) + (fr : Int)) = (pos : Int)) := Lib.hid (by have := HPJ.out; rw [i64w_idS _ (by omega)]; omega)
          have HFK2 : Hid (FK ≤ 16) := Lib.hid (by have := HPJ.out; omega)
          clear hFK hMM
          have HXV := Lib.hid (heap_alloc_new wr (.cells #[.int .i64 (pg : Int), .int .i64 (fr : Int), .int .i64 (kk : Int)] 25))
          have HBV := Lib.hid ((Below.refl wr.heap.size wr).alloc (Nat.le_refl _) (.cells #[.int .i64 (pg : Int), .int .i64 (fr : Int), .int .i64 (kk : Int)] 25))
          have HGS : Hid (g < wr.heap.size) := Lib.hid (lt_size HM2.out)
          subst hBe
          go_upto_region 11 with fail
          generalize wr.alloc _ = V at HXV HBV ⊢
          obtain ⟨p, hp⟩ : ∃ p, p = wr.heap.size := ⟨_, rfl⟩
          rw [← hp] at HXV HGS ⊢
          clear hp k0 k1 k2
          have HKV : Hid (∀ w1, Below V.heap.size V w1 → w1.cell? ⟨p, 0, none⟩ = some (.int .i64 (pg : Int)) ∧ w1.cell? ⟨p, 1, none⟩ = some (.int .i64 (fr : Int)) ∧ w1.cell? ⟨p, 2, none⟩ = some (.int .i64 (kk : Int))) := Lib.hid fun w1 hb => pcbox_cells ((hb.block p (lt_size HXV.out)).trans HXV.out)
          obtain ⟨cc0, cc1, cc2⟩ := HKV.out _ (Below.refl _ _)
          have HPC : Hid (V.cell? ⟨p, 0, none⟩ = some (.int .i64 (pg : Int)) ∧ V.cell? ⟨p, 1, none⟩ = some (.int .i64 (fr : Int))) := Lib.hid ⟨cc0, cc1⟩
          have HPS : Hid (p < V.heap.size) := Lib.hid (lt_size HXV.out)
          have HK3 : Hid (Kx g w4 V) := Lib.hid (HK2.out.trans (Kx.of HBV.out))
          have HM3 : Hid (Marks V g A pos) := Lib.hid (HM2.out.of HBV.out)
          have f1 : ¬ (5 ≤ pg) := by have := HPJ.out; omega
          have f2 : ¬ (16 < kk) := by have := HPJ.out; omega
          have f3 : ¬ (16 < FK) := by have := HFK2.out; omega
          have hfk := HFK.out
          go_upto_region 14 with fail
          clear f1 f2 f3 hfk cc0 cc1 cc2
          go_loopw [12, 93] (fun _ v93 wr => ∃ kx : Nat, kx ≤ kk ∧ v93 = .int .i64 kx ∧ Hid (Marks wr g A (pos + kx)) ∧ Hid (Kx g w4 wr) ∧ Hid (wr.cell? ⟨p, 0, none⟩ = some (.int .i64 (pg : Int)) ∧ wr.cell? ⟨p, 1, none⟩ = some (.int .i64 (fr : Int)) ∧ p < wr.heap.size)) (fun _ v93 _ => kk - (RowKit.intOf v93).toNat)
          case atStart => exact ⟨0, Nat.zero_le _, rfl, Lib.hid HM3.out, HK3, Lib.hid ⟨HPC.out.1, HPC.out.2, HPS.out⟩⟩
          case round =>
            obtain ⟨kx, hk, rfl, HM4, HK4, HPD⟩ := hrel
            by_cases hk1 : kx < kk
            · have d3 : decide ((kx : Int) < (kk : Int)) = true := decide_eq_true (by omega)
              obtain ⟨p0, p1, -⟩ := HPD.out
              obtain ⟨H, hH⟩ : ∃ m, m = pos + kx := ⟨_, rfl⟩
              have HH : Hid (H < 80 ∧ A ≤ H) := Lib.hid (by have := HPJ.out; omega)
              have hh1 := HMW.out
              have hh2 := HHW.out
              have hh3 : IntKind.i64.wrap ((pos : Int) + (kx : Int)) = (H : Int) := by have := HPJ.out; rw [i64w_idS _ (by omega)]; omega
              rw [← hH] at HM4
              have hh4 : (H : Int) < 80 := by have := HH.out; omega
              have m0 : wr.cell? ⟨g, H, none⟩ = some (.int .i64 0) := by
                rw [marks_cell HM4.out HH.out.1, if_neg (by omega)]
              have m1 : wr.frozen? ⟨g, H, none⟩ = false := by
                have := HM4.out
                unfold Marks at this
                simp [World.frozen?, this]
              have HM5 : Hid (Marks (wr.setCell ⟨g, H, none⟩ (.int .i64 1)) g A (pos + (kx + 1))) := Lib.hid (by
                have := marks_set HM4.out HH.out.2 HH.out.1
                rwa [show H + 1 = pos + (kx + 1) by omega] at this)
              have HK5 : Hid (Kx g w4 (wr.setCell ⟨g, H, none⟩ (.int .i64 1))) := Lib.hid (HK4.out.trans Kx.set)
              have HPE : Hid ((wr.setCell ⟨g, H, none⟩ (.int .i64 1)).cell? ⟨p, 0, none⟩ = some (.int .i64 (pg : Int)) ∧ (wr.setCell ⟨g, H, none⟩ (.int .i64 1)).cell? ⟨p, 1, none⟩ = some (.int .i64 (fr : Int)) ∧ p < (wr.setCell ⟨g, H, none⟩ (.int .i64 1)).heap.size) := Lib.hid (by
                have hk := Kx.set (g := g) (i := H) (w := wr) (u := .int .i64 1)
                have hne : p ≠ g := by have := HGS.out; omega
                obtain ⟨x0, x1, x2⟩ := HPD.out
                exact ⟨(hk.cell (p := ⟨p, 0, none⟩) x2 hne).trans x0, (hk.cell (p := ⟨p, 1, none⟩) x2 hne).trans x1, Nat.lt_of_lt_of_le x2 hk.size⟩)
              clear hH
              go_wp2_with fail
              go_roundw
              case rel => exact ⟨kx + 1, by omega, by go_num, HM5, HK5, HPE⟩
              case measure => simp [RowKit.intOf]; omega
            · have d3 : decide ((kx : Int) < (kk : Int)) = false := decide_eq_false (by omega)
              have hkk : kx = kk := by omega
              have HM5 : Hid (Marks wr g A (posP AN M (jx + 1))) := Lib.hid (by rw [HE2.out, ← hkk]; exact HM4.out)
              clear hkk
              go_wp2_with fail
              go_roundw
              case rel => exact ⟨jx + 1, by omega, by go_num, HM5, HK4⟩
              case measure => simp [RowKit.intOf]; omega
        · have d2 : decide ((jx : Int) < (l2.length : Int)) = false := decide_eq_false (by omega)
          have HE : Hid (Marks wr g A S) := Lib.hid (by
            have h := HM2.out
            have hj2 : jx = l2.length := by omega
            have hL := HL2.out
            rw [hj2, hL, pos_end] at h
            have := HSS.out
            rwa [show S = AN + M by omega])
          go_wp2_with fail
          go_roundw
          case rel => exact ⟨HK2, .inr (.inr ⟨rfl, HE⟩)⟩
          case measure => simp [RowKit.intOf]
    · have HBW := Lib.hid (Kx.below HBW4.out HK.out HGx.out HBW4.out.size)
      have hg : Marks wr g A S := HM.out
      unfold Marks at hg
      go_wp2_with (first | (refine wpList_load_row rfl 32 _ rfl g rfl 32 _ (0, 0) _ hg Try.underlying32 rfl (by kernel_rfl) ?_) | fail)
      go_loopw [13, 14, 112] (fun _ _ v112 wr => ∃ ix : Nat, ix ≤ 80 ∧ v112 = .int .i64 ix ∧ Hid (Below w.heap.size w wr)) (fun _ _ v112 _ => 80 - (RowKit.intOf v112).toNat)
      case atStart => exact ⟨0, Nat.zero_le _, rfl, HBW⟩
      case round =>
        obtain ⟨ix, hi, rfl, HBV⟩ := hrel
        by_cases hi1 : ix < 80
        · have d3 : decide ((ix : Int) < 80) = true := decide_eq_true (by omega)
          have hx := fun w1 : World => idx80 (H := A) (S := S) hi1 w1
          by_cases hA1 : A ≤ ix
          · by_cases hS1 : ix < S
            · simp only [if_pos (And.intro hA1 hS1)] at hx
              go_wp2_with fail
              go_roundw
              case rel => exact ⟨ix + 1, by omega, by go_num, HBV⟩
              case measure => simp [RowKit.intOf]; omega
            · simp only [if_neg (fun h : A ≤ ix ∧ ix < S => hS1 h.2)] at hx
              go_wp2_with fail
              go_roundw
              case rel => exact ⟨ix + 1, by omega, by go_num, HBV⟩
              case measure => simp [RowKit.intOf]; omega
          · simp only [if_neg (fun h : A ≤ ix ∧ ix < S => hA1 h.1)] at hx
            go_wp2_with fail
            go_roundw
            case rel => exact ⟨ix + 1, by omega, by go_num, HBV⟩
            case measure => simp [RowKit.intOf]; omega
        · have d3 : decide ((ix : Int) < 80) = false := decide_eq_false (by omega)
          go_wp2_with (first
            | (go_at_call 16; (with_reducible refine (HAW.out _).mono ?_); rintro e w5 ⟨rfl, hb5⟩; have HB5 := Lib.hid (HBV.out.trans (hb5.mono HBV.out.size)); clear hb5)
            | fail)
          go_ret
          exact ⟨rfl, HB5.out⟩
end Go.Proofs.Ytljlmaddbpihnaa
