/- The reference's NodeRefs, EmptyNode. -/
import Derived.Test.YtohiabkjbieflaaNdI
import Derived.Deep.OwnRows
import Derived.Laws.Rows
import Derived.Laws.OwnMore
namespace Go.Proofs.Ytohiabkjbieflaa
open Go.RowKit Go.Lib

/-- What a call that tells refs answers. -/
def RPost (w : World) (L : List P2) (e : Ending) (w' : World) : Prop :=
  ∃ A c, e = .returned (.slice A L.length c) ∧ RLies w' A L ∧ (∀ ad, A = some ad → w.heap.size ≤ ad.block) ∧ (A = none → c = 0) ∧ L.length ≤ c ∧ Below w.heap.size w w'
theorem RPost.nil {w w' : World} {L : List P2} (hL : L = []) (hb : Below w.heap.size w w') : RPost w L (.returned (.slice none 0 0)) w' := by
  subst hL
  exact ⟨none, 0, rfl, .nil _ _, fun _ e => (by cases e), fun _ => rfl, Nat.le_refl _, hb⟩
set_option maxRecDepth 100000 in
set_option maxHeartbeats 4000000 in
theorem nrefsr_any (i : Int) (n : Nd) (A B : Option Addr) (c d : Nat) (w : World) (h : NLies w n A B c d) : Calls Try.prog 11 #[.int .i64 i, ndV n A B c d] w (RPost w (refsN i n)) := by
  have hmx : maxLen = 9223372036854775807 := rfl
  have hsm : n.sq.length ≤ maxLen := h.sm
  have HH := Lib.hid h
  have HBA := Lib.hid ((Below.refl w.heap.size w).alloc (Nat.le_refl _) (.cells #[.int .i64 n.k, .int .i64 n.l, .int .i64 n.z, .slice A n.sq.length c, .slice B n.en.length d] 25))
  have HX := Lib.hid (node_cell w #[.int .i64 n.k, .int .i64 n.l, .int .i64 n.z, .slice A n.sq.length c, .slice B n.en.length d] 25 3 (by simp))
  clear h
  obtain ⟨R, hR⟩ : ∃ R, refsN i n = R := ⟨_, rfl⟩
  rw [hR]
  have HR := Lib.hid hR
  clear hR
  by_cases h1 : n.k = 1
  case neg =>
    have d1 : (n.k != 1) = true := by simpa using h1
    have HF : Hid (R = []) := Lib.hid (by rw [← HR.out]; exact if_neg fun e => h1 e.1)
    clear h1
    go_enter Try.func11, Try.ntmps11
    go_wp2_with fail
    go_ret
    exact RPost.nil HF.out HBA.out
  have d1 : (n.k != 1) = false := by rw [h1]; rfl
  obtain ⟨m, hm⟩ : ∃ m, mayNd n = m := ⟨_, rfl⟩
  have HC := Lib.hid (fun w1 (hb : Below w.heap.size w w1) => maynr_any n A B c d w1 (HH.out.below hb))
  rw [hm] at HC
  have HM := Lib.hid hm
  have H1 := Lib.hid h1
  clear hm h1
  cases m with
  | false =>
    have HF : Hid (R = []) := Lib.hid (by rw [← HR.out]; exact if_neg fun e => by rw [HM.out] at e; cases e.2.1)
    go_enter Try.func11, Try.ntmps11
    go_wp2_with (go_at_call 13; refine (HC.out _ HBA.out).mono ?_; rintro e w1 ⟨rfl, hb1⟩; have HB1 := Lib.hid (HBA.out.trans (hb1.mono HBA.out.size)); clear hb1)
    go_ret
    exact RPost.nil HF.out HB1.out
  | true =>
    by_cases hi0 : i < 0
    · have b1 : decide (i < 0) = true := decide_eq_true hi0
      have HF : Hid (R = []) := Lib.hid (by rw [← HR.out]; exact refsN_far (by omega))
      clear hi0
      go_enter Try.func11, Try.ntmps11
      go_wp2_with (go_at_call 13; refine (HC.out _ HBA.out).mono ?_; rintro e w1 ⟨rfl, hb1⟩; have HB1 := Lib.hid (HBA.out.trans (hb1.mono HBA.out.size)); clear hb1)
      go_ret
      exact RPost.nil HF.out HB1.out
    have b1 : decide (i < 0) = false := decide_eq_false hi0
    by_cases hi1 : 12 ≤ i
    · have b2 : decide (12 ≤ i) = true := decide_eq_true hi1
      have HF : Hid (R = []) := Lib.hid (by rw [← HR.out]; exact refsN_far (by omega))
      clear hi0 hi1
      go_enter Try.func11, Try.ntmps11
      go_wp2_with (go_at_call 13; refine (HC.out _ HBA.out).mono ?_; rintro e w1 ⟨rfl, hb1⟩; have HB1 := Lib.hid (HBA.out.trans (hb1.mono HBA.out.size)); clear hb1)
      go_ret
      exact RPost.nil HF.out HB1.out
    have b2 : decide (12 ≤ i) = false := decide_eq_false hi1
    have HI : Hid (0 ≤ i ∧ i < 12) := Lib.hid (by omega)
    clear hi0 hi1
    have HF : Hid (R = rfsN i 0 n.sq) := Lib.hid (by rw [← HR.out]; exact refsN_file H1.out HM.out HI.out.1 HI.out.2)
    have F5 : Hid (n.sq.length = 5) := Lib.hid (by have := HM.out; rw [mayNd_file H1.out] at this; exact (mayFl_at this).2.2.2.2.1)
    go_enter Try.func11, Try.ntmps11
    go_wp2_with (go_at_call 13; refine (HC.out _ HBA.out).mono ?_; rintro e w1 ⟨rfl, hb1⟩; have HB1 := Lib.hid (HBA.out.trans (hb1.mono HBA.out.size)); have hx : w1.cell? ⟨w.heap.size, 3, none⟩ = some (.slice A n.sq.length c) := (hb1.cell (p := ⟨w.heap.size, 3, none⟩) (by simp)).trans HX.out; clear hb1)
    go_loopw [5, 6, 7, 27] (fun v5 _ _ v27 wr => ∃ (jx : Nat) (q : Option Addr) (cap t : Nat) (L : List P2), jx ≤ n.sq.length ∧ v27 = .int .i64 jx ∧ v5 = .slice q t cap ∧ Hid (L = rfsN i 0 (n.sq.take jx) ∧ t = L.length) ∧ Hid (ROwn wr w.heap.size (.slice q t cap) L) ∧ Hid (Below w.heap.size w wr)) (fun _ _ _ v27 _ => n.sq.length - (RowKit.intOf v27).toNat)
    case atStart => exact ⟨0, none, 0, 0, [], Nat.zero_le _, rfl, rfl, Lib.hid ⟨by simp [rfsN], rfl⟩, Lib.hid (rown_nil _ _), HB1⟩
    case round =>
      obtain ⟨jx, q, cap, t, L, hj, rfl, rfl, HL, HO, HB⟩ := hrel
      by_cases hj1 : jx < n.sq.length
      · obtain ⟨B1, o, rfl, hBs, hc⟩ := (HH.out.below HB.out).sq (show 0 < n.sq.length by omega)
        have d2 : decide ((jx : Int) < (n.sq.length : Int)) = true := decide_eq_true (by omega)
        have k0 := hc jx hj1
        have ht := rfsN_take (i := i) hj1
        obtain ⟨s, hs⟩ : ∃ s, n.sq[jx] = s := ⟨_, rfl⟩
        rw [hs] at k0 ht
        have HT := Lib.hid ht
        clear hc hs ht
        by_cases g : s = 0
        · subst g
          go_wp2_with fail
          go_roundw
          case rel => exact ⟨jx + 1, q, cap, t, L, by omega, by go_num, rfl, Lib.hid ⟨by rw [HT.out, HL.out.1]; simp, HL.out.2⟩, HO, HB⟩
          case measure => simp [RowKit.intOf]; omega
        · have b : (s != 0) = true := by simpa using g
          have G := Lib.hid g
          obtain ⟨P, hP⟩ : ∃ P, numS i (jx : Int) = P := ⟨_, rfl⟩
          have HPN : Hid (P = 1 + i * 5 + (jx : Int)) := Lib.hid (by rw [← hP]; exact numS_in HI.out.1 HI.out.2 (by have := F5.out; omega))
          have HPC := Lib.hid (fun w1 : World => pageof_any i (jx : Int) w1)
          rw [hP] at HPC
          have HOW := Lib.hid (rown_keep HO.out ((Below.refl wr.heap.size wr).alloc (Nat.le_refl _) (.cells #[.int .i64 P, .int .i64 s] 31)))
          have HL1 := Lib.hid (rown_one_at wr (P, s) rfl)
          have HBW := Lib.hid (HB.out.alloc HB.out.size (.cells #[.int .i64 P, .int .i64 s] 31))
          have hLt : L.length + 1 ≤ 100000 := by
            have h5 := cntN_le (n.sq.take jx)
            rw [← rfsN_len i _ 0, ← HL.out.1, List.length_take] at h5
            have := F5.out; omega
          have HLT := Lib.hid hLt
          have HTL := Lib.hid HL.out.2
          clear g hP hLt
          go_wp2_with (first
            | (go_at_call 25; refine (HPC.out _).mono ?_; rintro e w' ⟨rfl, rfl⟩)
            | (at_builtin; have htl := HTL.out; subst htl; refine wpList_rapp rfl _ _ rfl w.heap.size (.slice q L.length cap) L [(P, s)] _ _ rfl rfl HOW.out HL1.out (fun e => by cases e) HLT.out HBW.out.size ?_; intro q2 cap2 w2 hown2 hg2))
          have HB2 := Lib.hid (HBW.out.grown hg2 HBW.out.size fun k e => (HOW.out.lt k e).1)
          have HO2 := Lib.hid hown2
          clear hown2 hg2
          go_roundw
          case rel => exact ⟨jx + 1, q2, cap2, _, L ++ [(P, s)], by omega, by go_num, rfl, Lib.hid ⟨by rw [HT.out, if_neg G.out, HL.out.1, HPN.out], by simp⟩, HO2, HB2⟩
          case measure => simp [RowKit.intOf]; omega
      · have d2 : decide ((jx : Int) < (n.sq.length : Int)) = false := decide_eq_false (by omega)
        have HE : Hid (L = R) := Lib.hid (by rw [HL.out.1, HF.out, List.take_of_length_le (by omega)])
        go_wp2_with fail
        go_ret
        have hf := HO.out.lies
        rw [← HE.out]
        exact ⟨q, cap, by rw [HL.out.2]; rfl, hf.1, hf.2.2.1, rown_none HO.out, by rw [← HL.out.2]; exact hf.2.2.2, HB.out⟩
theorem made_ints5 : madeCells #[Value.int .i64 0] 5 = #[.int .i64 0, .int .i64 0, .int .i64 0, .int .i64 0, .int .i64 0] := by
  apply Array.ext
  · simp [madeCells]
  · intro i h1 h2
    rcases (by simp at h2; omega : i = 0 ∨ i = 1 ∨ i = 2 ∨ i = 3 ∨ i = 4) with rfl | rfl | rfl | rfl | rfl <;> simp [madeCells]
/-- What a call that tells a node of a kind answers. -/
def EmptyPost (w : World) (k : Int) (e : Ending) (w' : World) : Prop :=
  ∃ A c, e = .returned (ndV (emptyN k) A none c 0) ∧ IOwn w' w.heap.size (.slice A (emptyN k).sq.length c) (emptyN k).sq ∧ Below w.heap.size w w'
theorem make_ints5 (w : World) : (Instr.makeSlice 22 (.int .i64 5) (.int .i64 5)).run Try.prog w = .ok (.slice (some ⟨w.heap.size, 0, none⟩) 5 5) (w.alloc (.cells (madeCells #[Value.int .i64 0] 5) 3)) :=
  run_make_row' 22 3 (.int .i64 0) 8 Try.underlying22 info_intI rfl .i64 .i64 5 (by omega) (by omega) w
theorem iown_five {W : World} {B g : Nat} (h : W.heap[g]? = some (.cells (madeCells #[Value.int .i64 0] 5) 3 (0, 0))) (hB : B ≤ g) : IOwn W B (.slice (some ⟨g, 0, none⟩) 5 5) [0, 0, 0, 0, 0] := by
  rw [made_ints5] at h
  exact ⟨rfl, .inr ⟨g, 5, _, rfl, hB, h, Nat.le_refl _, by unfold maxLen; omega, rfl, rfl⟩⟩
set_option maxRecDepth 100000 in
set_option maxHeartbeats 4000000 in
theorem emptyr_any (k : Int) (w : World) : Calls Try.prog 17 #[.int .i64 k] w (EmptyPost w k) := by
  by_cases h1 : k = 1
  · subst h1
    have hmk := fun w1 : World => make_ints5 w1
    go_enter Try.func17, Try.ntmps17
    go_wp2_with fail
    refine bodyPost_ret (results_cell_row rfl _ _ w.heap.size _ _ _ _ rfl ((((Below.refl _ _).alloc (Nat.le_refl _) _).block w.heap.size (by simp)).trans (heap_alloc_new _ _)) Try.underlying25 rfl (by kernel_rfl)) rfl ?_
    refine ⟨some ⟨w.heap.size + 1, 0, none⟩, 5, rfl, iown_five ?_ (by omega), ((Below.refl _ _).alloc (Nat.le_refl _) _).alloc (by simp) _⟩
    have := heap_alloc_new (w.alloc (.cells #[.int .i64 1, .int .i64 1, .int .i64 0, .slice (some ⟨w.heap.size + 1, 0, none⟩) 5 5, .slice none 0 0] 25)) (.cells (madeCells #[Value.int .i64 0] 5) 3)
    rwa [show (w.alloc (.cells #[.int .i64 1, .int .i64 1, .int .i64 0, .slice (some ⟨w.heap.size + 1, 0, none⟩) 5 5, .slice none 0 0] 25)).heap.size = w.heap.size + 1 by simp] at this
  have e1 : (k == 1) = false := by simpa using h1
  by_cases h2 : k = 2
  · subst h2
    go_enter Try.func17, Try.ntmps17
    go_wp2_with fail
    refine bodyPost_ret (results_cell_row rfl _ _ w.heap.size _ _ _ _ rfl (heap_alloc_new _ _) Try.underlying25 rfl (by kernel_rfl)) rfl ?_
    exact ⟨none, 0, rfl, iown_nil _ _, (Below.refl _ _).alloc (Nat.le_refl _) _⟩
  have e2 : (k == 2) = false := by simpa using h2
  have HF : Hid (emptyN k = ⟨0, 0, 0, [], []⟩) := Lib.hid (by unfold emptyN; rw [if_neg h1, if_neg h2])
  go_enter Try.func17, Try.ntmps17
  go_wp2_with fail
  refine bodyPost_ret (results_cell_row rfl _ _ w.heap.size _ _ _ _ rfl (heap_alloc_new _ _) Try.underlying25 rfl (by kernel_rfl)) rfl ?_
  refine ⟨none, 0, by rw [HF.out]; rfl, ?_, (Below.refl _ _).alloc (Nat.le_refl _) _⟩
  rw [HF.out]
  exact iown_nil _ _
end Go.Proofs.Ytohiabkjbieflaa
