/- The landed Refs, Pages, Copy (written by mknw.py). -/
import Derived.Test.YtohiabkjbieflaaNdV
namespace Go.Proofs.Ytohiabkjbieflaa
open Go.RowKit Go.Lib

theorem may_len {n : Nd} (h : mayNd n = true) : n.sq.length ≤ 5 := by
  unfold mayNd at h
  split at h
  · simp only [Bool.and_eq_true, decide_eq_true_eq] at h
    omega
  · split at h
    · simp only [Bool.and_eq_true, decide_eq_true_eq] at h
      omega
    · split at h
      · have := (mayFl_at h).2.2.2.2.1
        omega
      · cases h
theorem refs_all {i : Int} {n : Nd} (h : mayNd n = true) (h0 : 0 ≤ i ∧ i ≤ 11) : refsN i n = rfsN i 0 n.sq := by
  by_cases hk : n.k = 1
  · exact refsN_file hk h h0.1 (by omega)
  · have e : refsN i n = [] := by unfold refsN; rw [if_neg (fun e => hk e.1)]
    have e2 : n.sq = [] := by
      unfold mayNd at h
      split at h
      · simp only [Bool.and_eq_true, decide_eq_true_eq] at h
        exact List.eq_nil_of_length_eq_zero h.2.2.1
      · split at h
        · simp only [Bool.and_eq_true, decide_eq_true_eq] at h
          exact List.eq_nil_of_length_eq_zero h.2.2.1
        · first | cases h | (rw [if_neg hk] at h; cases h)
    rw [e, e2]; rfl
theorem refs_none {i : Int} {n : Nd} (h : mayNd n = false) : refsN i n = [] := by
  unfold refsN
  rw [if_neg (fun e => by rw [h] at e; cases e.2.1)]
set_option maxRecDepth 100000 in
set_option maxHeartbeats 4000000 in
theorem refsl_any (i : Int) (n : Nd) (A B : Option Addr) (c d : Nat) (w : World) (h : NLies w n A B c d) : Calls Try.prog 10 #[.int .i64 i, ndV n A B c d] w (RPost w (refsN i n)) := by
  have hmx : maxLen = 9223372036854775807 := rfl
  have hsm : n.sq.length ≤ maxLen := h.sm
  have HH := Lib.hid h
  have HBA := Lib.hid ((Below.refl w.heap.size w).alloc (Nat.le_refl _) (.cells #[.int .i64 n.k, .int .i64 n.l, .int .i64 n.z, .slice A n.sq.length c, .slice B n.en.length d] 25))
  have HX := Lib.hid (node_cell w #[.int .i64 n.k, .int .i64 n.l, .int .i64 n.z, .slice A n.sq.length c, .slice B n.en.length d] 25 3 (by simp))
  clear h
  obtain ⟨R, hR⟩ : ∃ R, refsN i n = R := ⟨_, rfl⟩
  rw [hR]
  have HR := Lib.hid hR
  clear hR
  obtain ⟨m, hm⟩ : ∃ m, mayNd n = m := ⟨_, rfl⟩
  have HC := Lib.hid (fun w1 (hb : Below w.heap.size w w1) => maynl_any n A B c d w1 (HH.out.below hb))
  rw [hm] at HC
  have HM := Lib.hid hm
  clear hm
  cases m with
  | false =>
    have HF : Hid (R = []) := Lib.hid (by rw [← HR.out]; exact refs_none HM.out)
    go_enter Try.func10, Try.ntmps10
    go_wp2_with (first | (go_at_call 12; refine (HC.out _ HBA.out).mono ?_; rintro e w1 ⟨rfl, hb1⟩; have HB1 := Lib.hid (HBA.out.trans (hb1.mono HBA.out.size)); have hx : w1.cell? ⟨w.heap.size, 3, none⟩ = some (.slice A n.sq.length c) := (hb1.cell (p := ⟨w.heap.size, 3, none⟩) (by simp)).trans HX.out; clear hb1) | fail)
    go_ret
    exact RPost.nil HF.out HB1.out
  | true =>
    have hw3 := fun w1 : World => nwithin_any i 0 11 w1
    by_cases hi : 0 ≤ i ∧ i ≤ 11
    case neg =>
      rw [decide_eq_false hi] at hw3
      have HW := Lib.hid hw3
      have HF : Hid (R = []) := Lib.hid (by rw [← HR.out]; exact refsN_far (by omega))
      clear hi hw3
      go_enter Try.func10, Try.ntmps10
      go_wp2_with (first | (go_at_call 12; refine (HC.out _ HBA.out).mono ?_; rintro e w1 ⟨rfl, hb1⟩; have HB1 := Lib.hid (HBA.out.trans (hb1.mono HBA.out.size)); have hx : w1.cell? ⟨w.heap.size, 3, none⟩ = some (.slice A n.sq.length c) := (hb1.cell (p := ⟨w.heap.size, 3, none⟩) (by simp)).trans HX.out; clear hb1) | (go_at_call 24; (with_reducible refine (HW.out _).mono ?_); rintro e w2 ⟨rfl, rfl⟩) | fail)
      go_ret
      exact RPost.nil HF.out HB1.out
    rw [decide_eq_true hi] at hw3
    have HW := Lib.hid hw3
    have HI := Lib.hid hi
    have HF : Hid (R = rfsN i 0 n.sq) := Lib.hid (by rw [← HR.out]; exact refs_all HM.out hi)
    have F5 : Hid (n.sq.length ≤ 5) := Lib.hid (may_len HM.out)
    have y1 : IntKind.i64.wrap (i * 5) = i * 5 := i64w_idE _ (by omega)
    have y2 : IntKind.i64.wrap (1 + i * 5) = 1 + i * 5 := i64w_idE _ (by omega)
    clear hi hw3
    go_enter Try.func10, Try.ntmps10
    go_wp2_with (first | (go_at_call 12; refine (HC.out _ HBA.out).mono ?_; rintro e w1 ⟨rfl, hb1⟩; have HB1 := Lib.hid (HBA.out.trans (hb1.mono HBA.out.size)); have hx : w1.cell? ⟨w.heap.size, 3, none⟩ = some (.slice A n.sq.length c) := (hb1.cell (p := ⟨w.heap.size, 3, none⟩) (by simp)).trans HX.out; clear hb1) | (go_at_call 24; (with_reducible refine (HW.out _).mono ?_); rintro e w2 ⟨rfl, rfl⟩) | fail)
    go_loopw [5, 6, 7, 19] (fun v5 _ _ v19 wr => ∃ (jx : Nat) (q : Option Addr) (cap t : Nat) (L : List P2), jx ≤ n.sq.length ∧ v19 = .int .i64 jx ∧ v5 = .slice q t cap ∧ Hid (L = rfsN i 0 (n.sq.take jx) ∧ t = L.length) ∧ Hid (ROwn wr w.heap.size (.slice q t cap) L) ∧ Hid (Below w.heap.size w wr)) (fun _ _ _ v19 _ => n.sq.length - (RowKit.intOf v19).toNat)
    case atStart => exact ⟨0, none, 0, 0, [], Nat.zero_le _, rfl, rfl, Lib.hid ⟨by simp [rfsN], rfl⟩, Lib.hid (rown_nil _ _), HB1⟩
    case round =>
      obtain ⟨jx, q, cap, t, L, hj, rfl, rfl, HL, HO, HB⟩ := hrel
      by_cases hj1 : jx < n.sq.length
      · obtain ⟨B1, o, rfl, hBs, hc⟩ := (HH.out.below HB.out).sq (show 0 < n.sq.length by omega)
        have d2 : decide ((jx : Int) < (n.sq.length : Int)) = true := decide_eq_true (by omega)
        have k0 := hc jx hj1
        have ht := rfsN_take (i := i) hj1
        obtain ⟨s, hs⟩ : ∃ s, n.sq[jx] = s := ⟨_, rfl⟩
        rw [hs] at k0 ht
        have HT := Lib.hid ht
        clear hc hs ht
        by_cases g : s = 0
        · subst g
          go_wp2_with fail
          go_roundw
          case rel => exact ⟨jx + 1, q, cap, t, L, by omega, by go_num, rfl, Lib.hid ⟨by rw [HT.out, HL.out.1]; simp, HL.out.2⟩, HO, HB⟩
          case measure => simp [RowKit.intOf]; omega
        · have b : (s != 0) = true := by simpa using g
          have G := Lib.hid g
          obtain ⟨P, hP⟩ : ∃ P, 1 + i * 5 + (jx : Int) = P := ⟨_, rfl⟩
          have hi := HI.out
          have h5 := F5.out
          have y3 : IntKind.i64.wrap (1 + i * 5 + (jx : Int)) = P := by rw [i64w_idE _ (by omega)]; exact hP
          have HPN : Hid (P = 1 + i * 5 + (jx : Int)) := Lib.hid hP.symm
          have HOW := Lib.hid (rown_keep HO.out ((Below.refl wr.heap.size wr).alloc (Nat.le_refl _) (.cells #[.int .i64 P, .int .i64 s] 31)))
          have HL1 := Lib.hid (rown_one_at wr (P, s) rfl)
          have HBW := Lib.hid (HB.out.alloc HB.out.size (.cells #[.int .i64 P, .int .i64 s] 31))
          have hLt : L.length + 1 ≤ 100000 := by
            have h5 := cntN_le (n.sq.take jx)
            rw [← rfsN_len i _ 0, ← HL.out.1, List.length_take] at h5
            have := F5.out; omega
          have HLT := Lib.hid hLt
          have HTL := Lib.hid HL.out.2
          clear g hP hLt hi h5
          go_wp2_with (first
            | (at_builtin; have htl := HTL.out; subst htl; refine wpList_rapp rfl _ _ rfl w.heap.size (.slice q L.length cap) L [(P, s)] _ _ rfl rfl HOW.out HL1.out (fun e => by cases e) HLT.out HBW.out.size ?_; intro q2 cap2 w2 hown2 hg2)
            | fail)
          have HB2 := Lib.hid (HBW.out.grown hg2 HBW.out.size fun k e => (HOW.out.lt k e).1)
          have HO2 := Lib.hid hown2
          clear hown2 hg2
          go_roundw
          case rel => exact ⟨jx + 1, q2, cap2, _, L ++ [(P, s)], by omega, by go_num, rfl, Lib.hid ⟨by rw [HT.out, if_neg G.out, HL.out.1, HPN.out], by simp⟩, HO2, HB2⟩
          case measure => simp [RowKit.intOf]; omega
      · have d2 : decide ((jx : Int) < (n.sq.length : Int)) = false := decide_eq_false (by omega)
        have HE : Hid (L = R) := Lib.hid (by rw [HL.out.1, HF.out, List.take_of_length_le (by omega)])
        go_wp2_with fail
        go_ret
        have hf := HO.out.lies
        rw [← HE.out]
        exact ⟨q, cap, by rw [HL.out.2]; rfl, hf.1, hf.2.2.1, rown_none HO.out, by rw [← HL.out.2]; exact hf.2.2.2, HB.out⟩
theorem refsN_most (i : Int) (n : Nd) : (refsN i n).length ≤ 5 := by
  unfold refsN
  split
  · next h => rw [rfsN_len]; exact Nat.le_trans (cntN_le _) (may_len h.2.1)
  · simp
set_option maxRecDepth 100000 in
set_option maxHeartbeats 4000000 in
theorem pagesl_any (n : Nd) (A B : Option Addr) (c d : Nat) (w : World) (h : NLies w n A B c d) : Calls Try.prog 18 #[ndV n A B c d] w fun x w' => x = .returned (.int .i64 (pagesN n)) ∧ Below w.heap.size w w' := by
  have HBA := Lib.hid ((Below.refl w.heap.size w).alloc (Nat.le_refl _) (.cells #[.int .i64 n.k, .int .i64 n.l, .int .i64 n.z, .slice A n.sq.length c, .slice B n.en.length d] 25))
  have HC := Lib.hid (refsl_any 0 n A B c d _ (h.below HBA.out))
  rw [← refsN_len (i := 0) (n := n) (by omega)]
  generalize refsN 0 n = L at HC ⊢
  clear h
  go_enter Try.func18, Try.ntmps18
  go_wp2_with (first
    | (go_at_call 10; refine HC.out.mono ?_; rintro e w1 ⟨A1, c1, rfl, -, -, -, -, hb1⟩; have HB1 := Lib.hid (HBA.out.trans (hb1.mono HBA.out.size)); clear hb1)
    | fail)
  go_ret
  exact ⟨by simp, HB1.out⟩
set_option maxRecDepth 100000 in
set_option maxHeartbeats 8000000 in
theorem copyl_raw (k l z : Int) (sq : List Int) (en : List Ent) (s t : Nat) (A B : Option Addr) (c d : Nat) (w : World) (HS : Hid (sq.length = s)) (HT : Hid (en.length = t)) (h6 : s ≤ 60) (h7 : t ≤ 60)
    (HQ : Hid (ILies w A sq)) (HE : Hid (ELies w B en)) (HQN : Hid (A = none → sq = [] ∧ c = 0)) (HEN : Hid (B = none → en = [] ∧ d = 0)) :
    Calls Try.prog 20 #[.agg #[.int .i64 k, .int .i64 l, .int .i64 z, .slice A s c, .slice B t d]] w fun e w' =>
      ∃ A' B' c' d', e = .returned (.agg #[.int .i64 k, .int .i64 l, .int .i64 z, .slice A' s c', .slice B' t d']) ∧ IOwn w' w.heap.size (.slice A' s c') sq ∧ EOwn w' w.heap.size (.slice B' t d') en ∧ Below w.heap.size w w' := by
  obtain ⟨P, hP⟩ : ∃ P, P = w.heap.size := ⟨_, rfl⟩
  have HPw := Lib.hid hP
  have HC1 : Hid (∀ w1, ILies w1 A sq → Calls Try.prog 33 #[.slice A s c] w1 fun e w' => ∃ A' c', e = .returned (.slice A' s c') ∧ IOwn w' w1.heap.size (.slice A' s c') sq ∧ Below w1.heap.size w1 w') := Lib.hid fun w1 hw => by
    rw [← HS.out]; exact clonei_any A c sq w1 hw HQN.out (by rw [HS.out]; exact h6)
  have HC2 : Hid (∀ w1, ELies w1 B en → Calls Try.prog 34 #[.slice B t d] w1 fun e w' => ∃ A' c', e = .returned (.slice A' t c') ∧ EOwn w' w1.heap.size (.slice A' t c') en ∧ Below w1.heap.size w1 w') := Lib.hid fun w1 hw => by
    rw [← HT.out]; exact clonee_any B d en w1 hw HEN.out (by rw [HT.out]; exact h7)
  go_enter Try.func20, Try.ntmps20
  go_upto_region 1 with (fail)
  obtain ⟨W0, hW0⟩ : ∃ W, W = (w.alloc (.cells #[.int .i64 k, .int .i64 l, .int .i64 z, .slice A s c, .slice B t d] 25)).alloc (.cells #[.int .i64 0, .int .i64 0, .int .i64 0, .slice none 0 0, .slice none 0 0] 25) := ⟨_, rfl⟩
  rw [← hW0]
  have HX : Hid (W0.heap[P]? = some (.cells #[.int .i64 k, .int .i64 l, .int .i64 z, .slice A s c, .slice B t d] 25 (0, 0))) := Lib.hid (by rw [hW0, hP]; exact (((Below.refl _ _).alloc (Nat.le_refl _) _).block w.heap.size (by simp)).trans (heap_alloc_new _ _))
  have HY : Hid (W0.heap[P + 1]? = some (.cells #[.int .i64 0, .int .i64 0, .int .i64 0, .slice none 0 0, .slice none 0 0] 25 (0, 0))) := Lib.hid (by
    have := heap_alloc_new (w.alloc (.cells #[.int .i64 k, .int .i64 l, .int .i64 z, .slice A s c, .slice B t d] 25)) (.cells #[.int .i64 0, .int .i64 0, .int .i64 0, .slice none 0 0, .slice none 0 0] 25)
    rw [← hW0, show (w.alloc (.cells #[.int .i64 k, .int .i64 l, .int .i64 z, .slice A s c, .slice B t d] 25)).heap.size = P + 1 by rw [hP]; simp] at this
    exact this)
  have HB0 : Hid (Below w.heap.size w W0) := Lib.hid (by rw [hW0]; exact ((Below.refl _ _).alloc (Nat.le_refl _) _).alloc (by simp) _)
  have hP0 : P + 1 < W0.heap.size := by rw [hW0, hP]; simp
  clear hW0
  rw [← hP]
  have q3 : W0.cell? ⟨P, 3, none⟩ = some (.slice A s c) := by have := HX.out; simp [World.cell?, this]
  clear hP
  go_upto_region 2 with (first
    | (go_at_call 33; refine (HC1.out _ (HQ.out.below HB0.out)).mono ?_; rintro e w1 ⟨q1, c1, rfl, hO1, hb1⟩; have HO1 := Lib.hid hO1; have HB1 := Lib.hid hb1; have HX1 : Hid (w1.heap[P]? = some (.cells #[.int .i64 k, .int .i64 l, .int .i64 z, .slice A s c, .slice B t d] 25 (0, 0))) := Lib.hid ((hb1.block P (by omega)).trans HX.out); have e3 : w1.cell? ⟨P, 3, none⟩ = some (.slice A s c) := (by have := HX1.out; simp [World.cell?, this]); have f3 : w1.frozen? ⟨P, 3, none⟩ = false := (by have := HX1.out; simp [World.frozen?, this]); clear hO1 hb1)
    | fail)
  obtain ⟨w2, hw2⟩ : ∃ W, W = w1.setCell ⟨P, 3, none⟩ (.slice q1 s c1) := ⟨_, rfl⟩
  rw [← hw2]
  have HX2 : Hid (w2.heap[P]? = some (.cells #[.int .i64 k, .int .i64 l, .int .i64 z, .slice q1 s c1, .slice B t d] 25 (0, 0))) := Lib.hid (by
    rw [hw2, heap_setCell_same _ P 3 _ _ _ HX1.out]; rfl)
  have hk : ∀ b, b ≠ P → w2.heap[b]? = w1.heap[b]? := fun b hb => by rw [hw2, Below.heap_setCell _ _ _ _ hb]
  have HO2 : Hid (IOwn w2 W0.heap.size (.slice q1 s c1) sq) := Lib.hid (own_keep HO1.out fun g e => hk g (by have := (HO1.out.lt g e).1; omega))
  have HY2 : Hid (w2.heap[P + 1]? = some (.cells #[.int .i64 0, .int .i64 0, .int .i64 0, .slice none 0 0, .slice none 0 0] 25 (0, 0))) := Lib.hid ((hk (P + 1) (by omega)).trans ((HB1.out.block (P + 1) (by omega)).trans HY.out))
  have HB2 : Hid (Below w.heap.size w w2) := Lib.hid (by rw [hw2]; exact (HB0.out.trans (HB1.out.mono HB0.out.size)).setCell (by have := HPw.out; show w.heap.size ≤ P; omega) _)
  have hs2 : W0.heap.size ≤ w2.heap.size := by
    have : w2.heap.size = w1.heap.size := by rw [hw2]; simp
    have := HB1.out.size; omega
  clear hw2 hk e3 f3 q3
  have q4 : w2.cell? ⟨P, 4, none⟩ = some (.slice B t d) := by have := HX2.out; simp [World.cell?, this]
  go_upto_region 3 with (first
    | (go_at_call 34; refine (HC2.out _ (HE.out.below HB2.out)).mono ?_; rintro e w4 ⟨q2, c2, rfl, hO4, hb4⟩; have HO4 := Lib.hid hO4; have HB4 := Lib.hid hb4; have HX4 : Hid (w4.heap[P]? = some (.cells #[.int .i64 k, .int .i64 l, .int .i64 z, .slice q1 s c1, .slice B t d] 25 (0, 0))) := Lib.hid ((hb4.block P (by omega)).trans HX2.out); have e4 : w4.cell? ⟨P, 4, none⟩ = some (.slice B t d) := (by have := HX4.out; simp [World.cell?, this]); have f4 : w4.frozen? ⟨P, 4, none⟩ = false := (by have := HX4.out; simp [World.frozen?, this]); clear hO4 hb4)
    | fail)
  obtain ⟨w3, hw3⟩ : ∃ W, W = w4.setCell ⟨P, 4, none⟩ (.slice q2 t c2) := ⟨_, rfl⟩
  rw [← hw3]
  have HX3 : Hid (w3.heap[P]? = some (.cells #[.int .i64 k, .int .i64 l, .int .i64 z, .slice q1 s c1, .slice q2 t c2] 25 (0, 0))) := Lib.hid (by
    rw [hw3, heap_setCell_same _ P 4 _ _ _ HX4.out]; rfl)
  have hk : ∀ b, b ≠ P → w3.heap[b]? = w4.heap[b]? := fun b hb => by rw [hw3, Below.heap_setCell _ _ _ _ hb]
  have HO5 : Hid (EOwn w3 W0.heap.size (.slice q2 t c2) en) := Lib.hid (own_base (own_keep HO4.out fun g e => hk g (by have := (HO4.out.lt g e).1; omega)) hs2)
  have HO6 : Hid (IOwn w3 W0.heap.size (.slice q1 s c1) sq) := Lib.hid (own_keep HO2.out fun g e => (hk g (by have := (HO2.out.lt g e).1; omega)).trans (HB4.out.block g (HO2.out.lt g e).2))
  have HY3 : Hid (w3.heap[P + 1]? = some (.cells #[.int .i64 0, .int .i64 0, .int .i64 0, .slice none 0 0, .slice none 0 0] 25 (0, 0))) := Lib.hid ((hk (P + 1) (by omega)).trans ((HB4.out.block (P + 1) (by omega)).trans HY2.out))
  have HB3 : Hid (Below w.heap.size w w3) := Lib.hid (by rw [hw3]; exact (HB2.out.trans (HB4.out.mono HB2.out.size)).setCell (by have := HPw.out; show w.heap.size ≤ P; omega) _)
  clear hw3 hk e4 f4 q4
  have r0 : w3.cell? ⟨P, 0, none⟩ = some (.int .i64 k) := by have := HX3.out; simp [World.cell?, this]
  have r1 : w3.cell? ⟨P, 1, none⟩ = some (.int .i64 l) := by have := HX3.out; simp [World.cell?, this]
  have r2 : w3.cell? ⟨P, 2, none⟩ = some (.int .i64 z) := by have := HX3.out; simp [World.cell?, this]
  have r3 : w3.cell? ⟨P, 3, none⟩ = some (.slice q1 s c1) := by have := HX3.out; simp [World.cell?, this]
  have r4 : w3.cell? ⟨P, 4, none⟩ = some (.slice q2 t c2) := by have := HX3.out; simp [World.cell?, this]
  have y0 : w3.cell? ⟨P + 1, 0, none⟩ = some (.int .i64 0) := by have := HY3.out; simp [World.cell?, this]
  have z0 : w3.frozen? ⟨P + 1, 0, none⟩ = false := by have := HY3.out; simp [World.frozen?, this]
  have y1 : w3.cell? ⟨P + 1, 1, none⟩ = some (.int .i64 0) := by have := HY3.out; simp [World.cell?, this]
  have z1 : w3.frozen? ⟨P + 1, 1, none⟩ = false := by have := HY3.out; simp [World.frozen?, this]
  have y2 : w3.cell? ⟨P + 1, 2, none⟩ = some (.int .i64 0) := by have := HY3.out; simp [World.cell?, this]
  have z2 : w3.frozen? ⟨P + 1, 2, none⟩ = false := by have := HY3.out; simp [World.frozen?, this]
  have y3 : w3.cell? ⟨P + 1, 3, none⟩ = some (.slice none 0 0) := by have := HY3.out; simp [World.cell?, this]
  have z3 : w3.frozen? ⟨P + 1, 3, none⟩ = false := by have := HY3.out; simp [World.frozen?, this]
  have y4 : w3.cell? ⟨P + 1, 4, none⟩ = some (.slice none 0 0) := by have := HY3.out; simp [World.cell?, this]
  have z4 : w3.frozen? ⟨P + 1, 4, none⟩ = false := by have := HY3.out; simp [World.frozen?, this]
  go_wp2_with fail
  obtain ⟨w4, hw4⟩ : ∃ W, W = ((((w3.setCell ⟨P + 1, 0, none⟩ (.int .i64 k)).setCell ⟨P + 1, 1, none⟩ (.int .i64 l)).setCell ⟨P + 1, 2, none⟩ (.int .i64 z)).setCell ⟨P + 1, 3, none⟩ (.slice q1 s c1)).setCell ⟨P + 1, 4, none⟩ (.slice q2 t c2) := ⟨_, rfl⟩
  rw [← hw4]
  have hz : w4.heap[P + 1]? = some (.cells #[.int .i64 k, .int .i64 l, .int .i64 z, .slice q1 s c1, .slice q2 t c2] 25 (0, 0)) := by
    rw [hw4, heap_setCell_same _ (P + 1) 4 _ _ _ (heap_setCell_same _ (P + 1) 3 _ _ _ (heap_setCell_same _ (P + 1) 2 _ _ _ (heap_setCell_same _ (P + 1) 1 _ _ _ (heap_setCell_same _ (P + 1) 0 _ _ _ HY3.out))))]; rfl
  have hk : ∀ b, b ≠ P + 1 → w4.heap[b]? = w3.heap[b]? := fun b hb => by rw [hw4, Below.heap_setCell _ _ _ _ hb, Below.heap_setCell _ _ _ _ hb, Below.heap_setCell _ _ _ _ hb, Below.heap_setCell _ _ _ _ hb, Below.heap_setCell _ _ _ _ hb]
  have hB4 : Below w.heap.size w w4 := by
    have hp : w.heap.size ≤ P + 1 := by have := HPw.out; omega
    rw [hw4]
    exact ((((HB3.out.setCell hp _).setCell hp _).setCell hp _).setCell hp _).setCell hp _
  clear hw4
  refine bodyPost_ret (results_cell_row rfl _ _ (P + 1) _ _ _ _ rfl hz Try.underlying25 rfl (by kernel_rfl)) rfl ?_
  exact ⟨q1, q2, c1, c2, rfl, own_base (own_keep HO6.out fun g e => hk g (by have := (HO6.out.lt g e).1; omega)) HB0.out.size, own_base (own_keep HO5.out fun g e => hk g (by have := (HO5.out.lt g e).1; omega)) HB0.out.size, hB4⟩
theorem copyl_any (n : Nd) (A B : Option Addr) (c d : Nat) (w : World) (h : NLies w n A B c d) (h6 : n.sq.length ≤ 60) (h7 : n.en.length ≤ 60) : Calls Try.prog 20 #[ndV n A B c d] w (CopyPost w n) :=
  (copyl_raw n.k n.l n.z n.sq n.en _ _ A B c d w (Lib.hid rfl) (Lib.hid rfl) h6 h7 (Lib.hid h.sq) (Lib.hid h.en) (Lib.hid h.sn) (Lib.hid h.nn)).mono fun _ _ ⟨A', B', c', d', h1, h2, h3, h4⟩ => ⟨A', B', c', d', h1, h2, h3, h4⟩
end Go.Proofs.Ytohiabkjbieflaa
