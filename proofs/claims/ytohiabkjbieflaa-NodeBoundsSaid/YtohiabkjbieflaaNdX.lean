/- awake: nodes that every program must know. -/
import Derived.Test.YtohiabkjbieflaaNdW
namespace Go.Proofs.Ytohiabkjbieflaa
open Go.RowKit Go.Lib

theorem nlies_own {w : World} {base base' : Nat} {n : Nd} {A B : Option Addr} {c d : Nat} (hI : IOwn w base (.slice A n.sq.length c) n.sq) (hE : EOwn w base' (.slice B n.en.length d) n.en) (hs : n.sq.length ≤ maxLen) (he : n.en.length ≤ maxLen) : NLies w n A B c d := by
  obtain ⟨i1, -, -, i4, i5⟩ := hI.lies
  obtain ⟨e1, -, -, e4⟩ := hE.lies
  refine ⟨i1, e1, fun h => ?_, fun h => ?_, i4, e4, hs, he⟩
  · have := i5 h
    exact ⟨List.eq_nil_of_length_eq_zero (by omega), this⟩
  · have := own_none hE h
    exact ⟨List.eq_nil_of_length_eq_zero (by omega), this⟩
theorem emptyf_any (w : World) : Calls Try.prog 16 #[.int .i64 1] w fun e w' => ∃ g c, e = .returned (.agg #[.int .i64 1, .int .i64 1, .int .i64 0, .slice (some ⟨g, 0, none⟩) 5 c, .slice none 0 0]) ∧ IOwn w' w.heap.size (.slice (some ⟨g, 0, none⟩) 5 c) [0, 0, 0, 0, 0] ∧ Below w.heap.size w w' :=
  (emptyl_any 1 w).mono fun e w' ⟨A, c, he, hO, hb⟩ => by
    subst he
    rcases hO.2 with ⟨h, _⟩ | ⟨g, cap, cur, e, _⟩
    · simp [emptyN] at h
    · simp at e
      obtain ⟨rfl, -, rfl⟩ := e
      exact ⟨g, c, rfl, hO, hb⟩
theorem IOwn.set {w : World} {base g n c : Nat} {l : List Int} (h : IOwn w base (.slice (some ⟨g, 0, none⟩) n c) l) (j : Nat) (x : Int) : IOwn (w.setCell ⟨g, j, none⟩ (.int .i64 x)) base (.slice (some ⟨g, 0, none⟩) n c) (l.set j x) := by
  obtain rfl := h.lies.2.1
  have := (World.ownsRow.stored h j (.int .i64 x)).1
  unfold IOwn icells
  rw [List.length_set, List.map_set]
  exact this
theorem IOwn.at {w : World} {base g n c : Nat} {l : List Int} (h : IOwn w base (.slice (some ⟨g, 0, none⟩) n c) l) (j : Nat) (hj : j < l.length) : w.cell? ⟨g, j, none⟩ = some (.int .i64 l[j]) ∧ w.frozen? ⟨g, j, none⟩ = false := by
  obtain rfl := h.lies.2.1
  obtain ⟨B, o, e, -, hc⟩ := h.lies.1 (by omega)
  simp at e
  obtain ⟨rfl, rfl⟩ := e
  exact ⟨by have := hc j hj; rwa [Nat.zero_add] at this, World.ownsRow.frozenAt h j⟩
/-- A box that a node lies in. -/
abbrev BoxAt (w : World) (p : Nat) (k l z : Int) (S T : Value) : Prop := w.heap[p]? = some (.cells #[.int .i64 k, .int .i64 l, .int .i64 z, S, T] 25 (0, 0))
theorem BoxAt.cells {w : World} {p : Nat} {k l z : Int} {S T : Value} (h : BoxAt w p k l z S T) : w.cell? ⟨p, 0, none⟩ = some (.int .i64 k) ∧ w.cell? ⟨p, 1, none⟩ = some (.int .i64 l) ∧ w.cell? ⟨p, 2, none⟩ = some (.int .i64 z) ∧ w.cell? ⟨p, 3, none⟩ = some S ∧ w.cell? ⟨p, 4, none⟩ = some T := by
  unfold BoxAt at h
  exact ⟨by simp [World.cell?, h], by simp [World.cell?, h], by simp [World.cell?, h], by simp [World.cell?, h], by simp [World.cell?, h]⟩
theorem BoxAt.frozen {w : World} {p : Nat} {k l z : Int} {S T : Value} (h : BoxAt w p k l z S T) (j : Nat) : w.frozen? ⟨p, j, none⟩ = false := by
  unfold BoxAt at h
  simp [World.frozen?, h]
theorem BoxAt.below {w w' : World} {p B : Nat} {k l z : Int} {S T : Value} (h : BoxAt w p k l z S T) (hb : Below B w w') (hp : p < B) : BoxAt w' p k l z S T := (hb.block p hp).trans h
theorem BoxAt.set1 {w : World} {p : Nat} {k l z : Int} {S T : Value} (h : BoxAt w p k l z S T) (x : Int) : BoxAt (w.setCell ⟨p, 1, none⟩ (.int .i64 x)) p k x z S T := by
  unfold BoxAt; rw [heap_setCell_same _ p 1 _ _ _ h]; rfl
theorem BoxAt.set2 {w : World} {p : Nat} {k l z : Int} {S T : Value} (h : BoxAt w p k l z S T) (x : Int) : BoxAt (w.setCell ⟨p, 2, none⟩ (.int .i64 x)) p k l x S T := by
  unfold BoxAt; rw [heap_setCell_same _ p 2 _ _ _ h]; rfl
theorem BoxAt.set3 {w : World} {p : Nat} {k l z : Int} {S T : Value} (h : BoxAt w p k l z S T) (x : Value) : BoxAt (w.setCell ⟨p, 3, none⟩ x) p k l z x T := by
  unfold BoxAt; rw [heap_setCell_same _ p 3 _ _ _ h]; rfl
theorem BoxAt.set4 {w : World} {p : Nat} {k l z : Int} {S T : Value} (h : BoxAt w p k l z S T) (x : Value) : BoxAt (w.setCell ⟨p, 4, none⟩ x) p k l z S x := by
  unfold BoxAt; rw [heap_setCell_same _ p 4 _ _ _ h]; rfl
theorem BoxAt.other {w : World} {p q j : Nat} {v : Value} {k l z : Int} {S T : Value} (h : BoxAt w p k l z S T) (hq : p ≠ q) : BoxAt (w.setCell ⟨q, j, none⟩ v) p k l z S T := (Below.heap_setCell _ _ _ _ hq).trans h
theorem copyf_any (w : World) (k l z : Int) (sq : List Int) (en : List Ent) (A B : Option Addr) (c d s t : Nat) (HS : Hid (sq.length = s)) (HT : Hid (en.length = t)) (h : NLies w ⟨k, l, z, sq, en⟩ A B c d) (h5 : 0 < s) (h6 : s ≤ 60) (h7 : t ≤ 60) : Calls Try.prog 20 #[.agg #[.int .i64 k, .int .i64 l, .int .i64 z, .slice A s c, .slice B t d]] w fun e w' =>
    ∃ g B' c' d', e = .returned (.agg #[.int .i64 k, .int .i64 l, .int .i64 z, .slice (some ⟨g, 0, none⟩) s c', .slice B' t d']) ∧ IOwn w' w.heap.size (.slice (some ⟨g, 0, none⟩) s c') sq ∧ EOwn w' w.heap.size (.slice B' t d') en ∧ Below w.heap.size w w' :=
  (copyl_raw k l z sq en s t A B c d w HS HT h6 h7 (Lib.hid h.sq) (Lib.hid h.en) (Lib.hid h.sn) (Lib.hid h.nn)).mono fun e w' ⟨A', B', c', d', he, hO, hE, hb⟩ => by
    subst he
    rcases hO.2 with ⟨h, h0⟩ | ⟨g, cap, cur, e, _⟩
    · have := HS.out; omega
    · simp at e
      obtain ⟨rfl, -, rfl⟩ := e
      exact ⟨g, B', c', d', rfl, hO, hE, hb⟩
theorem eql_12 (w : World) : (binOp .eql 31 (.agg #[.int .i64 12, .int .i64 7]) (.agg #[.int .i64 12, .int .i64 7])).run Try.prog w = .ok (.bool true) w := by kernel_rfl
abbrev nA : Nd := ⟨1, 1, 0, [0, 0, 0, 0, 0], []⟩
abbrev nB : Nd := ⟨1, 1, 20, [0, 7, 0, 0, 0], []⟩
set_option maxRecDepth 100000 in
set_option maxHeartbeats 8000000 in
theorem awake_any (w : World) : Calls Try.prog 9 #[] w fun e w' => e = .returned (.bool true) ∧ Below w.heap.size w w' := by
  go_enter Try.func9, Try.ntmps9
  go_upto_region 2 with (first
    | (go_at_call 16; (with_reducible refine (emptyf_any _).mono ?_); rintro e w1 ⟨g1, c1, rfl, hO1, hb1⟩; replace hO1 := Lib.hid hO1; replace hb1 := Lib.hid hb1)
    | fail)
  obtain ⟨W1, hW1⟩ : ∃ X, X = w1.alloc (.cells #[.int .i64 1, .int .i64 1, .int .i64 0, .slice (some ⟨g1, 0, none⟩) 5 c1, .slice none 0 0] 25) := ⟨_, rfl⟩
  obtain ⟨p1, hp1⟩ : ∃ p, p = w1.heap.size := ⟨_, rfl⟩
  rw [← hW1, ← hp1]
  have BX1 : Hid (BoxAt W1 p1 1 1 0 (.slice (some ⟨g1, 0, none⟩) 5 c1) (.slice none 0 0)) := Lib.hid (by rw [hW1, hp1]; exact heap_alloc_new _ _)
  have HB1 : Hid (Below w.heap.size w W1) := Lib.hid (by rw [hW1]; exact hb1.out.alloc hb1.out.size _)
  have HN1 : Hid (NLies W1 nA (some ⟨g1, 0, none⟩) none c1 0) := Lib.hid (by rw [hW1]; exact (nlies_own (n := nA) hO1.out (eown_nil _ 0) (by unfold maxLen; simp) (by simp)).below ((Below.refl _ _).alloc (Nat.le_refl _) _))
  have hs1 : Hid (p1 < W1.heap.size) := Lib.hid (by rw [hW1, hp1]; simp)
  obtain ⟨r0, r1, r2, r3, r4⟩ := BX1.out.cells
  clear hW1 hp1 hb1 hO1
  go_upto_region 3 with (first
    | (go_at_call 20; (with_reducible refine (copyf_any _ 1 1 0 [0, 0, 0, 0, 0] [] _ _ _ _ 5 0 (Lib.hid rfl) (Lib.hid rfl) HN1.out (by omega) (by omega) (by omega)).mono ?_); rintro e w2 ⟨g2, B2, c2, d2, rfl, hO2, hE2, hb2⟩; replace hO2 := Lib.hid hO2; replace hE2 := Lib.hid hE2; replace hb2 := Lib.hid hb2)
    | fail)
  obtain ⟨W2, hW2⟩ : ∃ X, X = w2.alloc (.cells #[.int .i64 1, .int .i64 1, .int .i64 0, .slice (some ⟨g2, 0, none⟩) 5 c2, .slice B2 0 d2] 25) := ⟨_, rfl⟩
  obtain ⟨p2, hp2⟩ : ∃ p, p = w2.heap.size := ⟨_, rfl⟩
  rw [← hW2, ← hp2]
  have BX2 : Hid (BoxAt W2 p2 1 1 0 (.slice (some ⟨g2, 0, none⟩) 5 c2) (.slice B2 0 d2)) := Lib.hid (by rw [hW2, hp2]; exact heap_alloc_new _ _)
  have HB2 : Hid (Below W1.heap.size W1 W2) := Lib.hid (by rw [hW2]; exact hb2.out.alloc hb2.out.size _)
  have hgp : Hid (W1.heap.size ≤ g2 ∧ g2 < p2 ∧ W1.heap.size ≤ p2) := Lib.hid (by have := hO2.out.lt g2 rfl; have := hb2.out.size; rw [hp2]; exact ⟨by omega, by omega, by omega⟩)
  have HO2 : Hid (IOwn W2 W1.heap.size (.slice (some ⟨g2, 0, none⟩) 5 c2) [0, 0, 0, 0, 0]) := Lib.hid (by rw [hW2]; exact own_keep hO2.out fun g e => ((Below.refl _ _).alloc (Nat.le_refl _) _).block g (hO2.out.lt g e).2)
  have HE2 : Hid (EOwn W2 W1.heap.size (.slice B2 0 d2) []) := Lib.hid (by rw [hW2]; exact own_keep hE2.out fun g e => ((Below.refl _ _).alloc (Nat.le_refl _) _).block g (hE2.out.lt g e).2)
  have hEp : Hid (∀ g, (Value.slice B2 0 d2).ownBlock = some g → g ≠ p2) := Lib.hid (fun g e => by have := (hE2.out.lt g e).2; omega)
  obtain ⟨s0, s1, s2, s3, s4⟩ := BX2.out.cells
  have f2 := BX2.out.frozen 2
  clear hW2 hp2 hb2 hO2 hE2 r0 r1 r2 r3 r4
  go_upto_region 4 with (fail)
  obtain ⟨W3, hW3⟩ : ∃ X, X = W2.setCell ⟨p2, 2, none⟩ (.int .i64 20) := ⟨_, rfl⟩
  rw [← hW3]
  have BX3 : Hid (BoxAt W3 p2 1 1 20 (.slice (some ⟨g2, 0, none⟩) 5 c2) (.slice B2 0 d2)) := Lib.hid (by rw [hW3]; exact BX2.out.set2 20)
  have HB3 : Hid (Below W1.heap.size W1 W3) := Lib.hid (by rw [hW3]; exact HB2.out.setCell hgp.out.2.2 _)
  have HO3 : Hid (IOwn W3 W1.heap.size (.slice (some ⟨g2, 0, none⟩) 5 c2) [0, 0, 0, 0, 0]) := Lib.hid (by rw [hW3]; exact own_keep HO2.out fun g e => Below.heap_setCell _ _ _ _ (by have := hgp.out; cases e; show g2 ≠ p2; omega))
  have HE3 : Hid (EOwn W3 W1.heap.size (.slice B2 0 d2) []) := Lib.hid (by rw [hW3]; exact own_keep HE2.out fun g e => Below.heap_setCell _ _ _ _ (hEp.out g e))
  clear hW3 s0 s1 s2 s3 s4 f2
  obtain ⟨s0, s1, s2, s3, s4⟩ := BX3.out.cells
  obtain ⟨t0, t1⟩ := HO3.out.at 1 (by simp)
  dsimp only [List.getElem_cons_succ, List.getElem_cons_zero] at t0
  go_upto_region 7 with (fail)
  obtain ⟨W4, hW4⟩ : ∃ X, X = W3.setCell ⟨g2, 1, none⟩ (.int .i64 7) := ⟨_, rfl⟩
  rw [← hW4]
  have BX4 : Hid (BoxAt W4 p2 1 1 20 (.slice (some ⟨g2, 0, none⟩) 5 c2) (.slice B2 0 d2)) := Lib.hid (by rw [hW4]; exact BX3.out.other (by have := hgp.out; omega))
  have HB4 : Hid (Below W1.heap.size W1 W4) := Lib.hid (by rw [hW4]; exact HB3.out.setCell hgp.out.1 _)
  have HN4 : Hid (NLies W4 nB (some ⟨g2, 0, none⟩) B2 c2 d2) := Lib.hid (by
    have hI := HO3.out.set 1 7
    have hE := HE3.out.lies
    rw [hW4]
    obtain ⟨i1, -, -, i4, i5⟩ := hI.lies
    exact ⟨i1, .nil _ _, (fun e => by cases e), fun e => ⟨rfl, own_none HE3.out e⟩, i4, hE.2.2.2, by unfold maxLen; simp, by simp⟩)
  have HN5 : Hid (NLies W4 nA (some ⟨g1, 0, none⟩) none c1 0) := Lib.hid (HN1.out.below HB4.out)
  have BX5 : Hid (BoxAt W4 p1 1 1 0 (.slice (some ⟨g1, 0, none⟩) 5 c1) (.slice none 0 0)) := Lib.hid (BX1.out.below HB4.out hs1.out)
  have hz4 : Hid (p1 < W4.heap.size ∧ p2 < W4.heap.size) := Lib.hid ⟨lt_size BX5.out, lt_size BX4.out⟩
  clear hW4 s0 s1 s2 s3 s4 t0 t1 HO2 HO3 HE2 HE3 HB2 HB3 BX1 BX2 BX3 HN1 hEp
  have HKA : Hid (∀ w1, Below W4.heap.size W4 w1 → BoxAt w1 p1 1 1 0 (.slice (some ⟨g1, 0, none⟩) 5 c1) (.slice none 0 0) ∧ BoxAt w1 p2 1 1 20 (.slice (some ⟨g2, 0, none⟩) 5 c2) (.slice B2 0 d2)) := Lib.hid fun w1 hb => ⟨BX5.out.below hb hz4.out.1, BX4.out.below hb hz4.out.2⟩
  obtain ⟨s0, s1, s2, s3, s4⟩ := BX4.out.cells
  go_upto_region 8 with (first
    | (go_at_call 10; refine (refsl_any 2 nB _ _ _ _ _ HN4.out).mono ?_; rintro e w5 ⟨A5, c5, rfl, hl5, -, -, -, hb5⟩; replace hl5 := Lib.hid hl5; replace hb5 := Lib.hid hb5)
    | fail)
  have hl : Hid (refsN 2 nB = [(12, 7)]) := Lib.hid (by decide +kernel)
  rw [hl.out] at hl5 ⊢
  obtain ⟨B5, o5, rfl, hB5, hc5⟩ := hl5.out (by simp)
  obtain ⟨k0, k1⟩ := hc5 0 (by simp)
  replace hc5 : Hid (w5.cell? ⟨B5, o5, none⟩ = some (.int .i64 12) ∧ w5.cell? ⟨B5, o5 + 1, none⟩ = some (.int .i64 7)) := Lib.hid ⟨by simpa using k0, by simpa using k1⟩
  clear k0 k1 s0 s1 s2 s3 s4
  have HB5 := hb5
  have HNA : Hid (∀ w1, Below w5.heap.size w5 w1 → NLies w1 nA (some ⟨g1, 0, none⟩) none c1 0) := Lib.hid fun w1 hb => (HN5.out.below hb5.out).below hb
  have HNB : Hid (∀ w1, Below w5.heap.size w5 w1 → NLies w1 nB (some ⟨g2, 0, none⟩) B2 c2 d2) := Lib.hid fun w1 hb => (HN4.out.below hb5.out).below hb
  have HMA : Hid (∀ w1, Below w5.heap.size w5 w1 → Calls Try.prog 12 #[.agg #[.int .i64 1, .int .i64 1, .int .i64 0, .slice (some ⟨g1, 0, none⟩) 5 c1, .slice none 0 0]] w1 fun e w' => e = .returned (.bool true) ∧ Below w1.heap.size w1 w') := Lib.hid fun w1 hb => by
    have := maynl_any nA _ _ _ _ w1 (HNA.out w1 hb)
    rwa [show mayNd nA = true by decide +kernel] at this
  have HMB : Hid (∀ w1, Below w5.heap.size w5 w1 → Calls Try.prog 12 #[.agg #[.int .i64 1, .int .i64 1, .int .i64 20, .slice (some ⟨g2, 0, none⟩) 5 c2, .slice B2 0 d2]] w1 fun e w' => e = .returned (.bool true) ∧ Below w1.heap.size w1 w') := Lib.hid fun w1 hb => by
    have := maynl_any nB _ _ _ _ w1 (HNB.out w1 hb)
    rwa [show mayNd nB = true by decide +kernel] at this
  have HPA : Hid (∀ w1, Below w5.heap.size w5 w1 → Calls Try.prog 18 #[.agg #[.int .i64 1, .int .i64 1, .int .i64 0, .slice (some ⟨g1, 0, none⟩) 5 c1, .slice none 0 0]] w1 fun e w' => e = .returned (.int .i64 0) ∧ Below w1.heap.size w1 w') := Lib.hid fun w1 hb => by
    have := pagesl_any nA _ _ _ _ w1 (HNA.out w1 hb)
    rwa [show pagesN nA = 0 by decide +kernel] at this
  have HPB : Hid (∀ w1, Below w5.heap.size w5 w1 → Calls Try.prog 18 #[.agg #[.int .i64 1, .int .i64 1, .int .i64 20, .slice (some ⟨g2, 0, none⟩) 5 c2, .slice B2 0 d2]] w1 fun e w' => e = .returned (.int .i64 1) ∧ Below w1.heap.size w1 w') := Lib.hid fun w1 hb => by
    have := pagesl_any nB _ _ _ _ w1 (HNB.out w1 hb)
    rwa [show pagesN nB = 1 by decide +kernel] at this
  have HSS : Hid (∀ w1, Below w5.heap.size w5 w1 → Calls Try.prog 14 #[.agg #[.int .i64 1, .int .i64 1, .int .i64 0, .slice (some ⟨g1, 0, none⟩) 5 c1, .slice none 0 0], .agg #[.int .i64 1, .int .i64 1, .int .i64 20, .slice (some ⟨g2, 0, none⟩) 5 c2, .slice B2 0 d2]] w1 fun e w' => e = .returned (.bool false) ∧ Below w1.heap.size w1 w') := Lib.hid fun w1 hb => by
    have := samel_any nA nB _ _ _ _ _ _ _ _ w1 (HNA.out w1 hb) (HNB.out w1 hb)
    rwa [show sameN nA nB = false by decide +kernel] at this
  have HKB : Hid (∀ w1, Below w5.heap.size w5 w1 → BoxAt w1 p1 1 1 0 (.slice (some ⟨g1, 0, none⟩) 5 c1) (.slice none 0 0) ∧ BoxAt w1 p2 1 1 20 (.slice (some ⟨g2, 0, none⟩) 5 c2) (.slice B2 0 d2) ∧ w1.cell? ⟨B5, o5, none⟩ = some (.int .i64 12) ∧ w1.cell? ⟨B5, o5 + 1, none⟩ = some (.int .i64 7)) := Lib.hid fun w1 hb => by
    have h1 := HKA.out w5 hb5.out
    have hz := hb5.out.size
    have hz2 := hz4.out
    exact ⟨h1.1.below hb (by omega), h1.2.below hb (by omega), (hb.cell (p := ⟨B5, o5, none⟩) hB5).trans hc5.out.1, (hb.cell (p := ⟨B5, o5 + 1, none⟩) hB5).trans hc5.out.2⟩
  have hix := fun w1 : World => eql_12 w1
  obtain ⟨x1, x2, -, -⟩ := HKB.out w5 (Below.refl _ _)
  obtain ⟨s0, s1, s2, s3, s4⟩ := x1.cells
  obtain ⟨s0, s1, s2, s3, s4⟩ := x2.cells
  clear x1 x2 HN4 HN5 HKA hc5 hB5
  go_wp2_with (first
    | (go_at_call 12; (with_reducible refine (HMA.out _ (Below.refl w5.heap.size w5)).mono ?_); rintro e w6 ⟨rfl, hc0⟩; replace hc0 := Lib.hid ((Below.refl w5.heap.size w5).trans (hc0.mono (Below.refl w5.heap.size w5).size)); obtain ⟨x1, x2, x3, x4⟩ := HKB.out _ hc0.out; obtain ⟨s0, s1, s2, s3, s4⟩ := x1.cells; obtain ⟨s0, s1, s2, s3, s4⟩ := x2.cells; clear x1 x2)
    | (go_at_call 12; (with_reducible refine (HMB.out _ hc0.out).mono ?_); rintro e w7 ⟨rfl, hc1⟩; replace hc1 := Lib.hid (hc0.out.trans (hc1.mono hc0.out.size)); obtain ⟨x1, x2, x3, x4⟩ := HKB.out _ hc1.out; obtain ⟨s0, s1, s2, s3, s4⟩ := x1.cells; obtain ⟨s0, s1, s2, s3, s4⟩ := x2.cells; clear x1 x2)
    | (go_at_call 18; (with_reducible refine (HPA.out _ hc1.out).mono ?_); rintro e w8 ⟨rfl, hc2⟩; replace hc2 := Lib.hid (hc1.out.trans (hc2.mono hc1.out.size)); obtain ⟨x1, x2, x3, x4⟩ := HKB.out _ hc2.out; obtain ⟨s0, s1, s2, s3, s4⟩ := x1.cells; obtain ⟨s0, s1, s2, s3, s4⟩ := x2.cells; clear x1 x2)
    | (go_at_call 18; (with_reducible refine (HPB.out _ hc2.out).mono ?_); rintro e w9 ⟨rfl, hc3⟩; replace hc3 := Lib.hid (hc2.out.trans (hc3.mono hc2.out.size)); obtain ⟨x1, x2, x3, x4⟩ := HKB.out _ hc3.out; obtain ⟨s0, s1, s2, s3, s4⟩ := x1.cells; obtain ⟨s0, s1, s2, s3, s4⟩ := x2.cells; clear x1 x2)
    | (go_at_call 14; (with_reducible refine (HSS.out _ hc3.out).mono ?_); rintro e w10 ⟨rfl, hc4⟩; replace hc4 := Lib.hid (hc3.out.trans (hc4.mono hc3.out.size)); obtain ⟨x1, x2, x3, x4⟩ := HKB.out _ hc4.out; obtain ⟨s0, s1, s2, s3, s4⟩ := x1.cells; obtain ⟨s0, s1, s2, s3, s4⟩ := x2.cells; clear x1 x2)
    | fail)
  go_ret
  exact ⟨rfl, (HB1.out.trans (HB4.out.mono HB1.out.size)).trans ((hb5.out.trans (hc4.out.mono hb5.out.size)).mono (Nat.le_trans HB1.out.size HB4.out.size))⟩
end Go.Proofs.Ytohiabkjbieflaa
