/- The reference's CopyNode. -/
import Derived.Test.YtohiabkjbieflaaNdJ
import Derived.Deep.RegionHeld3
namespace Go.Proofs.Ytohiabkjbieflaa
open Go.RowKit Go.Lib

/-- What a call that copies a node answers: rows of its own. -/
def CopyPost (w : World) (n : Nd) (e : Ending) (w' : World) : Prop :=
  ∃ A B c d, e = .returned (ndV n A B c d) ∧ IOwn w' w.heap.size (.slice A n.sq.length c) n.sq ∧ EOwn w' w.heap.size (.slice B n.en.length d) n.en ∧ Below w.heap.size w w'
theorem own_base {w : World} {b b' n size : Nat} {e : TypeId} {v : Value} {xs : List Value} (h : w.ownsRow b e size v n xs) (hb : b' ≤ b) : w.ownsRow b' e size v n xs := by
  refine ⟨h.1, ?_⟩
  rcases h.2 with h0 | ⟨g, cap, cur, hv, hg, h1⟩
  · exact .inl h0
  · exact .inr ⟨g, cap, cur, hv, Nat.le_trans hb hg, h1⟩
set_option maxRecDepth 100000 in
set_option maxHeartbeats 8000000 in
theorem copyr_raw (k l z : Int) (sq : List Int) (en : List Ent) (s t : Nat) (A B : Option Addr) (c d : Nat) (w : World) (HS : Hid (sq.length = s)) (HT : Hid (en.length = t)) (h6 : s ≤ 60) (h7 : t ≤ 60)
    (HQ : Hid (ILies w A sq)) (HE : Hid (ELies w B en)) (HQN : Hid (A = none → sq = [] ∧ c = 0)) (HEN : Hid (B = none → en = [] ∧ d = 0)) :
    Calls Try.prog 21 #[.agg #[.int .i64 k, .int .i64 l, .int .i64 z, .slice A s c, .slice B t d]] w fun e w' =>
      ∃ A' B' c' d', e = .returned (.agg #[.int .i64 k, .int .i64 l, .int .i64 z, .slice A' s c', .slice B' t d']) ∧ IOwn w' w.heap.size (.slice A' s c') sq ∧ EOwn w' w.heap.size (.slice B' t d') en ∧ Below w.heap.size w w' := by
  obtain ⟨P, hP⟩ : ∃ P, P = w.heap.size := ⟨_, rfl⟩
  have HPw := Lib.hid hP
  go_enter Try.func21, Try.ntmps21
  go_wp2_with fail
  obtain ⟨W0, hW0⟩ : ∃ W, W = (w.alloc (.cells #[.int .i64 k, .int .i64 l, .int .i64 z, .slice A s c, .slice B t d] 25)).alloc (.cells #[.int .i64 0, .int .i64 0, .int .i64 0, .slice none 0 0, .slice none 0 0] 25) := ⟨_, rfl⟩
  rw [← hW0]
  have HX : Hid (W0.heap[P]? = some (.cells #[.int .i64 k, .int .i64 l, .int .i64 z, .slice A s c, .slice B t d] 25 (0, 0))) := Lib.hid (by rw [hW0, hP]; exact (((Below.refl _ _).alloc (Nat.le_refl _) _).block w.heap.size (by simp)).trans (heap_alloc_new _ _))
  have HY : Hid (W0.heap[P + 1]? = some (.cells #[.int .i64 0, .int .i64 0, .int .i64 0, .slice none 0 0, .slice none 0 0] 25 (0, 0))) := Lib.hid (by
    have := heap_alloc_new (w.alloc (.cells #[.int .i64 k, .int .i64 l, .int .i64 z, .slice A s c, .slice B t d] 25)) (.cells #[.int .i64 0, .int .i64 0, .int .i64 0, .slice none 0 0, .slice none 0 0] 25)
    rw [← hW0, show (w.alloc (.cells #[.int .i64 k, .int .i64 l, .int .i64 z, .slice A s c, .slice B t d] 25)).heap.size = P + 1 by rw [hP]; simp] at this
    exact this)
  have HB0 : Hid (Below w.heap.size w W0) := Lib.hid (by rw [hW0]; exact ((Below.refl _ _).alloc (Nat.le_refl _) _).alloc (by simp) _)
  have hP0 : P + 1 < W0.heap.size := by rw [hW0, hP]; simp
  clear hW0
  rw [← hP]
  have q3 : W0.cell? ⟨P, 3, none⟩ = some (.slice A s c) := by have := HX.out; simp [World.cell?, this]
  have q4 : W0.cell? ⟨P, 4, none⟩ = some (.slice B t d) := by have := HX.out; simp [World.cell?, this]
  have HX4 := Lib.hid q4
  clear hP
  go_region_law (first
    | (refine step_iapp (by rfl) (.const (.slice none 0 0)) (.tmp 4) (by rfl) W0.heap.size (.slice none 0 0) 0 [] s sq A c s (Nat.zero_add _) (by rfl) (by rfl) rfl HS.out (iown_nil _ _) (HQ.out.below HB0.out.drew) HQN.out (by omega) (by simp) ?_; intro q1 c1 w1 hown hgr; have HO1 : Hid (IOwn w1 W0.heap.size (.slice q1 s c1) sq) := Lib.hid (by simpa using hown); have HB1 : Hid (Below W0.heap.size W0 w1) := Lib.hid ((Below.refl _ _).drew.grown hgr (by simp) (by intro k e; cases e)); have hs1 := HB1.out.size; have q5 : w1.cell? ⟨P, 4, none⟩ = some (.slice B t d) := (HB1.out.cell (p := ⟨P, 4, none⟩) (by show P < _; omega)).trans HX4.out; clear hown hgr)
    | (have h9 := HO1.out; clear h9; refine step_eappT (by rfl) (.const (.slice none 0 0)) (.tmp 7) (by rfl) W0.heap.size (.slice none 0 0) 0 [] t en B d t (Nat.zero_add _) (by rfl) (by rfl) rfl HT.out (eown_nil _ _) (HE.out.below (HB0.out.trans (HB1.out.mono HB0.out.size))) HEN.out (by omega) hs1 ?_; intro q2 c2 w2 hown hgr; have HO2 : Hid (EOwn w2 W0.heap.size (.slice q2 t c2) en) := Lib.hid (by simpa using hown); have HB2 : Hid (Below W0.heap.size W0 w2) := Lib.hid (HB1.out.grown hgr hs1 (by intro k e; cases e)); have HO3 : Hid (IOwn w2 W0.heap.size (.slice q1 s c1) sq) := Lib.hid (own_keep HO1.out fun g e => hgr.block g (HO1.out.lt g e).2 (by intro e; cases e)); have hs2 := HB2.out.size; have HX2 : Hid (w2.heap[P]? = some (.cells #[.int .i64 k, .int .i64 l, .int .i64 z, .slice A s c, .slice B t d] 25 (0, 0))) := Lib.hid ((HB2.out.block P (by omega)).trans HX.out); have f3 : w2.frozen? ⟨P, 3, none⟩ = false := (by have := HX2.out; simp [World.frozen?, this]); have f4 : w2.frozen? ⟨P, 4, none⟩ = false := (by have := HX2.out; simp [World.frozen?, this]); have e3 : w2.cell? ⟨P, 3, none⟩ = some (.slice A s c) := (by have := HX2.out; simp [World.cell?, this]); have e4 : w2.cell? ⟨P, 4, none⟩ = some (.slice B t d) := (by have := HX2.out; simp [World.cell?, this]); clear hown hgr)
    | fail)
  all_goals
    obtain ⟨w3, hw3⟩ : ∃ W, W = (w2.setCell ⟨P, 3, none⟩ (.slice q1 s c1)).setCell ⟨P, 4, none⟩ (.slice q2 t c2) := ⟨_, rfl⟩
    rw [← hw3]
    have HX3 : Hid (w3.heap[P]? = some (.cells #[.int .i64 k, .int .i64 l, .int .i64 z, .slice q1 s c1, .slice q2 t c2] 25 (0, 0))) := Lib.hid (by
      rw [hw3, heap_setCell_same _ P 4 _ _ _ (heap_setCell_same w2 P 3 _ _ _ HX2.out)]; rfl)
    have hk : ∀ b, b ≠ P → w3.heap[b]? = w2.heap[b]? := fun b hb => by rw [hw3, Below.heap_setCell _ _ _ _ hb, Below.heap_setCell _ _ _ _ hb]
    have HO4 : Hid (IOwn w3 W0.heap.size (.slice q1 s c1) sq) := Lib.hid (own_keep HO3.out fun g e => hk g (by have := (HO3.out.lt g e).1; omega))
    have HO5 : Hid (EOwn w3 W0.heap.size (.slice q2 t c2) en) := Lib.hid (own_keep HO2.out fun g e => hk g (by have := (HO2.out.lt g e).1; omega))
    have HY3 : Hid (w3.heap[P + 1]? = some (.cells #[.int .i64 0, .int .i64 0, .int .i64 0, .slice none 0 0, .slice none 0 0] 25 (0, 0))) := Lib.hid ((hk (P + 1) (by omega)).trans ((HB2.out.block (P + 1) (by omega)).trans HY.out))
    have HB3 : Hid (Below w.heap.size w w3) := Lib.hid (by
      have h1 := HB0.out.trans (HB2.out.mono HB0.out.size)
      have hsz : w3.heap.size = w2.heap.size := by rw [hw3]; simp
      exact ⟨by rw [hw3]; exact h1.os, by rw [hw3]; exact h1.tape, by rw [hw3]; exact h1.output, by rw [hsz]; exact h1.size, fun b hb => (hk b (by have := HPw.out; omega)).trans (h1.block b hb)⟩)
    clear hw3 hk e3 e4 f3 f4 q3 q4 q5
    have r0 : w3.cell? ⟨P, 0, none⟩ = some (.int .i64 k) := by have := HX3.out; simp [World.cell?, this]
    have r1 : w3.cell? ⟨P, 1, none⟩ = some (.int .i64 l) := by have := HX3.out; simp [World.cell?, this]
    have r2 : w3.cell? ⟨P, 2, none⟩ = some (.int .i64 z) := by have := HX3.out; simp [World.cell?, this]
    have r3 : w3.cell? ⟨P, 3, none⟩ = some (.slice q1 s c1) := by have := HX3.out; simp [World.cell?, this]
    have r4 : w3.cell? ⟨P, 4, none⟩ = some (.slice q2 t c2) := by have := HX3.out; simp [World.cell?, this]
    have y0 : w3.cell? ⟨P + 1, 0, none⟩ = some (.int .i64 0) := by have := HY3.out; simp [World.cell?, this]
    have z0 : w3.frozen? ⟨P + 1, 0, none⟩ = false := by have := HY3.out; simp [World.frozen?, this]
    have y1 : w3.cell? ⟨P + 1, 1, none⟩ = some (.int .i64 0) := by have := HY3.out; simp [World.cell?, this]
    have z1 : w3.frozen? ⟨P + 1, 1, none⟩ = false := by have := HY3.out; simp [World.frozen?, this]
    have y2 : w3.cell? ⟨P + 1, 2, none⟩ = some (.int .i64 0) := by have := HY3.out; simp [World.cell?, this]
    have z2 : w3.frozen? ⟨P + 1, 2, none⟩ = false := by have := HY3.out; simp [World.frozen?, this]
    have y3 : w3.cell? ⟨P + 1, 3, none⟩ = some (.slice none 0 0) := by have := HY3.out; simp [World.cell?, this]
    have z3 : w3.frozen? ⟨P + 1, 3, none⟩ = false := by have := HY3.out; simp [World.frozen?, this]
    have y4 : w3.cell? ⟨P + 1, 4, none⟩ = some (.slice none 0 0) := by have := HY3.out; simp [World.cell?, this]
    have z4 : w3.frozen? ⟨P + 1, 4, none⟩ = false := by have := HY3.out; simp [World.frozen?, this]
    go_wp2_with fail
    obtain ⟨w4, hw4⟩ : ∃ W, W = ((((w3.setCell ⟨P + 1, 0, none⟩ (.int .i64 k)).setCell ⟨P + 1, 1, none⟩ (.int .i64 l)).setCell ⟨P + 1, 2, none⟩ (.int .i64 z)).setCell ⟨P + 1, 3, none⟩ (.slice q1 s c1)).setCell ⟨P + 1, 4, none⟩ (.slice q2 t c2) := ⟨_, rfl⟩
    rw [← hw4]
    have hz : w4.heap[P + 1]? = some (.cells #[.int .i64 k, .int .i64 l, .int .i64 z, .slice q1 s c1, .slice q2 t c2] 25 (0, 0)) := by
      rw [hw4, heap_setCell_same _ (P + 1) 4 _ _ _ (heap_setCell_same _ (P + 1) 3 _ _ _ (heap_setCell_same _ (P + 1) 2 _ _ _ (heap_setCell_same _ (P + 1) 1 _ _ _ (heap_setCell_same _ (P + 1) 0 _ _ _ HY3.out))))]; rfl
    have hk : ∀ b, b ≠ P + 1 → w4.heap[b]? = w3.heap[b]? := fun b hb => by rw [hw4, Below.heap_setCell _ _ _ _ hb, Below.heap_setCell _ _ _ _ hb, Below.heap_setCell _ _ _ _ hb, Below.heap_setCell _ _ _ _ hb, Below.heap_setCell _ _ _ _ hb]
    have hB4 : Below w.heap.size w w4 := by
      have hp : w.heap.size ≤ P + 1 := by have := HPw.out; omega
      rw [hw4]
      exact ((((HB3.out.setCell hp _).setCell hp _).setCell hp _).setCell hp _).setCell hp _
    clear hw4
    refine bodyPost_ret (results_cell_row rfl _ _ (P + 1) _ _ _ _ rfl hz Try.underlying25 rfl (by kernel_rfl)) rfl ?_
    exact ⟨q1, q2, c1, c2, rfl, own_base (own_keep HO4.out fun g e => hk g (by have := (HO4.out.lt g e).1; omega)) HB0.out.size, own_base (own_keep HO5.out fun g e => hk g (by have := (HO5.out.lt g e).1; omega)) HB0.out.size, hB4⟩
theorem copyr_any (n : Nd) (A B : Option Addr) (c d : Nat) (w : World) (h : NLies w n A B c d) (h6 : n.sq.length ≤ 60) (h7 : n.en.length ≤ 60) : Calls Try.prog 21 #[ndV n A B c d] w (CopyPost w n) :=
  (copyr_raw n.k n.l n.z n.sq n.en _ _ A B c d w (Lib.hid rfl) (Lib.hid rfl) h6 h7 (Lib.hid h.sq) (Lib.hid h.en) (Lib.hid h.sn) (Lib.hid h.nn)).mono fun _ _ ⟨A', B', c', d', h1, h2, h3, h4⟩ => ⟨A', B', c', d', h1, h2, h3, h4⟩
end Go.Proofs.Ytohiabkjbieflaa
