/- The landed chip: Blocks: all its blocks, one behind the other, in new memory. -/
import Derived.Great.BuildSlice
import Derived.Test.YteghegojhhoppaaRefNew
import Derived.Test.YteghegojhhoppaaRegIn2
import Derived.Test.YteghegojhhoppaaLBlock
namespace Go.Proofs.Yteghegojhhoppaa
open Go.RowKit Go.Shelf

attribute [local go_sem] Oper.semAt_some

theorem PagesV.move {W W' : World} {C D : Nat → Prop} {v : Value} {l : List (List UInt8)} (h : PagesV W C v l) (hk : ∀ k o, C k → W.heap[k]? = some o → o.isCells = true → W'.heap[k]? = W.heap[k]?) (hD : ∀ k, C k → k < W.heap.size → D k) : PagesV W' D v l := by
  obtain ⟨A, c, e, h1, h2⟩ := h
  refine ⟨A, c, e, h1, fun hl => ?_⟩
  obtain ⟨G, e2, hG, h3⟩ := h2 hl
  refine ⟨G, e2, hD G hG (page_lt (h3 0 hl)), fun j hj => ?_⟩
  obtain ⟨A1, c1, h11, h12, h13, h14⟩ := h3 j hj
  have k1 : W'.heap[G]? = W.heap[G]? := by
    obtain ⟨o, ho, hc⟩ := cells_of_cell h11
    exact hk G o hG ho hc
  refine ⟨A1, c1, (World.cell?_of_block (a := ⟨G, j, none⟩) k1).trans h11, h12, h13, fun hn => ?_⟩
  obtain ⟨ad, e3, h4, h5⟩ := h14 hn
  have k2 : ∀ i (hi : i < l[j].length), W'.heap[(ad.add i).block]? = W.heap[(ad.add i).block]? ∧ (ad.add i).block < W.heap.size := fun i hi => by
    obtain ⟨o, ho, hc⟩ := cells_of_cell (h5 i hi)
    exact ⟨hk _ o (by rw [block_add]; exact h4) ho hc, lt_size ho⟩
  exact ⟨ad, e3, hD _ h4 (by have := (k2 0 hn).2; rwa [block_add] at this), fun i hi => (World.cell?_of_block (k2 i hi).1).trans (h5 i hi)⟩

/-- The cells of blocks that are told, their pages as values. -/
def cellsB (L : List (Bk × Value)) : List Value := L.flatMap fun x => [.bool x.1.bad, .int .i64 x.1.next, .int .i64 x.1.count, x.2]
theorem cellsB_snoc (L : List (Bk × Value)) (b : Bk) (v : Value) : cellsB (L ++ [(b, v)]) = cellsB L ++ [.bool b.bad, .int .i64 b.next, .int .i64 b.count, v] := by simp [cellsB]
/-- v is a row of the call's own: the blocks l, their pages in other blocks. -/
def RowB (W : World) (B : Nat) (v : Value) (l : List Bk) : Prop :=
  ∃ L : List (Bk × Value), L.map Prod.fst = l ∧ W.ownsRow B 27 4 v l.length (cellsB L) ∧ ∀ x ∈ L, PagesV W (fun k => B ≤ k ∧ v.ownBlock ≠ some k) x.2 x.1.pages
theorem RowB.nil (W : World) (B : Nat) : RowB W B (.slice none 0 0) [] := ⟨[], rfl, World.ownsRow_nil _ _ _ _, fun _ h => by cases h⟩
theorem own_move {W W' : World} {B : Nat} {t : TypeId} {sz n : Nat} {v : Value} {xs : List Value} (h : W.ownsRow B t sz v n xs) (hk : ∀ k o, B ≤ k → W.heap[k]? = some o → o.isCells = true → W'.heap[k]? = W.heap[k]?) : W'.ownsRow B t sz v n xs := by
  refine ⟨h.1, h.2.imp id ?_⟩
  rintro ⟨g, cap, cur, hv, hb, hg, hr⟩
  exact ⟨g, cap, cur, hv, hb, (hk g _ hb hg rfl).trans hg, hr⟩
theorem RowB.move {W W' : World} {B : Nat} {v : Value} {l : List Bk} (h : RowB W B v l) (hk : ∀ k o, B ≤ k → W.heap[k]? = some o → o.isCells = true → W'.heap[k]? = W.heap[k]?) : RowB W' B v l := by
  obtain ⟨L, h1, h2, h3⟩ := h
  exact ⟨L, h1, own_move h2 hk, fun x hx => (h3 x hx).move (fun k o hD => hk k o hD.1) fun _ hD _ => hD⟩
theorem RowB.grown {W W' : World} {B : Nat} {v : Value} {l : List Bk} {row : Option Nat} (h : RowB W B v l) (hg : W.grownBy W' row) (hrow : ∀ r, row = some r → ∃ o : Obj, W.heap[r]? = some o ∧ o.isCells = false) : RowB W' B v l :=
  h.move fun k o _ ho hc => hg.block k (lt_size ho) fun e => by
    obtain ⟨o', ho', hc'⟩ := hrow k e.symm
    rw [ho] at ho'; cases ho'; rw [hc] at hc'; cases hc'
theorem RowB.below {W W' : World} {B : Nat} {v : Value} {l : List Bk} (h : RowB W B v l) (hb : Below W.heap.size W W') : RowB W' B v l :=
  h.move fun k _ _ ho _ => hb.block k (lt_size ho)
theorem RowB.slice {W : World} {B : Nat} {v : Value} {l : List Bk} (h : RowB W B v l) : (∃ A c, v = .slice A l.length c) ∧ ∀ k, v.ownBlock = some k → B ≤ k ∧ k < W.heap.size := by
  obtain ⟨L, _, h2, _⟩ := h
  obtain ⟨A, c, e, _⟩ := own_slice h2
  exact ⟨⟨A, c, e⟩, h2.lt⟩
/-- What is appended. -/
theorem RowB.add {W w1 w2 : World} {B : Nat} {V V' pv : Value} {L : List (Bk × Value)} {b : Bk} (h : ∀ x ∈ L, PagesV w1 (fun k => B ≤ k ∧ V.ownBlock ≠ some k) x.2 x.1.pages) (hV : ∀ k, V.ownBlock = some k → B ≤ k ∧ k < W.heap.size) (hBW : B ≤ W.heap.size)
    (hpv : PagesV w1 (fun k => W.heap.size ≤ k) pv b.pages) (hown : w2.ownsRow B 27 4 V' (L.length + 1) (cellsB L ++ [.bool b.bad, .int .i64 b.next, .int .i64 b.count, pv])) (hg : w1.grownBy w2 V.ownBlock) (hb : V'.ownBlock = V.ownBlock ∨ V'.ownBlock = some w1.heap.size) : RowB w2 B V' (L.map Prod.fst ++ [b]) := by
  refine ⟨L ++ [(b, pv)], by simp, by rw [cellsB_snoc]; simpa using hown, fun x hx => ?_⟩
  rcases List.mem_append.1 hx with hx | hx
  · refine (h x hx).move (fun k o hD ho _ => hg.block k (lt_size ho) (fun e => hD.2 e.symm)) fun k hD hlt => ⟨hD.1, ?_⟩
    rcases hb with e | e
    · rw [e]; exact hD.2
    · rw [e]; intro e'; cases e'; omega
  · simp at hx
    subst hx
    refine hpv.move (fun k o hD ho _ => hg.block k (lt_size ho) (fun e => by have := (hV k e.symm).2; have hD' : W.heap.size ≤ k := hD; omega)) fun k hD hlt => ?_
    have hD' : W.heap.size ≤ k := hD
    refine ⟨by omega, ?_⟩
    rcases hb with e | e
    · rw [e]; intro e'; have := (hV k e').2; omega
    · rw [e]; intro e'; cases e'; omega

section
variable {p q cap : Nat} {g : Nat → Nat} {C : Nat → Prop} {S : LS} {w : World}
/-- Blocks' walk: the chip, the two boxes. -/
structure LsG (w W : World) (p q cap : Nat) (g : Nat → Nat) (C : Nat → Prop) (S : LS) (V : Value) : Prop where
  chip : LAt W p q cap g C S
  boxP : Boxed W w.heap.size 36 (.pointer (some ⟨p, 0, none⟩))
  boxL : Boxed W (w.heap.size + 1) 22 V
  below : Below w.heap.size w W
theorem LsG.grown {W W' : World} {V : Value} {row : Option Nat} (h : LsG w W p q cap g C S V) (hg : W.grownBy W' row) (hrow : ∀ r, row = some r → w.heap.size ≤ r ∧ ∃ o : Obj, W.heap[r]? = some o ∧ o.isCells = false) : LsG w W' p q cap g C S V :=
  have hr := fun r e => (hrow r e).2
  ⟨h.chip.grown hg hr, (kept_cells h.boxP hg hr).trans h.boxP, (kept_cells h.boxL hg hr).trans h.boxL, h.below.grown hg h.below.size fun r e => (hrow r e).1⟩
theorem LsG.more {W W' : World} {V : Value} (h : LsG w W p q cap g C S V) (hb : Below W.heap.size W W') : LsG w W' p q cap g C S V :=
  ⟨h.chip.below hb, (hb.block _ h.boxP.lt).trans h.boxP, (hb.block _ h.boxL.lt).trans h.boxL, h.below.trans (hb.mono h.below.size)⟩
theorem LsG.appended {W W' : World} {V : Value} {row : Option Nat} (h : LsG w W p q cap g C S V) (hg : W.grownBy W' row) (hrow : ∀ r, row = some r → w.heap.size + 2 ≤ r) (hlt : ∀ b, Go.Proofs.Yteghegojhhoppaa.Own p q g C S.bl.length b → b < w.heap.size) : LsG w W' p q cap g C S V :=
  ⟨h.chip.kept hg.size fun b hb => hg.block b (by have := hlt b hb; have := h.below.size; omega) (fun e => by have := hrow b e.symm; have := hlt b hb; omega),
    (hg.block _ h.boxP.lt (fun e => by have := hrow _ e.symm; omega)).trans h.boxP, (hg.block _ h.boxL.lt (fun e => by have := hrow _ e.symm; omega)).trans h.boxL, h.below.grown hg h.below.size fun r e => by have := hrow r e; omega⟩
theorem LsG.stored {W : World} {V : Value} (V' : Value) (h : LsG w W p q cap g C S V) (hlt : ∀ b, Go.Proofs.Yteghegojhhoppaa.Own p q g C S.bl.length b → b < w.heap.size) : LsG w (W.setCell ⟨w.heap.size + 1, 0, none⟩ V') p q cap g C S V' :=
  ⟨h.chip.kept (by simp) fun b hb => Below.heap_setCell W ⟨w.heap.size + 1, 0, none⟩ _ b (fun e => by have := hlt b hb; have e' : b = w.heap.size + 1 := e; omega),
    h.boxP.other (by omega) _, h.boxL.set V', h.below.setCell (by simp) _⟩
def BlocksPost (l : List Bk) (w : World) (e : Ending) (w' : World) : Prop := ∃ v, e = .returned v ∧ RowB w' w.heap.size v l ∧ Below w.heap.size w w'
/-- Which of the region's operations wait for which. -/
def waitsB : List (Nat × Nat) := [(3, 1), (3, 2), (4, 3), (5, 0), (5, 4), (6, 5)]
def ClosedB (d : Nat → Bool) : Prop := ∀ x ∈ waitsB, d x.1 = true → d x.2 = true
theorem ClosedB.also {d : Nat → Bool} {i : Nat} (h : ClosedB d) (hw : ∀ x ∈ waitsB, x.1 = i → d x.2 = true) : ClosedB (also d i) := fun x hx hd => by
  unfold Go.Proofs.Yteghegojhhoppaa.also at hd ⊢
  by_cases h2 : x.2 = i
  · rw [if_pos h2]
  · rw [if_neg h2]
    by_cases h1 : x.1 = i
    · exact hw x hx h1
    · rw [if_neg h1] at hd
      exact h x hx hd
theorem ClosedB.six {d : Nat → Bool} (h : ClosedB d) (h6 : d 6 = true) : d 0 = true ∧ d 1 = true ∧ d 2 = true ∧ d 3 = true ∧ d 4 = true ∧ d 5 = true := by
  have h5 := h (6, 5) (by simp [waitsB]) h6
  have h4 := h (5, 4) (by simp [waitsB]) h5
  have h3 := h (4, 3) (by simp [waitsB]) h4
  exact ⟨h (5, 0) (by simp [waitsB]) h5, h (3, 1) (by simp [waitsB]) h3, h (3, 2) (by simp [waitsB]) h3, h3, h4, h5⟩
theorem ClosedB.no6 {d : Nat → Bool} (h : ClosedB d) (hn : ¬ (d 0 = true ∧ d 1 = true ∧ d 2 = true ∧ d 3 = true ∧ d 4 = true ∧ d 5 = true)) : d 6 = false := by
  cases e : d 6 with
  | false => rfl
  | true => exact absurd (h.six e) hn
theorem map_finRange (l : List Bk) : (List.finRange l.length).map (fun x => l[x.val]) = l := by
  apply List.ext_getElem
  · simp
  · intro i h1 h2
    simp
end
end Go.Proofs.Yteghegojhhoppaa
