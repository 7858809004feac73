/- The landed chip: Block: a block as it is, in new memory. -/
import Derived.Test.YteghegojhhoppaaRegIn
namespace Go.Proofs.Yteghegojhhoppaa
open Go.RowKit Go.Shelf

attribute [local go_sem] Oper.semAt_some

/-- Pages told: a slice whose pages lie in blocks of C. -/
def PagesV (W : World) (C : Nat → Prop) (v : Value) (l : List (List UInt8)) : Prop :=
  ∃ A c, v = .slice A l.length c ∧ l.length ≤ c ∧ (0 < l.length → ∃ G, A = some ⟨G, 0, none⟩ ∧ C G ∧ ∀ j (h : j < l.length), PageAt W C ⟨G, j, none⟩ l[j])
theorem info_bytes : (Try.prog.info? 43).map (fun i => (i.zero, i.size, i.bytes)) = some (some (.slice none 0 0), 1, 24) := by kernel_rfl
theorem made_nils (n : Nat) : madeCells #[Value.slice none 0 0] n = (List.replicate n (Value.slice none 0 0)).toArray := by
  apply Array.ext
  · simp [madeCells]
  · intro i h1 h2
    simp [madeCells, Nat.mod_one]
theorem make_pages (n : Nat) (h : n ≤ 64) (w : World) : (Instr.makeSlice 25 (.int .i64 n) (.int .i64 n)).run Try.prog w = .ok (.slice (some ⟨w.heap.size, 0, none⟩) n n) (w.alloc (.cells (madeCells #[Value.slice none 0 0] n) 43)) :=
  run_make_row' 25 43 (.slice none 0 0) 24 Try.underlying25 info_bytes rfl .i64 .i64 n (by omega) (by omega) w
def noB : Bk := ⟨false, 0, 0, []⟩
def tellB (S : LS) (b : Int) : Bk := if isL S b = true then blkL S b else noB
def BlockPost (b : Bk) (w : World) (e : Ending) (w' : World) : Prop :=
  ∃ v, e = .returned (.agg #[.bool b.bad, .int .i64 b.next, .int .i64 b.count, v]) ∧ PagesV w' (fun k => w.heap.size ≤ k) v b.pages ∧ Below w.heap.size w w'
theorem pagesV_nil (W : World) (C : Nat → Prop) : PagesV W C (.slice none 0 0) [] := ⟨none, 0, rfl, Nat.le_refl _, fun h => absurd h (by simp)⟩
/-- One by one, in whatever order, pages are laid. -/
def lays {N : Nat} (src l : List (List UInt8)) (pre : List (Fin N)) : List (List UInt8) := pre.foldl (fun l x => l.set x.val (src.getD x.val [])) l
theorem lays_snoc {N : Nat} (src l : List (List UInt8)) (pre : List (Fin N)) (x : Fin N) : lays src l (pre ++ [x]) = (lays src l pre).set x.val (src.getD x.val []) := by simp [lays]
theorem lays_length {N : Nat} (src l : List (List UInt8)) (pre : List (Fin N)) : (lays src l pre).length = l.length := by
  induction pre generalizing l with
  | nil => rfl
  | cons x pre ih => exact (ih (l.set x.val _)).trans (List.length_set ..)
theorem lays_take {N : Nat} (src l : List (List UInt8)) (h1 : src.length = N) (h2 : l.length = N) (k : Nat) (hk : k ≤ N) : lays src l ((List.finRange N).take k) = src.take k ++ l.drop k := by
  induction k with
  | zero => rfl
  | succ k ih =>
    rw [fin_take (by omega), lays_snoc, ih (by omega)]
    have e : src.getD k [] = src[k]'(by omega) := by simp [List.getD, List.getElem?_eq_getElem (show k < src.length by omega)]
    show (src.take k ++ l.drop k).set k (src.getD k []) = _
    rw [e]
    apply List.ext_getElem?
    intro j
    rw [List.getElem?_set]
    by_cases hj : k = j
    · subst hj
      rw [if_pos rfl, List.getElem?_append_left (by rw [List.length_take]; omega), if_pos (by simp; omega), List.getElem?_take, if_pos (by omega), List.getElem?_eq_getElem (by omega)]
    · rw [if_neg hj]
      by_cases hj2 : j < k
      · rw [List.getElem?_append_left (by rw [List.length_take]; omega), List.getElem?_append_left (by rw [List.length_take]; omega), List.getElem?_take, List.getElem?_take, if_pos hj2, if_pos (by omega)]
      · rw [List.getElem?_append_right (by rw [List.length_take]; omega), List.getElem?_append_right (by rw [List.length_take]; omega), List.length_take, List.length_take, List.getElem?_drop, List.getElem?_drop]
        congr 1; omega
theorem lays_all {N : Nat} (src l : List (List UInt8)) (h1 : src.length = N) (h2 : l.length = N) : lays src l (List.finRange N) = src := by
  rw [← fin_all, lays_take src l h1 h2 N (Nat.le_refl _), List.take_of_length_le (by omega), List.drop_eq_nil_of_le (by omega), List.append_nil]
section
variable {p q cap : Nat} {g : Nat → Nat} {C : Nat → Prop} {S : LS} {w : World}
theorem PageAt.grown {W W' : World} {a : Addr} {l : List UInt8} {row : Option Nat} (h : PageAt W C a l) (hg : W.grownBy W' row) (hrow : ∀ r, row = some r → ∃ o : Obj, W.heap[r]? = some o ∧ o.isCells = false) : PageAt W' C a l := by
  obtain ⟨A, c, h1, h2, h4, h3⟩ := h
  exact ⟨A, c, cell_kept h1 hg hrow, h2, h4, h3.grown hg hrow⟩
theorem cells4 {w : World} {p : Nat} {a b c d : Value} {t : TypeId} (h : w.heap[p]? = some (.cells #[a, b, c, d] t (0, 0))) : w.cell? ⟨p, 0, none⟩ = some a ∧ w.cell? ⟨p, 1, none⟩ = some b ∧ w.cell? ⟨p, 2, none⟩ = some c ∧ w.cell? ⟨p, 3, none⟩ = some d := by
  simp [World.cell?, h]
/-- Block's walk: the chip, two boxes, the result's block, the variable's at K, its row behind it. -/
structure BMid (w W : World) (p q cap : Nat) (g : Nat → Nat) (C : Nat → Prop) (S : LS) (i : Nat) (b : Bk) (K : Nat) (l : List (List UInt8)) : Prop where
  chip : LAt W p q cap g C S
  boxP : Boxed W w.heap.size 36 (.pointer (some ⟨p, 0, none⟩))
  boxI : Boxed W (w.heap.size + 1) 3 (.int .i64 i)
  res : W.heap[w.heap.size + 1 + 1]? = some (.cells #[.bool false, .int .i64 0, .int .i64 0, .slice none 0 0] 27 (0, 0))
  var : W.heap[K]? = some (.cells #[.bool b.bad, .int .i64 b.next, .int .i64 b.count, .slice (some ⟨K + 1, 0, none⟩) S.np S.np] 27 (0, 0))
  plain : ∃ cs t, W.heap[K + 1]? = some (.cells cs t (0, 0))
  len : l.length = S.np
  pages : ∀ j (h : j < l.length), PageAt W (fun k => K + 1 < k) ⟨K + 1, j, none⟩ l[j]
  below : Below w.heap.size w W
theorem bmid_own {β : Type} {B : Nat} (hB : w.heap.size ≤ B) (i : Nat) (b : Bk) (K : Nat) (f : β → List (List UInt8)) : OwnFrom B (fun s W => BMid w W p q cap g C S i b K (f s)) := fun s X Y row hs hg hr =>
  have hr' := fun r e => (hr r e).2
  ⟨hs.chip.grown hg hr', boxed_own w.heap.size _ (fun _ : β => .pointer (some ⟨p, 0, none⟩)) s X Y row hs.boxP hg hr', boxed_own (w.heap.size + 1) _ (fun _ : β => .int .i64 (i : Int)) s X Y row hs.boxI hg hr',
    (kept_cells hs.res hg hr').trans hs.res, (kept_cells hs.var hg hr').trans hs.var, by obtain ⟨cs, t, e⟩ := hs.plain; exact ⟨cs, t, (kept_cells e hg hr').trans e⟩, hs.len,
    fun j hj => (hs.pages j hj).grown hg hr', ownFrom_below (β := β) (Nat.le_refl _) hB s X Y row hs.below hg hr⟩
theorem BMid.more {W W' : World} {i K : Nat} {b : Bk} {l : List (List UInt8)} (h : BMid w W p q cap g C S i b K l) (hb : Below W.heap.size W W') : BMid w W' p q cap g C S i b K l where
  chip := h.chip.below hb
  boxP := (hb.block _ h.boxP.lt).trans h.boxP
  boxI := (hb.block _ h.boxI.lt).trans h.boxI
  res := (hb.block _ (lt_size h.res)).trans h.res
  var := (hb.block _ (lt_size h.var)).trans h.var
  plain := by obtain ⟨cs, t, e⟩ := h.plain; exact ⟨cs, t, (hb.block _ (lt_size e)).trans e⟩
  len := h.len
  pages := fun j hj => by
    obtain ⟨A, c, h1, h2, h4, h3⟩ := h.pages j hj
    refine ⟨A, c, (hb.cell (p := ⟨K + 1, j, none⟩) (by obtain ⟨cs, t, e⟩ := h.plain; exact lt_size e)).trans h1, h2, h4, fun hn => ?_⟩
    obtain ⟨ad, e, hb', hc⟩ := h3 hn
    exact ⟨ad, e, hb', fun j hj => (World.cell?_of_block (hb.block _ (by obtain ⟨o, ho, _⟩ := cells_of_cell (hc j hj); exact lt_size ho))).trans (hc j hj)⟩
  below := h.below.trans (hb.mono h.below.size)
theorem BMid.facts {W : World} {i K j : Nat} {b : Bk} {l : List (List UInt8)} (h : BMid w W p q cap g C S i b K l) (hi : i < S.bl.length) (hj : j < S.np) :
    W.cell? ⟨w.heap.size, 0, none⟩ = some (.pointer (some ⟨p, 0, none⟩)) ∧ W.cell? ⟨w.heap.size + 1, 0, none⟩ = some (.int .i64 i) ∧ W.cell? ⟨K, 3, none⟩ = some (.slice (some ⟨K + 1, 0, none⟩) S.np S.np) ∧
    W.cell? ⟨p, 0, none⟩ = some (.slice (some ⟨q, 0, none⟩) S.bl.length cap) ∧ W.cell? ⟨q, i * 4 + 3, none⟩ = some (.slice (some ⟨g i, 0, none⟩) S.np S.np) ∧ (∃ v, W.cell? ⟨K + 1, j, none⟩ = some v) ∧ W.frozen? ⟨K + 1, j, none⟩ = false := by
  obtain ⟨c0, _, _, _, _, _, _, _, _, _, _, _, _⟩ := cells13 h.chip.self
  obtain ⟨cs, ct, hg⟩ := h.plain
  obtain ⟨A, c, hpg, _⟩ := h.pages j (by rw [h.len]; exact hj)
  exact ⟨h.boxP.cell, h.boxI.cell, by simp [World.cell?, h.var], c0, (h.chip.blocks i hi).row, ⟨_, hpg⟩, frozen10 hg j⟩
/-- Page x is laid. -/
theorem BMid.lay {W6 : World} {i K x : Nat} {b : Bk} {l : List (List UInt8)} {A : Option Addr} {L : List UInt8} (h6 : BMid w W6 p q cap g C S i b K l) (hcb : CB W6 (fun k => K + 1 < k) A L) (hl : L.length ≤ 2000) (hK : w.heap.size + 1 + 1 < K) (hown : ∀ b, Go.Proofs.Yteghegojhhoppaa.Own p q g C S.bl.length b → b < w.heap.size) :
    BMid w (W6.setCell ⟨K + 1, x, none⟩ (.slice A L.length L.length)) p q cap g C S i b K (l.set x L) := by
  have far : ∀ k, k ≠ K + 1 → (W6.setCell ⟨K + 1, x, none⟩ (.slice A L.length L.length)).heap[k]? = W6.heap[k]? := fun k hk => Below.heap_setCell W6 ⟨K + 1, x, none⟩ _ k hk
  have hsm : ∀ b, Go.Proofs.Yteghegojhhoppaa.Own p q g C S.bl.length b → b ≠ K + 1 := fun b hb e => by
    have := hown b hb
    omega
  exact {
    chip := h6.chip.kept (by simp) (fun b hb => far b (hsm b hb))
    boxP := (far _ (by omega)).trans h6.boxP
    boxI := (far _ (by omega)).trans h6.boxI
    res := (far _ (by omega)).trans h6.res
    var := (far _ (by omega)).trans h6.var
    plain := by
      obtain ⟨cs, t, e⟩ := h6.plain
      exact ⟨_, t, heap_setCell_same W6 (K + 1) x cs t _ e⟩
    len := by rw [List.length_set]; exact h6.len
    pages := fun k hk => by
      have hk' : k < l.length := by simpa using hk
      rw [List.getElem_set]
      split
      · next e =>
        subst e
        obtain ⟨A0, c0, h1, _⟩ := h6.pages x hk'
        exact ⟨A, L.length, World.cell?_setCell_same _ _ _ h1, Nat.le_refl _, hl, hcb.keep (fun b hb => far b (by omega)) (fun _ h => h)⟩
      · next e =>
        obtain ⟨A0, c0, h1, h2, h4, h3⟩ := h6.pages k hk'
        exact ⟨A0, c0, (World.cell?_setCell_other _ _ _ _ (fun e' => by injection e' with _ h2 _; exact e h2)).trans h1, h2, h4, h3.keep (fun b hb => far b (by omega)) fun _ h => h⟩
    below := h6.below.setCell (p := ⟨K + 1, x, none⟩) (by simp; omega) _ }
theorem keepsFrom_below {B : Nat} {W W' : World} (h : Below W.heap.size W W') : KeepsFrom B W W' := ⟨h.size, fun k _ _ hk _ => (h.block k (Array.getElem?_eq_some_iff.1 hk).1).trans hk⟩
/-- The way out: the variable's cells stand in the result's block. -/
theorem BMid.leave {W : World} {i K D m : Nat} {b : Bk} (h : BMid w W p q cap g C S i b K b.pages) (hD : w.heap.size + 1 + 1 < D) (hd : W.heap[D]? = some (.deferred (some []))) (hK : w.heap.size + 1 + 1 < K) (tmps : Array Value) (ht : tmps.getD 4 undef = .pointer (some ⟨w.heap.size + 1 + 1, 0, none⟩)) :
    LeavesInM Fence.wide m Try.prog Try.f25 tmps (BlockPost b w) [{ target := Target.collected D, args := #[] }] .returning
      ((((W.setCell ⟨w.heap.size + 1 + 1, 0, none⟩ (.bool b.bad)).setCell ⟨w.heap.size + 1 + 1, 1, none⟩ (.int .i64 b.next)).setCell ⟨w.heap.size + 1 + 1, 2, none⟩ (.int .i64 b.count)).setCell ⟨w.heap.size + 1 + 1, 3, none⟩ (.slice (some ⟨K + 1, 0, none⟩) S.np S.np)) := by
  obtain ⟨W4, hW4⟩ : ∃ W4, W4 = ((((W.setCell ⟨w.heap.size + 1 + 1, 0, none⟩ (.bool b.bad)).setCell ⟨w.heap.size + 1 + 1, 1, none⟩ (.int .i64 b.next)).setCell ⟨w.heap.size + 1 + 1, 2, none⟩ (.int .i64 b.count)).setCell ⟨w.heap.size + 1 + 1, 3, none⟩ (.slice (some ⟨K + 1, 0, none⟩) S.np S.np)) := ⟨_, rfl⟩
  rw [← hW4]
  have far : ∀ k, k ≠ w.heap.size + 1 + 1 → W4.heap[k]? = W.heap[k]? := fun k hk => by
    rw [hW4]
    exact (((Below.heap_setCell _ ⟨w.heap.size + 1 + 1, 3, none⟩ _ k hk).trans (Below.heap_setCell _ ⟨w.heap.size + 1 + 1, 2, none⟩ _ k hk)).trans (Below.heap_setCell _ ⟨w.heap.size + 1 + 1, 1, none⟩ _ k hk)).trans (Below.heap_setCell _ ⟨w.heap.size + 1 + 1, 0, none⟩ _ k hk)
  have hres : W4.heap[w.heap.size + 1 + 1]? = some (.cells #[.bool b.bad, .int .i64 b.next, .int .i64 b.count, .slice (some ⟨K + 1, 0, none⟩) S.np S.np] 27 (0, 0)) := by
    rw [hW4]
    exact heap_setCell_same _ _ 3 _ _ _ (heap_setCell_same _ _ 2 _ _ _ (heap_setCell_same _ _ 1 _ _ _ (heap_setCell_same W _ 0 _ _ _ h.res)))
  have hsz : W4.heap.size = W.heap.size := by rw [hW4]; simp
  have hb4 : Below w.heap.size w W4 := by
    rw [hW4]
    exact (((h.below.setCell (p := ⟨w.heap.size + 1 + 1, 0, none⟩) (by simp; omega) _).setCell (p := ⟨w.heap.size + 1 + 1, 1, none⟩) (by simp; omega) _).setCell (p := ⟨w.heap.size + 1 + 1, 2, none⟩) (by simp; omega) _).setCell (p := ⟨w.heap.size + 1 + 1, 3, none⟩) (by simp; omega) _
  have hd4 := (far D (by omega)).trans hd
  have hl := h.len
  refine ⟨by simp, .inl ⟨_, _, rfl, run_takeDeferred hd4, ?_⟩⟩
  have hg := grownBy_putObj' W4 D (.deferred none)
  have hrow : ∀ r, some D = some r → ∃ o : Obj, W4.heap[r]? = some o ∧ o.isCells = false := fun r e => by cases e; exact ⟨_, hd4, rfl⟩
  refine ⟨_, results_cell_row rfl _ _ (w.heap.size + 1 + 1) _ _ _ _ ht ((kept_cells hres hg hrow).trans hres) Try.underlying27 rfl (by kernel_rfl), _, rfl, ⟨some ⟨K + 1, 0, none⟩, S.np, by rw [hl], by omega, fun _ => ⟨K + 1, rfl, by omega, fun j hj => ?_⟩⟩, hb4.trans (belowK_b (w := w) (Nat.le_refl _) W4 D _ _ (by omega) hd4 rfl rfl)⟩
  obtain ⟨A, c, h1, h2, h4, h3⟩ := h.pages j hj
  refine PageAt.grown (W := W4) ⟨A, c, (World.cell?_of_block (a := ⟨K + 1, j, none⟩) (far _ (by show K + 1 ≠ _; omega))).trans h1, h2, h4, h3.keep (fun b hb => far b (by omega)) (fun b hb => by omega)⟩ hg hrow
theorem op_skip {P : Program} {ops : Array Oper} {Q : Exit → Act → World → Prop} {o : Oper} {a : Act} {w w' : World} {K : Act → World → Prop} {E : Prop} (hw : Region.wanted o (yielded ops a.tmps) = true) (hr : (execOp a.eval o).run P w = .ok .skip w') (h : K (a.put o.dst undef) w') :
    if Region.wanted o (yielded ops a.tmps) = true then o.wp P a w K Q else E := by
  rw [if_pos hw]
  unfold Oper.wp
  rw [hr]
  exact h
theorem block_start {W0 : World} {i : Nat} {b : Bk} (h0 : LAt W0 p q cap g C S) (bP : Boxed W0 w.heap.size 36 (.pointer (some ⟨p, 0, none⟩))) (bI : Boxed W0 (w.heap.size + 1) 3 (.int .i64 i)) (hr : W0.heap[w.heap.size + 1 + 1]? = some (.cells #[.bool false, .int .i64 0, .int .i64 0, .slice none 0 0] 27 (0, 0))) (hB0 : Below w.heap.size w W0) (hs : w.heap.size ≤ W0.heap.size) (W2 : World)
    (hW2 : W2 = ((((W0.alloc (.cells #[.bool b.bad, .int .i64 b.next, .int .i64 b.count, .slice (some ⟨W0.heap.size + 1, 0, none⟩) S.np S.np] 27)).alloc (.cells (madeCells #[Value.slice none 0 0] S.np) 43)).alloc (.cells #[.int .i64 (S.np : Int)] 3)).alloc (.cells #[.int .i64 0] 3)).drew) :
    Boxed W2 (W0.heap.size + 1 + 1) 3 (.int .i64 (S.np : Int)) ∧ Boxed W2 (W0.heap.size + 1 + 1 + 1) 3 (.int .i64 0) ∧ BMid w W2 p q cap g C S i b W0.heap.size (List.replicate S.np []) := by
  obtain ⟨Wa, hWa⟩ : ∃ Wa, Wa = W0.alloc (.cells #[.bool b.bad, .int .i64 b.next, .int .i64 b.count, .slice (some ⟨W0.heap.size + 1, 0, none⟩) S.np S.np] 27) := ⟨_, rfl⟩
  obtain ⟨Wb, hWb⟩ : ∃ Wb, Wb = Wa.alloc (.cells (madeCells #[Value.slice none 0 0] S.np) 43) := ⟨_, rfl⟩
  rw [← hWa, ← hWb] at hW2
  have sa : Wa.heap.size = W0.heap.size + 1 := by rw [hWa]; simp
  have sb : Wb.heap.size = W0.heap.size + 1 + 1 := by rw [hWb]; simp [sa]
  have b1 := Boxed.new Wb 3 (.int .i64 (S.np : Int))
  have b2 := Boxed.new (Wb.alloc (.cells #[.int .i64 (S.np : Int)] 3)) 3 (.int .i64 0)
  rw [World.size_alloc] at b2
  rw [sb] at b1 b2
  have hb2 : Below Wb.heap.size Wb W2 := by rw [hW2]; exact (((Below.refl _ Wb).alloc (Nat.le_refl _) _).alloc (by simp) _).drew
  have hv : Wa.heap[W0.heap.size]? = some (.cells #[.bool b.bad, .int .i64 b.next, .int .i64 b.count, .slice (some ⟨W0.heap.size + 1, 0, none⟩) S.np S.np] 27 (0, 0)) := by rw [hWa]; exact heap_alloc_new _ _
  have hrow : Wb.heap[W0.heap.size + 1]? = some (.cells (madeCells #[Value.slice none 0 0] S.np) 43 (0, 0)) := by rw [hWb, ← sa]; exact heap_alloc_new _ _
  have hab : Below Wa.heap.size Wa Wb := by rw [hWb]; exact (Below.refl _ Wa).alloc (Nat.le_refl _) _
  have h0a : Below W0.heap.size W0 Wa := by rw [hWa]; exact (Below.refl _ W0).alloc (Nat.le_refl _) _
  have h0b : Below W0.heap.size W0 Wb := h0a.trans (hab.mono (by omega))
  refine ⟨by rw [hW2]; exact b1.alloc _, by rw [hW2]; exact b2, BMid.more (W := Wb) ?_ hb2⟩
  exact {
    chip := h0.below h0b
    boxP := (h0b.block _ bP.lt).trans bP
    boxI := (h0b.block _ bI.lt).trans bI
    res := (h0b.block _ (lt_size hr)).trans hr
    var := (hab.block _ (lt_size hv)).trans hv
    plain := ⟨_, _, hrow⟩
    len := by simp
    pages := fun j hj => ⟨none, 0, by
      have hj' : j < S.np := by simpa using hj
      simp [World.cell?, hrow, made_nils, hj'], by simp, by simp, by simpa using CB.nil⟩
    below := hB0.trans (h0b.mono hs) }
set_option maxRecDepth 100000 in
set_option maxHeartbeats 2000000 in
theorem block_nil (i : Int) (w : World) : Calls Try.prog 25 #[.pointer none, .int .i64 i] w (BlockPost noB w) := by
  refine callsIn_wide.1 (callsIn_of_wp_marks (n := 3) Try.func25 rfl trivial ?_ rfl)
  simp only [Try.ntmps25, List.size_toArray, List.length_cons, List.length_nil, Nat.reduceAdd, Nat.reduceSub, Array.replicate_succ, Array.replicate_zero, List.push_toArray, List.append_toArray, List.nil_append, List.cons_append]
  gi_wp2_with (refine ⟨trivial, ?_⟩; (try refine ⟨wide_depth _, ?_⟩); gi_at_call 19; refine (callsIn_wide.2 (is_nil _ _)).mono ?_; rintro e w1 ⟨rfl, hw1⟩; obtain rfl := hw1.symm)
  exact ⟨_, results_cell_row rfl _ _ (w.heap.size + 1 + 1) _ _ _ _ rfl (by have := heap_alloc_new ((w.alloc (.cells #[Value.pointer none] 36)).alloc (.cells #[Value.int .i64 i] 3)) (.cells #[Value.bool false, Value.int .i64 0, Value.int .i64 0, Value.slice none 0 0] 27); simp only [World.size_alloc] at this; exact this) Try.underlying27 rfl (by kernel_rfl), _, rfl, pagesV_nil _ _, (((Below.refl _ w).alloc (Nat.le_refl _) _).alloc (by simp) _).alloc (by simp; omega) _⟩
set_option maxRecDepth 100000 in
set_option maxHeartbeats 2000000 in
theorem block_out (i : Int) (h : LAt w p q cap g C S) (hi : isL S i = false) : Calls Try.prog 25 #[.pointer (some ⟨p, 0, none⟩), .int .i64 i] w (BlockPost noB w) := by
  have h0 := ((h.alloc (.cells #[.pointer (some ⟨p, 0, none⟩)] 36)).alloc (.cells #[.int .i64 i] 3)).alloc (.cells #[.bool false, .int .i64 0, .int .i64 0, .slice none 0 0] 27)
  refine callsIn_wide.1 (callsIn_of_wp_marks (n := 3) Try.func25 rfl trivial ?_ rfl)
  simp only [Try.ntmps25, List.size_toArray, List.length_cons, List.length_nil, Nat.reduceAdd, Nat.reduceSub, Array.replicate_succ, Array.replicate_zero, List.push_toArray, List.append_toArray, List.nil_append, List.cons_append]
  gi_wp2_with (refine ⟨trivial, ?_⟩; (try refine ⟨wide_depth _, ?_⟩); gi_at_call 19; refine (callsIn_wide.2 (is_any i h0)).mono ?_; rintro e w1 ⟨rfl, hw1⟩; obtain rfl := hw1.symm; rw [hi])
  exact ⟨_, results_cell_row rfl _ _ (w.heap.size + 1 + 1) _ _ _ _ rfl (by have := heap_alloc_new ((w.alloc (.cells #[Value.pointer (some ⟨p, 0, none⟩)] 36)).alloc (.cells #[Value.int .i64 i] 3)) (.cells #[Value.bool false, Value.int .i64 0, Value.int .i64 0, Value.slice none 0 0] 27); simp only [World.size_alloc] at this; exact this) Try.underlying27 rfl (by kernel_rfl), _, rfl, pagesV_nil _ _, (((Below.refl _ w).alloc (Nat.le_refl _) _).alloc (by simp) _).alloc (by simp; omega) _⟩
set_option maxRecDepth 100000 in
set_option maxHeartbeats 4000000 in
theorem block_in (i : Nat) (h : LAt w p q cap g C S) (hi : i < S.bl.length) : Calls Try.prog 25 #[.pointer (some ⟨p, 0, none⟩), .int .i64 i] w (BlockPost S.bl[i] w) := by
  have his : isL S i = true := by simp [isL]; omega
  obtain ⟨W0, hW0⟩ : ∃ W0, ((w.alloc (.cells #[.pointer (some ⟨p, 0, none⟩)] 36)).alloc (.cells #[.int .i64 i] 3)).alloc (.cells #[.bool false, .int .i64 0, .int .i64 0, .slice none 0 0] 27) = W0 := ⟨_, rfl⟩
  have hB0 : Below w.heap.size w W0 := by rw [← hW0]; exact (((Below.refl _ w).alloc (Nat.le_refl _) _).alloc (by simp) _).alloc (by simp; omega) _
  have h0 := h.below hB0
  have hb := h0.blocks i hi
  have r0 := hb.bad
  have r1 := hb.next
  have r2 := hb.count
  have r3 := hb.row
  have bP : Boxed W0 w.heap.size 36 (.pointer (some ⟨p, 0, none⟩)) := by rw [← hW0]; exact ((Boxed.new w _ _).alloc _).alloc _
  have bI : Boxed W0 (w.heap.size + 1) 3 (.int .i64 i) := by
    rw [← hW0]; have := Boxed.new (w.alloc (.cells #[.pointer (some ⟨p, 0, none⟩)] 36)) 3 (.int .i64 (i : Int)); rw [World.size_alloc] at this; exact this.alloc _
  obtain ⟨c0, c1, _, _, _, _, _, _, _, _, _, _, _⟩ := cells13 h0.self
  have cP := bP.cell
  have cI := bI.cell
  have hs0 : W0.heap.size = w.heap.size + 3 := by rw [← hW0]; simp
  have hp0 := h0.lt p (.inl rfl)
  have hq0 := h0.lt q (.inr (.inl rfl))
  have hx0 : w.heap.size < W0.heap.size := by omega
  have hx1 : w.heap.size + 1 < W0.heap.size := by omega
  have HS0 := Lib.hid hs0
  have hres : W0.heap[w.heap.size + 1 + 1]? = some (.cells #[.bool false, .int .i64 0, .int .i64 0, .slice none 0 0] 27 (0, 0)) := by
    rw [← hW0]; have := heap_alloc_new ((w.alloc (.cells #[.pointer (some ⟨p, 0, none⟩)] 36)).alloc (.cells #[.int .i64 i] 3)) (.cells #[.bool false, .int .i64 0, .int .i64 0, .slice none 0 0] 27); simp only [World.size_alloc] at this; exact this
  clear hs0
  have hnp := h.small.2.1
  have hnp2 := h.small.2.2
  have hbl := h.small.1
  clear hb
  refine callsIn_wide.1 (callsIn_of_wp_marks (n := 3) Try.func25 rfl trivial ?_ rfl)
  simp only [Try.ntmps25, List.size_toArray, List.length_cons, List.length_nil, Nat.reduceAdd, Nat.reduceSub, Array.replicate_succ, Array.replicate_zero, List.push_toArray, List.append_toArray, List.nil_append, List.cons_append]
  gi_wp2_with (refine ⟨trivial, ?_⟩; (try refine ⟨wide_depth _, ?_⟩); gi_at_call 19; refine (callsIn_wide.2 (is_any i h0)).mono ?_; rintro e w1 ⟨rfl, hw1⟩; obtain rfl := hw1.symm; rw [his])
  clear hW0
  have hmk := make_pages S.np (by omega)
  gi_region
  gi_wp2_with (refine ⟨trivial, ?_⟩; (try refine ⟨wide_depth _, ?_⟩); gi_at_call 18; refine (callsIn_wide.2 (turn_any _ _ _)).mono ?_; rintro e w1 ⟨rfl, rfl⟩)
  refine wpIn_world ?_
  intro W2 hW2
  obtain ⟨bN, bF, hM⟩ := block_start (b := S.bl[i]) h0 bP bI hres hB0 (by omega) W2 hW2
  have H2 := Lib.hid hM
  have HS := Lib.hid (show w.heap.size ≤ W2.heap.size from hM.below.size)
  have hlen := (h.blocks i hi).len
  have hown := h.lt
  have hKs : w.heap.size + 1 + 1 < W0.heap.size := by rw [HS0.out]; omega
  obtain ⟨K, hK⟩ : ∃ K, W0.heap.size = K := ⟨_, rfl⟩
  rw [hK] at bN bF H2 hKs ⊢
  clear hW2 hM r0 r1 r2 r3 c0 c1 cP cI hp0 hq0 hx0 hx1 hmk bP bI h0 hB0 hres HS0
  apply wpIn_rangeFunc_ownG rfl (n := 3) (by omega) (gf := 26) (lb := #[.pointer (some ⟨K + 1 + 1, 0, none⟩), .pointer (some ⟨K + 1 + 1 + 1, 0, none⟩)]) rfl trivial enters_turn
    (turn_fin_stops (N := S.np) (fun _ _ => True) (3 - 1) _ _ (by omega) hnp W2 bN bF) (fun _ _ => trivial) (fun _ _ _ _ _ _ _ _ => trivial) (Below.refl _ _) (fun _ => rfl)
    (fun pre W => BMid w W p q cap g C S i S.bl[i] K (lays S.bl[i].pages (List.replicate S.np []) pre))
    (fun _ _ _ => False)
    ?own ?ownx ?start
  case own => exact bmid_own HS.out i S.bl[i] K (fun pre => lays S.bl[i].pages (List.replicate S.np []) pre)
  case ownx => exact fun _ _ _ _ _ h _ _ => h
  case start => exact H2.out
  case hassign =>
    intro l x W K hK
    gi_wp2
    exact hK
  case hbody =>
    rintro l pre x W hM hlt
    obtain ⟨cP, cI, cV, c0, cr, ⟨v, cv⟩, cf⟩ := hM.facts hi x.isLt
    obtain ⟨A, c, hpg, hlc, hl2, hcb⟩ := (hM.chip.blocks i hi).pages x.val (by rw [hlen]; exact x.isLt)
    obtain ⟨L0, hL0⟩ : ∃ L0, L0 = S.bl[i].pages[x.val]'(by rw [hlen]; exact x.isLt) := ⟨_, rfl⟩
    rw [← hL0] at hpg hlc hl2 hcb
    have hL1 : S.bl[i].pages.getD x.val [] = L0 := by rw [hL0]; simp [List.getD, List.getElem?_eq_getElem (show x.val < S.bl[i].pages.length by rw [hlen]; exact x.isLt)]
    have HL1 := Lib.hid hL1
    clear hL0 hL1
    have HV := Lib.hid (show Value.int .i64 2000 = .int .i64 ((2000 : Nat) : Int) from rfl)
    have hrb := hcb.rb hM.chip.cl
    have HM := Lib.hid hM
    have hx := x.isLt
    gi_wp2
    have hl3 : L0.length ≤ 140737488355328 := Nat.le_trans hl2 (by decide)
    clear cP cI cV c0 cr cv cf hrb
    refine region_inv_in (fun j v w' => (j = 14 → ∃ A2 L, v = .slice A2 L.length L.length ∧ Hid (L = L0) ∧ CB w' (fun k => K + 1 < k) A2 L) ∧ (j = 16 → BMid w w' p q cap g C S i S.bl[i] K ((lays S.bl[i].pages (List.replicate S.np []) pre).set x.val L0)) ∧ (j ≠ 14 → j ≠ 16 → v = (match j with | 0 => .pointer (some ⟨K, 3, none⟩) | 1 => .slice (some ⟨K + 1, 0, none⟩) S.np S.np | 2 => .int .i64 (x.val : Int) | 3 => .pointer (some ⟨p, 0, none⟩) | 4 => .pointer (some ⟨p, 0, none⟩) | 5 => .pointer (some ⟨p, 0, none⟩) | 6 => .slice (some ⟨q, 0, none⟩) S.bl.length cap | 7 => .int .i64 (i : Int) | 8 => .pointer (some ⟨q, i * 4, none⟩) | 9 => .pointer (some ⟨q, i * 4 + 3, none⟩) | 10 => .slice (some ⟨g i, 0, none⟩) S.np S.np | 11 => .int .i64 (x.val : Int) | 12 => .pointer (some ⟨g i, x.val, none⟩) | 13 => .slice A L0.length c | 15 => .pointer (some ⟨K + 1, x.val, none⟩) | _ => undef : Value)))
      (fun w' => (∃ l', (l' = lays S.bl[i].pages (List.replicate S.np []) pre ∨ l' = (lays S.bl[i].pages (List.replicate S.np []) pre).set x.val L0) ∧ BMid w w' p q cap g C S i S.bl[i] K l') ∧ w'.cell? ⟨g i, x.val, none⟩ = some (.slice A L0.length c) ∧ CB w' C A L0 ∧ KeepsFrom W2.heap.size W w')
      (fun w1 w2 => w1.heap.size ≤ w2.heap.size ∧ (∀ b, K + 1 < b → b < w1.heap.size → w2.heap[b]? = w1.heap[b]?) ∧ (BMid w w1 p q cap g C S i S.bl[i] K ((lays S.bl[i].pages (List.replicate S.np []) pre).set x.val L0) → BMid w w2 p q cap g C S i S.bl[i] K ((lays S.bl[i].pages (List.replicate S.np []) pre).set x.val L0)))
      (by kernel_rfl) (by kernel_rfl) (by kernel_rfl) (by kernel_rfl) ?hR ?hG ?hops ?hend
    case hR =>
      intro j v w1 w2 ⟨h1, h2, h3⟩ ⟨r1, r2, r3⟩
      refine ⟨fun e => ?_, fun e => r3 (h2 e), h3⟩
      obtain ⟨A2, L, e1, e2, hc⟩ := h1 e
      refine ⟨A2, L, e1, e2, fun hn => ?_⟩
      obtain ⟨ad, ea, hb, hcc⟩ := hc hn
      exact ⟨ad, ea, hb, fun j hj => (World.cell?_of_block (r2 _ (by rw [block_add]; exact hb) (by obtain ⟨o, ho, _⟩ := cells_of_cell (hcc j hj); exact (Array.getElem?_eq_some_iff.1 ho).1))).trans (hcc j hj)⟩
    case hG => exact ⟨⟨_, .inl rfl, hM.more (Below.refl _ _).drew⟩, hpg, hcb, keepsFrom_below (Below.refl _ _).drew⟩
    case hops =>
      refine OpsOk.cons ?o0 (OpsOk.cons ?o1 (OpsOk.cons ?o2 (OpsOk.cons ?o3 (OpsOk.cons ?o4 (OpsOk.cons ?o5 (OpsOk.cons ?o6 (OpsOk.cons ?o7 (OpsOk.cons ?o8 (OpsOk.cons ?o9 (OpsOk.cons ?o10 (OpsOk.cons ?o11 (OpsOk.cons ?o12 (OpsOk.cons ?o13 (OpsOk.cons ?o14 (OpsOk.cons ?o15 (OpsOk.cons ?o16 (OpsOk.nil)))))))))))))))))
      case o0 =>
        intro a w1 Kx hG need old hsz hK
        obtain ⟨⟨l', hll, hM1⟩, hcp, hcb1, hkf⟩ := hG
        have e0 : a.tmps[5]?.getD undef = .pointer (some ⟨K, 0, none⟩) := by
          rw [← Array.getD_eq_getD_getElem?]
          exact old 5 (by kernel_rfl)
        refine op_value (v := .pointer (some ⟨K, 3, none⟩)) (wanted_none rfl) ?_ (hK _ w1 ⟨fun e => absurd e (by decide), fun e => absurd e (by decide), fun _ _ => rfl⟩ ⟨⟨l', hll, hM1⟩, hcp, hcb1, hkf⟩ ⟨Nat.le_refl _, fun _ _ _ => rfl, id⟩)
        simp [execOp, go_sem, e0]
      case o1 =>
        intro a w1 Kx hG need old hsz hK
        obtain ⟨⟨l', hll, hM1⟩, hcp, hcb1, hkf⟩ := hG
        obtain ⟨cP, cI, cV, c0, cr, ⟨v, cv⟩, cf⟩ := hM1.facts hi x.isLt
        clear cv cf
        have e0 : a.tmps[31]?.getD undef = .pointer (some ⟨K, 3, none⟩) := by
          rw [← Array.getD_eq_getD_getElem?]
          exact (need 0 (by kernel_rfl) (by kernel_rfl)).2.2 (by decide) (by decide)
        refine op_value (v := .slice (some ⟨K + 1, 0, none⟩) S.np S.np) (wanted_none rfl) ?_ (hK _ w1 ⟨fun e => absurd e (by decide), fun e => absurd e (by decide), fun _ _ => rfl⟩ ⟨⟨l', hll, hM1⟩, hcp, hcb1, hkf⟩ ⟨Nat.le_refl _, fun _ _ _ => rfl, id⟩)
        simp [execOp, go_sem, e0, cV]
      case o2 =>
        intro a w1 Kx hG need old hsz hK
        obtain ⟨⟨l', hll, hM1⟩, hcp, hcb1, hkf⟩ := hG
        have e0 : a.tmps[6]?.getD undef = .int .i64 (x.val : Int) := by
          rw [← Array.getD_eq_getD_getElem?]
          exact old 6 (by kernel_rfl)
        refine op_value (v := .int .i64 (x.val : Int)) (wanted_none rfl) ?_ (hK _ w1 ⟨fun e => absurd e (by decide), fun e => absurd e (by decide), fun _ _ => rfl⟩ ⟨⟨l', hll, hM1⟩, hcp, hcb1, hkf⟩ ⟨Nat.le_refl _, fun _ _ _ => rfl, id⟩)
        simp [execOp, go_sem, e0]
      case o3 =>
        intro a w1 Kx hG need old hsz hK
        obtain ⟨⟨l', hll, hM1⟩, hcp, hcb1, hkf⟩ := hG
        obtain ⟨cP, cI, cV, c0, cr, ⟨v, cv⟩, cf⟩ := hM1.facts hi x.isLt
        clear cv cf
        have e0 : a.tmps[2]?.getD undef = .pointer (some ⟨w.heap.size, 0, none⟩) := by
          rw [← Array.getD_eq_getD_getElem?]
          exact old 2 (by kernel_rfl)
        refine op_value (v := .pointer (some ⟨p, 0, none⟩)) (wanted_none rfl) ?_ (hK _ w1 ⟨fun e => absurd e (by decide), fun e => absurd e (by decide), fun _ _ => rfl⟩ ⟨⟨l', hll, hM1⟩, hcp, hcb1, hkf⟩ ⟨Nat.le_refl _, fun _ _ _ => rfl, id⟩)
        simp [execOp, go_sem, e0, cP]
      case o4 =>
        intro a w1 Kx hG need old hsz hK
        obtain ⟨⟨l', hll, hM1⟩, hcp, hcb1, hkf⟩ := hG
        have e0 : a.tmps[34]?.getD undef = .pointer (some ⟨p, 0, none⟩) := by
          rw [← Array.getD_eq_getD_getElem?]
          exact (need 3 (by kernel_rfl) (by kernel_rfl)).2.2 (by decide) (by decide)
        refine op_value (v := .pointer (some ⟨p, 0, none⟩)) (wanted_none rfl) ?_ (hK _ w1 ⟨fun e => absurd e (by decide), fun e => absurd e (by decide), fun _ _ => rfl⟩ ⟨⟨l', hll, hM1⟩, hcp, hcb1, hkf⟩ ⟨Nat.le_refl _, fun _ _ _ => rfl, id⟩)
        simp [execOp, go_sem, e0]
      case o5 =>
        intro a w1 Kx hG need old hsz hK
        obtain ⟨⟨l', hll, hM1⟩, hcp, hcb1, hkf⟩ := hG
        have e0 : a.tmps[35]?.getD undef = .pointer (some ⟨p, 0, none⟩) := by
          rw [← Array.getD_eq_getD_getElem?]
          exact (need 4 (by kernel_rfl) (by kernel_rfl)).2.2 (by decide) (by decide)
        refine op_value (v := .pointer (some ⟨p, 0, none⟩)) (wanted_none rfl) ?_ (hK _ w1 ⟨fun e => absurd e (by decide), fun e => absurd e (by decide), fun _ _ => rfl⟩ ⟨⟨l', hll, hM1⟩, hcp, hcb1, hkf⟩ ⟨Nat.le_refl _, fun _ _ _ => rfl, id⟩)
        simp [execOp, go_sem, e0]
      case o6 =>
        intro a w1 Kx hG need old hsz hK
        obtain ⟨⟨l', hll, hM1⟩, hcp, hcb1, hkf⟩ := hG
        obtain ⟨cP, cI, cV, c0, cr, ⟨v, cv⟩, cf⟩ := hM1.facts hi x.isLt
        clear cv cf
        have e0 : a.tmps[36]?.getD undef = .pointer (some ⟨p, 0, none⟩) := by
          rw [← Array.getD_eq_getD_getElem?]
          exact (need 5 (by kernel_rfl) (by kernel_rfl)).2.2 (by decide) (by decide)
        refine op_value (v := .slice (some ⟨q, 0, none⟩) S.bl.length cap) (wanted_none rfl) ?_ (hK _ w1 ⟨fun e => absurd e (by decide), fun e => absurd e (by decide), fun _ _ => rfl⟩ ⟨⟨l', hll, hM1⟩, hcp, hcb1, hkf⟩ ⟨Nat.le_refl _, fun _ _ _ => rfl, id⟩)
        simp [execOp, go_sem, e0, c0]
      case o7 =>
        intro a w1 Kx hG need old hsz hK
        obtain ⟨⟨l', hll, hM1⟩, hcp, hcb1, hkf⟩ := hG
        obtain ⟨cP, cI, cV, c0, cr, ⟨v, cv⟩, cf⟩ := hM1.facts hi x.isLt
        clear cv cf
        have e0 : a.tmps[3]?.getD undef = .pointer (some ⟨w.heap.size + 1, 0, none⟩) := by
          rw [← Array.getD_eq_getD_getElem?]
          exact old 3 (by kernel_rfl)
        refine op_value (v := .int .i64 (i : Int)) (wanted_none rfl) ?_ (hK _ w1 ⟨fun e => absurd e (by decide), fun e => absurd e (by decide), fun _ _ => rfl⟩ ⟨⟨l', hll, hM1⟩, hcp, hcb1, hkf⟩ ⟨Nat.le_refl _, fun _ _ _ => rfl, id⟩)
        simp [execOp, go_sem, e0, cI]
      case o8 =>
        intro a w1 Kx hG need old hsz hK
        obtain ⟨⟨l', hll, hM1⟩, hcp, hcb1, hkf⟩ := hG
        have e0 : a.tmps[37]?.getD undef = .slice (some ⟨q, 0, none⟩) S.bl.length cap := by
          rw [← Array.getD_eq_getD_getElem?]
          exact (need 6 (by kernel_rfl) (by kernel_rfl)).2.2 (by decide) (by decide)
        have e1 : a.tmps[38]?.getD undef = .int .i64 (i : Int) := by
          rw [← Array.getD_eq_getD_getElem?]
          exact (need 7 (by kernel_rfl) (by kernel_rfl)).2.2 (by decide) (by decide)
        refine op_value (v := .pointer (some ⟨q, i * 4, none⟩)) (wanted_none rfl) ?_ (hK _ w1 ⟨fun e => absurd e (by decide), fun e => absurd e (by decide), fun _ _ => rfl⟩ ⟨⟨l', hll, hM1⟩, hcp, hcb1, hkf⟩ ⟨Nat.le_refl _, fun _ _ _ => rfl, id⟩)
        simp [execOp, go_sem, e0, e1, hi]
      case o9 =>
        intro a w1 Kx hG need old hsz hK
        obtain ⟨⟨l', hll, hM1⟩, hcp, hcb1, hkf⟩ := hG
        have e0 : a.tmps[39]?.getD undef = .pointer (some ⟨q, i * 4, none⟩) := by
          rw [← Array.getD_eq_getD_getElem?]
          exact (need 8 (by kernel_rfl) (by kernel_rfl)).2.2 (by decide) (by decide)
        refine op_value (v := .pointer (some ⟨q, i * 4 + 3, none⟩)) (wanted_none rfl) ?_ (hK _ w1 ⟨fun e => absurd e (by decide), fun e => absurd e (by decide), fun _ _ => rfl⟩ ⟨⟨l', hll, hM1⟩, hcp, hcb1, hkf⟩ ⟨Nat.le_refl _, fun _ _ _ => rfl, id⟩)
        simp [execOp, go_sem, e0]
      case o10 =>
        intro a w1 Kx hG need old hsz hK
        obtain ⟨⟨l', hll, hM1⟩, hcp, hcb1, hkf⟩ := hG
        obtain ⟨cP, cI, cV, c0, cr, ⟨v, cv⟩, cf⟩ := hM1.facts hi x.isLt
        clear cv cf
        have e0 : a.tmps[40]?.getD undef = .pointer (some ⟨q, i * 4 + 3, none⟩) := by
          rw [← Array.getD_eq_getD_getElem?]
          exact (need 9 (by kernel_rfl) (by kernel_rfl)).2.2 (by decide) (by decide)
        refine op_value (v := .slice (some ⟨g i, 0, none⟩) S.np S.np) (wanted_none rfl) ?_ (hK _ w1 ⟨fun e => absurd e (by decide), fun e => absurd e (by decide), fun _ _ => rfl⟩ ⟨⟨l', hll, hM1⟩, hcp, hcb1, hkf⟩ ⟨Nat.le_refl _, fun _ _ _ => rfl, id⟩)
        simp [execOp, go_sem, e0, cr]
      case o11 =>
        intro a w1 Kx hG need old hsz hK
        obtain ⟨⟨l', hll, hM1⟩, hcp, hcb1, hkf⟩ := hG
        have e0 : a.tmps[6]?.getD undef = .int .i64 (x.val : Int) := by
          rw [← Array.getD_eq_getD_getElem?]
          exact old 6 (by kernel_rfl)
        refine op_value (v := .int .i64 (x.val : Int)) (wanted_none rfl) ?_ (hK _ w1 ⟨fun e => absurd e (by decide), fun e => absurd e (by decide), fun _ _ => rfl⟩ ⟨⟨l', hll, hM1⟩, hcp, hcb1, hkf⟩ ⟨Nat.le_refl _, fun _ _ _ => rfl, id⟩)
        simp [execOp, go_sem, e0]
      case o12 =>
        intro a w1 Kx hG need old hsz hK
        obtain ⟨⟨l', hll, hM1⟩, hcp, hcb1, hkf⟩ := hG
        have e0 : a.tmps[41]?.getD undef = .slice (some ⟨g i, 0, none⟩) S.np S.np := by
          rw [← Array.getD_eq_getD_getElem?]
          exact (need 10 (by kernel_rfl) (by kernel_rfl)).2.2 (by decide) (by decide)
        have e1 : a.tmps[42]?.getD undef = .int .i64 (x.val : Int) := by
          rw [← Array.getD_eq_getD_getElem?]
          exact (need 11 (by kernel_rfl) (by kernel_rfl)).2.2 (by decide) (by decide)
        refine op_value (v := .pointer (some ⟨g i, x.val, none⟩)) (wanted_none rfl) ?_ (hK _ w1 ⟨fun e => absurd e (by decide), fun e => absurd e (by decide), fun _ _ => rfl⟩ ⟨⟨l', hll, hM1⟩, hcp, hcb1, hkf⟩ ⟨Nat.le_refl _, fun _ _ _ => rfl, id⟩)
        simp [execOp, go_sem, e0, e1, hx]
      case o13 =>
        intro a w1 Kx hG need old hsz hK
        obtain ⟨⟨l', hll, hM1⟩, hcp, hcb1, hkf⟩ := hG
        have e0 : a.tmps[43]?.getD undef = .pointer (some ⟨g i, x.val, none⟩) := by
          rw [← Array.getD_eq_getD_getElem?]
          exact (need 12 (by kernel_rfl) (by kernel_rfl)).2.2 (by decide) (by decide)
        refine op_value (v := .slice A L0.length c) (wanted_none rfl) ?_ (hK _ w1 ⟨fun e => absurd e (by decide), fun e => absurd e (by decide), fun _ _ => rfl⟩ ⟨⟨l', hll, hM1⟩, hcp, hcb1, hkf⟩ ⟨Nat.le_refl _, fun _ _ _ => rfl, id⟩)
        simp [execOp, go_sem, e0, hcp]
      case o14 =>
        intro a w1 Kx hG need old hsz hK
        obtain ⟨⟨l', hll, hM1⟩, hcp, hcb1, hkf⟩ := hG
        have e0 : a.tmps[44]?.getD undef = .slice A L0.length c := by
          rw [← Array.getD_eq_getD_getElem?]
          exact (need 13 (by kernel_rfl) (by kernel_rfl)).2.2 (by decide) (by decide)
        refine op_call (wanted_none rfl) (f := 22) (args := #[.slice A L0.length c, .int .i64 2000]) ?run ((part_any A c L0 2000 w1 w1.heap.size (hcb1.rb hM1.chip.cl) (Nat.le_refl _) hl3 _ HV.out).mono ?post)
        case run => simp [go_sem, e0]
        case post =>
          rintro e w2 ⟨A2, L, rfl, hL, hn⟩
          refine ⟨_, rfl, hK _ w2 ⟨fun _ => ⟨A2, L, rfl, hL.out.trans (List.take_of_length_le hl2), hn.1.keep (fun _ _ => rfl) (fun b hb => by have := lt_size hM1.plain.choose_spec.choose_spec; omega)⟩, fun e => absurd e (by decide), fun e => absurd rfl e⟩ ⟨⟨l', hll, hM1.more hn.2⟩, ?_, ?_, ?_⟩ ⟨hn.2.size, fun b _ hb => hn.2.block b hb, fun h => BMid.more h hn.2⟩⟩
          · exact (hn.2.cell (p := ⟨g i, x.val, none⟩) (lt_size (hM1.chip.blocks i hi).plain.choose_spec.choose_spec)).trans hcp
          · exact hcb1.keep (fun b hb => hn.2.block b (hM1.chip.cl b hb)) fun _ h => h
          · exact hkf.trans (keepsFrom_below hn.2)
      case o15 =>
        intro a w1 Kx hG need old hsz hK
        obtain ⟨⟨l', hll, hM1⟩, hcp, hcb1, hkf⟩ := hG
        have e0 : a.tmps[32]?.getD undef = .slice (some ⟨K + 1, 0, none⟩) S.np S.np := by
          rw [← Array.getD_eq_getD_getElem?]
          exact (need 1 (by kernel_rfl) (by kernel_rfl)).2.2 (by decide) (by decide)
        have e1 : a.tmps[33]?.getD undef = .int .i64 (x.val : Int) := by
          rw [← Array.getD_eq_getD_getElem?]
          exact (need 2 (by kernel_rfl) (by kernel_rfl)).2.2 (by decide) (by decide)
        refine op_value (v := .pointer (some ⟨K + 1, x.val, none⟩)) (wanted_none rfl) ?_ (hK _ w1 ⟨fun e => absurd e (by decide), fun e => absurd e (by decide), fun _ _ => rfl⟩ ⟨⟨l', hll, hM1⟩, hcp, hcb1, hkf⟩ ⟨Nat.le_refl _, fun _ _ _ => rfl, id⟩)
        simp [execOp, go_sem, e0, e1, hx]
      case o16 =>
        intro a w1 Kx hG need old hsz hK
        obtain ⟨⟨l', hll, hM1⟩, hcp, hcb1, hkf⟩ := hG
        have e0 : a.tmps[46]?.getD undef = .pointer (some ⟨K + 1, x.val, none⟩) := by
          rw [← Array.getD_eq_getD_getElem?]
          exact (need 15 (by kernel_rfl) (by kernel_rfl)).2.2 (by decide) (by decide)
        obtain ⟨A2, L, e1', hL, hcb2⟩ := (need 14 (by kernel_rfl) (by kernel_rfl)).1 rfl
        have e1 : a.tmps[45]?.getD undef = .slice A2 L.length L.length := by
          rw [← Array.getD_eq_getD_getElem?]
          exact e1'
        obtain ⟨_, _, _, _, _, ⟨v, cv⟩, cf⟩ := hM1.facts hi x.isLt
        have hLe : L = L0 := hL.out
        have hM2 := hM1.lay (x := x.val) hcb2 (by rw [hLe]; exact hl2) hKs hown
        have hle : l'.set x.val L = (lays S.bl[i].pages (List.replicate S.np []) pre).set x.val L0 := by
          rcases hll with e | e
          · rw [e, hLe]
          · rw [e, hLe, List.set_set]
        rw [hle] at hM2
        have hgK : g i ≠ K + 1 := fun e => by have := hown (g i) (.inr (.inr (.inl ⟨i, hi, rfl⟩))); omega
        refine op_skip (wanted_none rfl) (w' := w1.setCell ⟨K + 1, x.val, none⟩ (.slice A2 L.length L.length)) ?_ (hK _ _ ⟨fun e => absurd e (by decide), fun _ => hM2, fun _ e => absurd rfl e⟩ ⟨⟨_, .inr rfl, hM2⟩, ?_, ?_, ?_⟩ ⟨by simp, fun b hb _ => Below.heap_setCell _ ⟨K + 1, x.val, none⟩ _ b (Nat.ne_of_gt hb), fun _ => hM2⟩)
        · simp [execOp, go_sem, e0, e1, cv, cf]
        · exact (World.cell?_of_block (a := ⟨g i, x.val, none⟩) (Below.heap_setCell _ ⟨K + 1, x.val, none⟩ _ _ hgK)).trans hcp
        · exact hcb1.keep (fun b hb => Below.heap_setCell _ ⟨K + 1, x.val, none⟩ _ b (fun e => by have h3 : b = K + 1 := e; have h4 := hown b (.inr (.inr (.inr hb))); omega)) fun _ h => h
        · exact hkf.trans ((KeepsOthers.setCell _ _ _).from _)
    case hend =>
      intro a w' hG _ _ hφ _
      have h16 := (hφ 16 (by kernel_rfl)).2.1 rfl
      rw [← HL1.out] at h16
      refine ⟨hG.2.2.2, trivial, ?_⟩
      show BMid w w' p q cap g C S i S.bl[i] K (lays S.bl[i].pages (List.replicate S.np []) (pre ++ [x]))
      rw [lays_snoc]
      exact h16
  case hdone =>
    rintro D ys W hD rfl hM hK
    rw [lays_all _ _ hlen (by simp)] at hM
    obtain ⟨v0, v1, v2, v3⟩ := cells4 hM.var
    obtain ⟨r0, r1, r2, r3⟩ := cells4 hM.res
    have f0 := frozen10 hM.res 0
    have f1 := frozen10 hM.res 1
    have f2 := frozen10 hM.res 2
    have f3 := frozen10 hM.res 3
    gi_wp2
    exact hM.leave (by have := H2.out; have h3 := lt_size this.plain.choose_spec.choose_spec; omega) hK (by omega) _ rfl
  case hstop =>
    rintro D c pre W hD hpre h hK
    exact h.elim
theorem block_any (i : Int) (h : LAt w p q cap g C S) : Calls Try.prog 25 #[.pointer (some ⟨p, 0, none⟩), .int .i64 i] w (BlockPost (tellB S i) w) := by
  cases hi : isL S i with
  | false =>
    have e : tellB S i = noB := by simp [tellB, hi]
    rw [e]
    exact block_out i h hi
  | true =>
    have hi' := hi
    obtain ⟨k, rfl, hk⟩ := isL_nat hi
    have e : tellB S k = S.bl[k] := by simp only [tellB, hi', if_true, blkL_at hk]
    rw [e]
    exact block_in k h hk
end
end Go.Proofs.Yteghegojhhoppaa
