/- The landed chip: New. -/
import Derived.Test.YteghegojhhoppaaLBlock
namespace Go.Proofs.Yteghegojhhoppaa
open Go.RowKit Go.Shelf

attribute [local go_sem] Oper.semAt_some

section
variable {w : World}
theorem new_no (bs ps : Int) (A : Option Addr) (m c : Nat) (h : ¬ (1 ≤ bs ∧ bs ≤ 64 ∧ 1 ≤ ps ∧ ps ≤ 32)) : Calls Try.prog 12 #[.int .i64 bs, .int .i64 ps, .slice A m c] w fun e w' => e = .returned (.pointer none) ∧ Below w.heap.size w w' := by
  refine callsIn_wide.1 (callsIn_of_wp_marks (n := 3) Try.func12 rfl trivial ?_ rfl)
  simp only [Try.ntmps12, List.size_toArray, List.length_cons, List.length_nil, Nat.reduceAdd, Nat.reduceSub, Array.replicate_succ, Array.replicate_zero, List.push_toArray, List.append_toArray, List.nil_append, List.cons_append]
  by_cases h1 : 1 ≤ bs ∧ bs ≤ 64
  · have d1 : decide (1 ≤ bs ∧ bs ≤ 64) = true := by simpa using h1
    have d2 : decide (1 ≤ ps ∧ ps ≤ 32) = false := by simp; omega
    gi_wp2_with (refine ⟨trivial, ?_⟩; (try refine ⟨wide_depth _, ?_⟩); gi_at_call 17; refine (callsIn_wide.2 (within_any _ _ _)).mono ?_; rintro e w1 ⟨rfl, hw1⟩; obtain rfl := hw1; first | rw [d1] | rw [d2])
    exact ⟨_, results_tmp rfl _ _ _, rfl, (Below.refl _ w).alloc (Nat.le_refl _) _⟩
  · have d1 : decide (1 ≤ bs ∧ bs ≤ 64) = false := by simp; omega
    gi_wp2_with (refine ⟨trivial, ?_⟩; (try refine ⟨wide_depth _, ?_⟩); gi_at_call 17; refine (callsIn_wide.2 (within_any _ _ _)).mono ?_; rintro e w1 ⟨rfl, hw1⟩; obtain rfl := hw1; rw [d1])
    refine ⟨trivial, ?_⟩
    rename_i K hK
    refine hK _ _ ?_
    gi_wp2
    exact ⟨_, results_tmp rfl _ _ _, rfl, (Below.refl _ w).alloc (Nat.le_refl _) _⟩
theorem info_block : (Try.prog.info? 27).map (fun i => (i.zero, i.size, i.bytes)) = some (some (.agg #[.bool false, .int .i64 0, .int .i64 0, .slice none 0 0]), 4, 48) := by kernel_rfl
theorem make_blocks (n : Nat) (h : n ≤ 64) (w : World) : (Instr.makeSlice 22 (.int .i64 n) (.int .i64 n)).run Try.prog w = .ok (.slice (some ⟨w.heap.size, 0, none⟩) n n) (w.alloc (.cells (madeCells #[.bool false, .int .i64 0, .int .i64 0, .slice none 0 0] (n * 4)) 27)) := by
  obtain ⟨i, hi, hz, hs, hb⟩ := info_parts info_block
  have := run_make (P := Try.prog) w 22 27 i _ Try.underlying22 hi hz .i64 .i64 n n (by omega) (Int.le_refl _) (by rw [hb]; omega) (by omega)
  simp only [Int.toNat_natCast, hs] at this
  exact this
def newBk (np : Nat) : Bk := ⟨false, 0, 0, List.replicate np []⟩
def newS (n np : Nat) : LS := ⟨List.replicate n (newBk np), np, 0, 0, 0, false, ⟨false, 0⟩, ⟨false, 0⟩, ⟨false, 0⟩, 0⟩
/-- New's walk: two boxes, the struct, the row of blocks, the pages of those that are laid. -/
structure NMid (w W : World) (p q k n np : Nat) (g : Nat → Nat) (L : Nat → Prop) : Prop where
  boxN : Boxed W w.heap.size 3 (.int .i64 np)
  boxC : Boxed W k 36 (.pointer (some ⟨p, 0, none⟩))
  self : W.heap[p]? = some (.cells ((newS n np).cells q n) 53 (0, 0))
  plain : ∃ cs t, W.heap[q]? = some (.cells cs t (0, 0))
  cells : ∀ i, i < n → W.cell? ⟨q, i * 4, none⟩ = some (.bool false) ∧ W.cell? ⟨q, i * 4 + 1, none⟩ = some (.int .i64 0) ∧ W.cell? ⟨q, i * 4 + 2, none⟩ = some (.int .i64 0) ∧ ∃ v, W.cell? ⟨q, i * 4 + 3, none⟩ = some v
  laid : ∀ i, i < n → L i → W.cell? ⟨q, i * 4 + 3, none⟩ = some (.slice (some ⟨g i, 0, none⟩) np np) ∧ W.heap[g i]? = some (.cells (madeCells #[Value.slice none 0 0] np) 43 (0, 0)) ∧ w.heap.size + 3 < g i
  inj : ∀ i j, i < n → j < n → L i → L j → g i = g j → i = j
  below : Below w.heap.size w W
/-- Where the three stand. -/
structure NAt (w : World) (p q k : Nat) : Prop where
  p0 : w.heap.size < p ∧ p ≤ w.heap.size + 3
  q0 : w.heap.size < q ∧ q ≤ w.heap.size + 3
  k0 : w.heap.size < k ∧ k ≤ w.heap.size + 3
  pq : p ≠ q
  pk : p ≠ k
  qk : q ≠ k
section
variable {W W' : World} {p q k n np : Nat} {g : Nat → Nat} {L : Nat → Prop}
theorem NMid.more (h : NMid w W p q k n np g L) (hb : Below W.heap.size W W') : NMid w W' p q k n np g L where
  boxN := (hb.block _ h.boxN.lt).trans h.boxN
  boxC := (hb.block _ h.boxC.lt).trans h.boxC
  self := (hb.block _ (lt_size h.self)).trans h.self
  plain := by obtain ⟨cs, t, e⟩ := h.plain; exact ⟨cs, t, (hb.block _ (lt_size e)).trans e⟩
  cells := fun i hi => by
    obtain ⟨cs, t, e⟩ := h.plain
    obtain ⟨h1, h2, h3, v, h4⟩ := h.cells i hi
    have hq := hb.block _ (lt_size e)
    exact ⟨(World.cell?_of_block (a := ⟨q, i * 4, none⟩) hq).trans h1, (World.cell?_of_block (a := ⟨q, i * 4 + 1, none⟩) hq).trans h2, (World.cell?_of_block (a := ⟨q, i * 4 + 2, none⟩) hq).trans h3, v, (World.cell?_of_block (a := ⟨q, i * 4 + 3, none⟩) hq).trans h4⟩
  laid := fun i hi hl => by
    obtain ⟨cs, t, e⟩ := h.plain
    obtain ⟨h1, h2, h3⟩ := h.laid i hi hl
    exact ⟨(World.cell?_of_block (a := ⟨q, i * 4 + 3, none⟩) (hb.block _ (lt_size e))).trans h1, (hb.block _ (lt_size h2)).trans h2, h3⟩
  inj := h.inj
  below := h.below.trans (hb.mono h.below.size)
theorem NMid.grown {row : Option Nat} (h : NMid w W p q k n np g L) (hg : W.grownBy W' row) (hr : ∀ r, row = some r → w.heap.size ≤ r ∧ ∃ o : Obj, W.heap[r]? = some o ∧ o.isCells = false) : NMid w W' p q k n np g L :=
  have hr' := fun r e => (hr r e).2
  { boxN := (kept_cells h.boxN hg hr').trans h.boxN
    boxC := (kept_cells h.boxC hg hr').trans h.boxC
    self := (kept_cells h.self hg hr').trans h.self
    plain := by obtain ⟨cs, t, e⟩ := h.plain; exact ⟨cs, t, (kept_cells e hg hr').trans e⟩
    cells := fun i hi => by
      obtain ⟨h1, h2, h3, v, h4⟩ := h.cells i hi
      exact ⟨cell_kept h1 hg hr', cell_kept h2 hg hr', cell_kept h3 hg hr', v, cell_kept h4 hg hr'⟩
    laid := fun i hi hl => by
      obtain ⟨h1, h2, h3⟩ := h.laid i hi hl
      exact ⟨cell_kept h1 hg hr', (kept_cells h2 hg hr').trans h2, h3⟩
    inj := h.inj
    below := h.below.grown hg h.below.size (fun b e => (hr b e).1) }
theorem NMid.same {L' : Nat → Prop} (h : NMid w W p q k n np g L) (hL : ∀ j, j < n → (L j ↔ L' j)) : NMid w W p q k n np g L' :=
  { h with
    laid := fun i hi hl => h.laid i hi ((hL i hi).2 hl)
    inj := fun i j hi hj hl hm e => h.inj i j hi hj ((hL i hi).2 hl) ((hL j hj).2 hm) e }
theorem NMid.lt (h : NMid w W p q k n np g L) {i : Nat} (hi : i < n) (hl : L i) : g i < W.heap.size := lt_size (h.laid i hi hl).2.1
/-- Block x is laid. -/
theorem NMid.lay (h : NMid w W p q k n np g L) (ha : NAt w p q k) {x G : Nat} (hx : x < n) (hG : W.heap[G]? = some (.cells (madeCells #[Value.slice none 0 0] np) 43 (0, 0))) (hG2 : w.heap.size + 3 < G) (hne : ∀ j, j < n → L j → j ≠ x → g j ≠ G) :
    NMid w (W.setCell ⟨q, x * 4 + 3, none⟩ (.slice (some ⟨G, 0, none⟩) np np)) p q k n np (fun j => if j = x then G else g j) (fun j => L j ∨ j = x) := by
  have far : ∀ b, b ≠ q → (W.setCell ⟨q, x * 4 + 3, none⟩ (.slice (some ⟨G, 0, none⟩) np np)).heap[b]? = W.heap[b]? := fun b hb => Below.heap_setCell W ⟨q, x * 4 + 3, none⟩ _ b hb
  have oth : ∀ o, o ≠ x * 4 + 3 → (W.setCell ⟨q, x * 4 + 3, none⟩ (.slice (some ⟨G, 0, none⟩) np np)).cell? ⟨q, o, none⟩ = W.cell? ⟨q, o, none⟩ := fun o ho => World.cell?_setCell_other _ _ _ _ (fun e => ho (by simpa using e.symm))
  have same : (W.setCell ⟨q, x * 4 + 3, none⟩ (.slice (some ⟨G, 0, none⟩) np np)).cell? ⟨q, x * 4 + 3, none⟩ = some (.slice (some ⟨G, 0, none⟩) np np) := by
    obtain ⟨_, _, _, v, h4⟩ := h.cells x hx
    exact World.cell?_setCell_same _ _ _ h4
  have hq := ha.q0
  exact {
    boxN := (far _ (by omega)).trans h.boxN
    boxC := (far _ ha.qk.symm).trans h.boxC
    self := (far _ ha.pq).trans h.self
    plain := by obtain ⟨cs, t, e⟩ := h.plain; exact ⟨_, t, heap_setCell_same W q _ cs t _ e⟩
    cells := fun i hi => by
      obtain ⟨h1, h2, h3, v, h4⟩ := h.cells i hi
      refine ⟨(oth _ (by omega)).trans h1, (oth _ (by omega)).trans h2, (oth _ (by omega)).trans h3, ?_⟩
      by_cases e : i = x
      · subst e; exact ⟨_, same⟩
      · exact ⟨v, (oth _ (by omega)).trans h4⟩
    laid := fun i hi hl => by
      by_cases e : i = x
      · subst e
        simp only [if_true]
        exact ⟨same, (far _ (by omega)).trans hG, hG2⟩
      · simp only [if_neg e]
        obtain ⟨h1, h2, h3⟩ := h.laid i hi (hl.resolve_right e)
        exact ⟨(oth _ (by omega)).trans h1, (far _ (by omega)).trans h2, h3⟩
    inj := fun i j hi hj hl hm e => by
      by_cases e1 : i = x
      · by_cases e2 : j = x
        · rw [e1, e2]
        · subst e1
          simp only [if_true, if_neg e2] at e
          exact absurd e.symm (hne j hj (hm.resolve_right e2) e2)
      · by_cases e2 : j = x
        · subst e2
          simp only [if_true, if_neg e1] at e
          exact absurd e (hne i hi (hl.resolve_right e1) e1)
        · simp only [if_neg e1, if_neg e2] at e
          exact h.inj i j hi hj (hl.resolve_right e1) (hm.resolve_right e2) e
    below := h.below.setCell (p := ⟨q, x * 4 + 3, none⟩) (by show w.heap.size ≤ q; omega) _ }
/-- All are laid: a chip. -/
theorem NMid.chip (h : NMid w W p q k n np g L) (ha : NAt w p q k) (hL : ∀ i, i < n → L i) (h2 : n ≤ 64) (h3 : 1 ≤ np) (h4 : np ≤ 32) : LAt W p q n g (fun _ => False) (newS n np) where
  self := h.self
  plain := h.plain
  blocks := fun i hi => by
    have hi' : i < n := by simpa [newS] using hi
    obtain ⟨h1, h2', h3', v, h4'⟩ := h.cells i hi'
    obtain ⟨l1, l2, l3⟩ := h.laid i hi' (hL i hi')
    have eb : (newS n np).bl[i] = newBk np := by simp [newS]
    rw [eb]
    exact {
      bad := h1, next := h2', count := h3', row := l1
      len := by simp [newBk, newS]
      plain := ⟨_, _, l2⟩
      pages := fun j hj => ⟨none, 0, by
        have hj' : j < np := by simpa [newBk] using hj
        simp [newBk, World.cell?, l2, made_nils, hj'], by simp [newBk], by simp [newBk], by simpa [newBk] using CB.nil⟩
      nextIn := ⟨Int.le_refl 0, by show (0 : Int) ≤ (np : Int); omega⟩ }
  ne := ha.pq
  gp := fun i hi => by
    have hi' : i < n := by simpa [newS] using hi
    obtain ⟨_, _, l3⟩ := h.laid i hi' (hL i hi')
    have := ha.p0; have := ha.q0
    exact ⟨by omega, by omega⟩
  gg := fun i j hi hj e => h.inj i j (by simpa [newS] using hi) (by simpa [newS] using hj) (hL i (by simpa [newS] using hi)) (hL j (by simpa [newS] using hj)) e
  cp := fun b hb => hb.elim
  cl := fun b hb => hb.elim
  cap := by simp [newS]
  small := ⟨by simpa [newS] using h2, h3, h4⟩
  ints := by simp [newS]
theorem NMid.facts (h : NMid w W p q k n np g L) {x : Nat} (hx : x < n) :
    W.cell? ⟨w.heap.size, 0, none⟩ = some (.int .i64 np) ∧ W.cell? ⟨k, 0, none⟩ = some (.pointer (some ⟨p, 0, none⟩)) ∧ W.cell? ⟨p, 0, none⟩ = some (.slice (some ⟨q, 0, none⟩) n n) ∧ (∃ v, W.cell? ⟨q, x * 4 + 3, none⟩ = some v) ∧ W.frozen? ⟨q, x * 4 + 3, none⟩ = false := by
  obtain ⟨c0, _⟩ := cells13 h.self
  obtain ⟨cs, t, e⟩ := h.plain
  exact ⟨h.boxN.cell, h.boxC.cell, by simpa [newS] using c0, (h.cells x hx).2.2.2, frozen10 e _⟩
end
theorem at_alloc4 (w : World) (o1 o2 o3 o4 : Obj) : ∃ W, W = (((w.alloc o1).alloc o2).alloc o3).alloc o4 ∧ W.heap.size = w.heap.size + 4 ∧ W.heap[w.heap.size]? = some o1 ∧ W.heap[w.heap.size + 1]? = some o2 ∧ W.heap[w.heap.size + 1 + 1]? = some o3 ∧ W.heap[w.heap.size + 1 + 1 + 1]? = some o4 ∧ Below w.heap.size w W := by
  refine ⟨_, rfl, by simp, ?_, ?_, ?_, ?_, ((((Below.refl _ w).alloc (Nat.le_refl _) _).alloc (by simp) _).alloc (by simp; omega) _).alloc (by simp; omega) _⟩
  · rw [heap_alloc_old _ _ (by simp; omega), heap_alloc_old _ _ (by simp; omega), heap_alloc_old _ _ (by simp), heap_alloc_new]
  · rw [heap_alloc_old _ _ (by simp), heap_alloc_old _ _ (by simp)]
    have := heap_alloc_new (w.alloc o1) o2
    rwa [World.size_alloc] at this
  · rw [heap_alloc_old _ _ (by simp)]
    have := heap_alloc_new ((w.alloc o1).alloc o2) o3
    simpa only [World.size_alloc] using this
  · have := heap_alloc_new (((w.alloc o1).alloc o2).alloc o3) o4
    simpa only [World.size_alloc] using this
theorem new_start {W : World} {p q k n np : Nat} (hN : W.heap[w.heap.size]? = some (.cells #[.int .i64 (np : Int)] 3 (0, 0))) (hC : W.heap[k]? = some (.cells #[.pointer (some ⟨p, 0, none⟩)] 36 (0, 0)))
    (hS : W.heap[p]? = some (.cells #[.slice (some ⟨q, 0, none⟩) n n, .int .i64 (np : Int), .int .i64 0, .int .i64 0, .int .i64 0, .bool false, .bool false, .int .i64 0, .bool false, .int .i64 0, .bool false, .int .i64 0, .int .i64 0] 53 (0, 0)))
    (hQ : W.heap[q]? = some (.cells (madeCells #[.bool false, .int .i64 0, .int .i64 0, .slice none 0 0] (n * 4)) 27 (0, 0))) (hb : Below w.heap.size w W) : NMid w W p q k n np (fun _ => 0) (fun _ => False) := by
  exact {
    boxN := hN, boxC := hC
    self := by rw [hS]; simp [newS, LS.cells]
    plain := ⟨_, _, hQ⟩
    cells := fun i hi => by
      have e : ∀ m, m < 4 → W.cell? ⟨q, i * 4 + m, none⟩ = #[Value.bool false, .int .i64 0, .int .i64 0, .slice none 0 0][m]? := fun m hm => by
        have h1 : i * 4 + m < n * 4 := by omega
        have h2 : (i * 4 + m) % 4 = m := by omega
        have h3 : m = 0 ∨ m = 1 ∨ m = 2 ∨ m = 3 := by omega
        rcases h3 with rfl | rfl | rfl | rfl
        · simp at h1 h2
          simp [World.cell?, hQ, madeCells, h1]
        · simp [World.cell?, hQ, madeCells, h1, h2]
        · simp [World.cell?, hQ, madeCells, h1, h2]
        · simp [World.cell?, hQ, madeCells, h1, h2]
      exact ⟨by simpa using e 0 (by omega), by simpa using e 1 (by omega), by simpa using e 2 (by omega), _, by simpa using e 3 (by omega)⟩
    laid := fun i _ hl => hl.elim
    inj := fun i j _ _ hl => hl.elim
    below := hb }
/-- Ints that came in. -/
def IntsArg (w : World) (A : Option Addr) (l : List Int) : Prop := 0 < l.length → ∃ B o, A = some ⟨B, o, none⟩ ∧ B < w.heap.size ∧ ∀ j (h : j < l.length), w.cell? ⟨B, o + j, none⟩ = some (.int .i64 l[j])
def badOne (bl : List Bk) (b : Int) : List Bk := if 0 ≤ b ∧ b < (bl.length : Int) then bl.set b.toNat { bl.getD b.toNat noB with bad := true } else bl
def badL (bl : List Bk) (l : List Int) : List Bk := l.foldl badOne bl
theorem badL_snoc (bl : List Bk) (l : List Int) (b : Int) : badL bl (l ++ [b]) = badOne (badL bl l) b := by simp [badL]
theorem badOne_length (bl : List Bk) (b : Int) : (badOne bl b).length = bl.length := by unfold badOne; split <;> simp
theorem badL_length (bl : List Bk) (l : List Int) : (badL bl l).length = bl.length := by
  induction l generalizing bl with
  | nil => rfl
  | cons x l ih => exact (ih (badOne bl x)).trans (badOne_length bl x)
theorem take_snoc {l : List Int} {j : Nat} (h : j < l.length) : l.take (j + 1) = l.take j ++ [l[j]] := by
  rw [List.take_add_one, List.getElem?_eq_getElem h]; rfl
def madeS (n np : Nat) (l : List Int) : LS := { newS n np with bl := badL (newS n np).bl l }
structure BadMid (w W : World) (D p q k n np : Nat) (g : Nat → Nat) (l : List Int) : Prop where
  chip : LAt W p q n g (fun _ => False) (madeS n np l)
  boxC : Boxed W k 36 (.pointer (some ⟨p, 0, none⟩))
  below : Below w.heap.size w W
  dfr : W.heap[D]? = some (.deferred (some []))
theorem BadMid.skip {W : World} {D p q k n np : Nat} {g : Nat → Nat} {l : List Int} {b : Int} (h : BadMid w W D p q k n np g l) (hi : isL (madeS n np l) b = false) : BadMid w W D p q k n np g (l ++ [b]) := by
  have e : madeS n np (l ++ [b]) = madeS n np l := by
    unfold madeS
    rw [badL_snoc]
    have : badOne (badL (newS n np).bl l) b = badL (newS n np).bl l := by
      unfold badOne
      rw [if_neg (show ¬ (0 ≤ b ∧ b < ((badL (newS n np).bl l).length : Int)) from of_decide_eq_false hi)]
    rw [this]
  exact ⟨by rw [e]; exact h.chip, h.boxC, h.below, h.dfr⟩
theorem BadMid.mark {W : World} {D p q k n np : Nat} {g : Nat → Nat} {l : List Int} {i : Nat} (h : BadMid w W D p q k n np g l) (hi : i < (madeS n np l).bl.length) (hq : w.heap.size ≤ q) (hqD : q < D) (hk : k ≠ q) : BadMid w (W.setCell ⟨q, i * 4, none⟩ (.bool true)) D p q k n np g (l ++ [(i : Int)]) := by
  have e : madeS n np (l ++ [(i : Int)]) = { madeS n np l with bl := (madeS n np l).bl.set i { (madeS n np l).bl[i] with bad := true } } := by
    unfold madeS
    rw [badL_snoc]
    have hi' : i < (badL (newS n np).bl l).length := hi
    have : badOne (badL (newS n np).bl l) (i : Int) = (badL (newS n np).bl l).set i { (badL (newS n np).bl l)[i] with bad := true } := by
      unfold badOne
      rw [if_pos ⟨by omega, by omega⟩]
      simp [List.getD, List.getElem?_eq_getElem hi']
    rw [this]
    rfl
  have far : ∀ b, b ≠ q → (W.setCell ⟨q, i * 4, none⟩ (.bool true)).heap[b]? = W.heap[b]? := fun b hb => Below.heap_setCell W ⟨q, i * 4, none⟩ _ b hb
  exact ⟨by rw [e]; exact h.chip.row_set (m := 0) (b := { (madeS n np l).bl[i] with bad := true }) hi (by omega) rfl (h.chip.blocks i hi).nextIn rfl rfl rfl,
    (far _ hk).trans h.boxC, h.below.setCell (p := ⟨q, i * 4, none⟩) hq _, (far _ (by omega)).trans h.dfr⟩
/-- What New tells and leaves. -/
def NewPost (n np : Nat) (l : List Int) (w : World) (e : Ending) (w' : World) : Prop :=
  ∃ p q g, e = .returned (.pointer (some ⟨p, 0, none⟩)) ∧ LAt w' p q n g (fun _ => False) (madeS n np l) ∧ (∀ b, Own p q g (fun _ => False) n b → w.heap.size ≤ b) ∧ Below w.heap.size w w'
theorem BadMid.leave {W : World} {D p q k n np m : Nat} {g : Nat → Nat} {l : List Int} (h : BadMid w W D p q k n np g l) (hD : w.heap.size ≤ D) (ho : ∀ b, Go.Proofs.Yteghegojhhoppaa.Own p q g (fun _ => False) n b → w.heap.size ≤ b) (tmps : Array Value) (ht : tmps.getD 6 undef = .pointer (some ⟨p, 0, none⟩)) :
    LeavesInM Fence.wide m Try.prog Try.f12 tmps (NewPost n np l w) [{ target := Target.collected D, args := #[] }] .returning W := by
  refine ⟨by simp, .inl ⟨_, _, rfl, run_takeDeferred h.dfr, ?_⟩⟩
  have hg := grownBy_putObj' W D (.deferred none)
  have hrow : ∀ r, some D = some r → ∃ o : Obj, W.heap[r]? = some o ∧ o.isCells = false := fun r e => by cases e; exact ⟨_, h.dfr, rfl⟩
  refine ⟨_, results_tmp rfl _ _ _, p, q, g, by rw [ht], h.chip.grown hg hrow, ho, h.below.grown hg h.below.size (fun b e => by cases e; exact hD)⟩
set_option maxRecDepth 100000 in
set_option maxHeartbeats 4000000 in
theorem new_yes (n np : Nat) (A : Option Addr) (c : Nat) (l : List Int) (hA : IntsArg w A l) (hlen : l.length ≤ 1000000) (h1 : 1 ≤ n) (h2 : n ≤ 64) (h3 : 1 ≤ np) (h4 : np ≤ 32) : Calls Try.prog 12 #[.int .i64 n, .int .i64 np, .slice A l.length c] w (NewPost n np l w) := by
  refine callsIn_wide.1 (callsIn_of_wp_marks (n := 3) Try.func12 rfl trivial ?_ rfl)
  simp only [Try.ntmps12, List.size_toArray, List.length_cons, List.length_nil, Nat.reduceAdd, Nat.reduceSub, Array.replicate_succ, Array.replicate_zero, List.push_toArray, List.append_toArray, List.nil_append, List.cons_append]
  have d1 : decide (1 ≤ (n : Int) ∧ (n : Int) ≤ 64) = true := by simp; omega
  have d2 : decide (1 ≤ (np : Int) ∧ (np : Int) ≤ 32) = true := by simp; omega
  have hmk := make_blocks n h2
  gi_wp2_with (refine ⟨trivial, ?_⟩; (try refine ⟨wide_depth _, ?_⟩); gi_at_call 17; refine (callsIn_wide.2 (within_any _ _ _)).mono ?_; rintro e w1 ⟨rfl, hw1⟩; obtain rfl := hw1; first | rw [d1] | rw [d2])
  gi_region
  · gi_wp2_with (refine ⟨trivial, ?_⟩; (try refine ⟨wide_depth _, ?_⟩); gi_at_call 18; refine (callsIn_wide.2 (turn_any _ _ _)).mono ?_; rintro e w1 ⟨rfl, rfl⟩)
    refine wpIn_world ?_
    intro W2 hW2
    obtain ⟨bN, bF, hM, ha⟩ : Boxed W2 (w.heap.size + 1 + 1 + 1 + 1) 3 (.int .i64 (n : Int)) ∧ Boxed W2 (w.heap.size + 1 + 1 + 1 + 1 + 1) 3 (.int .i64 0) ∧ NMid w W2 (w.heap.size + 1 + 1) (w.heap.size + 1) (w.heap.size + 1 + 1 + 1) n np (fun _ => 0) (fun _ => False) ∧ NAt w (w.heap.size + 1 + 1) (w.heap.size + 1) (w.heap.size + 1 + 1 + 1) := by
      obtain ⟨W4, hW4, hs4, f0, f1, f2, f3, hb4⟩ := at_alloc4 w (.cells #[.int .i64 (np : Int)] 3) (.cells (madeCells #[.bool false, .int .i64 0, .int .i64 0, .slice none 0 0] (n * 4)) 27) (.cells #[.slice (some ⟨w.heap.size + 1, 0, none⟩) n n, .int .i64 (np : Int), .int .i64 0, .int .i64 0, .int .i64 0, .bool false, .bool false, .int .i64 0, .bool false, .int .i64 0, .bool false, .int .i64 0, .int .i64 0] 53) (.cells #[.pointer (some ⟨w.heap.size + 1 + 1, 0, none⟩)] 36)
      rw [← hW4] at hW2
      have ha : NAt w (w.heap.size + 1 + 1) (w.heap.size + 1) (w.heap.size + 1 + 1 + 1) := by constructor <;> omega
      have hb2 : Below W4.heap.size W4 W2 := by rw [hW2]; exact (((Below.refl _ W4).alloc (Nat.le_refl _) _).alloc (by simp) _).drew
      have b1 := Boxed.new W4 3 (.int .i64 (n : Int))
      have b2 := Boxed.new (W4.alloc (.cells #[.int .i64 (n : Int)] 3)) 3 (.int .i64 0)
      rw [World.size_alloc] at b2
      rw [hs4] at b1 b2
      exact ⟨by rw [hW2]; exact b1.alloc _, by rw [hW2]; exact b2, (new_start f0 f3 f2 f1 hb4).more hb2, ha⟩
    clear hW2
    have HS := Lib.hid (show w.heap.size + 6 ≤ W2.heap.size from by have := bF.lt; omega)
    revert bN bF hM ha
    generalize e1 : w.heap.size + 1 = a1
    generalize e2 : a1 + 1 = a2
    generalize e3 : a2 + 1 = a3
    generalize e4 : a3 + 1 = a4
    generalize e5 : a4 + 1 = a5
    intro bN bF hM ha
    have HW4 := Lib.hid (show a1 = w.heap.size + 1 ∧ a2 = w.heap.size + 2 ∧ a3 = w.heap.size + 3 from by omega)
    have H2 := Lib.hid hM
    have HA := Lib.hid ha
    clear e1 e2 e3 e4 e5 hM ha
    apply wpIn_rangeFunc_ownG rfl (n := 3) (by omega) (gf := 26) (lb := #[.pointer (some ⟨a4, 0, none⟩), .pointer (some ⟨a5, 0, none⟩)]) rfl trivial enters_turn
      (turn_fin_stops (N := n) (fun _ _ => True) (3 - 1) _ _ (by omega) h1 W2 bN bF) (fun _ _ => trivial) (fun _ _ _ _ _ _ _ _ => trivial) (Below.refl _ _) (fun _ => rfl)
      (fun pre W => ∃ g, NMid w W a2 a1 a3 n np g (fun j => ∃ y ∈ pre, y.val = j) ∧ W2.heap.size ≤ W.heap.size)
      (fun _ _ _ => False)
      ?own ?ownx ?start
    case own => exact fun s X Y row ⟨g, hs, hz⟩ hg hr => ⟨g, hs.grown hg (fun r e => ⟨by have := (hr r e).1; have := HS.out; omega, (hr r e).2⟩), Nat.le_trans hz hg.size⟩
    case ownx => exact fun _ _ _ _ _ h _ _ => h
    case start => exact ⟨_, H2.out.same (fun j _ => ⟨fun h => h.elim, fun ⟨y, hy, _⟩ => by cases hy⟩), Nat.le_refl _⟩
    case hassign =>
      intro l x W K hK
      gi_wp2
      exact hK
    case hbody =>
      rintro l pre x W ⟨g0, hM, hz⟩ hlt
      have HWS := Lib.hid (show w.heap.size + 6 ≤ W.heap.size from Nat.le_trans HS.out hz)
      have HZ := Lib.hid hz
      clear hz
      have hx := x.isLt
      have hgb : ∀ j, j < n → (∃ y ∈ pre, y.val = j) → g0 j < W.heap.size := fun j hj hl => hM.lt hj hl
      have hmp := make_pages np (by omega)
      gi_wp2
      refine region_inv_in (fun j v w' => (j = 6 → ∃ G, v = .slice (some ⟨G, 0, none⟩) np np ∧ w'.heap[G]? = some (.cells (madeCells #[Value.slice none 0 0] np) 43 (0, 0)) ∧ W.heap.size ≤ G) ∧ (j = 9 → ∃ g', NMid w w' a2 a1 a3 n np g' (fun j => ∃ y ∈ pre ++ [x], y.val = j)) ∧ (j ≠ 6 → j ≠ 9 → v = (match j with | 0 => .pointer (some ⟨a2, 0, none⟩) | 1 => .pointer (some ⟨a2, 0, none⟩) | 2 => .pointer (some ⟨a2, 0, none⟩) | 3 => .slice (some ⟨a1, 0, none⟩) n n | 4 => .int .i64 (x.val : Int) | 5 => .int .i64 (np : Int) | 7 => .pointer (some ⟨a1, x.val * 4, none⟩) | 8 => .pointer (some ⟨a1, x.val * 4 + 3, none⟩) | _ => undef : Value)))
        (fun w' => (∃ g' L', NMid w w' a2 a1 a3 n np g' L' ∧ ∀ j, j ≠ x.val → (L' j ↔ ∃ y ∈ pre, y.val = j) ∧ g' j = g0 j) ∧ KeepsFrom W2.heap.size W w')
        (fun w1 w2 => w1.heap.size ≤ w2.heap.size ∧ (∀ b, w.heap.size + 3 < b → b < w1.heap.size → w2.heap[b]? = w1.heap[b]?) ∧ ((∃ g', NMid w w1 a2 a1 a3 n np g' (fun j => ∃ y ∈ pre ++ [x], y.val = j)) → ∃ g', NMid w w2 a2 a1 a3 n np g' (fun j => ∃ y ∈ pre ++ [x], y.val = j)))
        (by kernel_rfl) (by kernel_rfl) (by kernel_rfl) (by kernel_rfl) ?hR ?hG ?hops ?hend
      case hR =>
        intro j v w1 w2 ⟨h1, h2, h3⟩ ⟨r1, r2, r3⟩
        refine ⟨fun e => ?_, fun e => r3 (h2 e), h3⟩
        obtain ⟨G, e1, e2, e3⟩ := h1 e
        exact ⟨G, e1, (r2 G (by have := HWS.out; omega) (lt_size e2)).trans e2, e3⟩
      case hG => exact ⟨⟨g0, _, hM.more (Below.refl _ _).drew, fun _ _ => ⟨Iff.rfl, rfl⟩⟩, keepsFrom_below (Below.refl _ _).drew⟩
      case hops =>
        refine OpsOk.cons ?o0 (OpsOk.cons ?o1 (OpsOk.cons ?o2 (OpsOk.cons ?o3 (OpsOk.cons ?o4 (OpsOk.cons ?o5 (OpsOk.cons ?o6 (OpsOk.cons ?o7 (OpsOk.cons ?o8 (OpsOk.cons ?o9 (OpsOk.nil))))))))))
        case o0 =>
          intro a w1 Kx hG need old hsz hK
          obtain ⟨⟨g', L', hM1, hj⟩, hkf⟩ := hG
          obtain ⟨cN, cK, c0, ⟨v, cv⟩, cf⟩ := hM1.facts x.isLt
          have e0 : a.tmps[7]?.getD undef = .pointer (some ⟨a3, 0, none⟩) := by
            rw [← Array.getD_eq_getD_getElem?]
            exact old 7 (by kernel_rfl)
          refine op_value (v := .pointer (some ⟨a2, 0, none⟩)) (wanted_none rfl) ?_ (hK _ w1 ⟨fun e => absurd e (by decide), fun e => absurd e (by decide), fun _ _ => rfl⟩ ⟨⟨g', L', hM1, hj⟩, hkf⟩ ⟨Nat.le_refl _, fun _ _ _ => rfl, id⟩)
          simp [execOp, go_sem, e0, cK]
        case o1 =>
          intro a w1 Kx hG need old hsz hK
          obtain ⟨⟨g', L', hM1, hj⟩, hkf⟩ := hG
          have e0 : a.tmps[27]?.getD undef = .pointer (some ⟨a2, 0, none⟩) := by
            rw [← Array.getD_eq_getD_getElem?]
            exact (need 0 (by kernel_rfl) (by kernel_rfl)).2.2 (by decide) (by decide)
          refine op_value (v := .pointer (some ⟨a2, 0, none⟩)) (wanted_none rfl) ?_ (hK _ w1 ⟨fun e => absurd e (by decide), fun e => absurd e (by decide), fun _ _ => rfl⟩ ⟨⟨g', L', hM1, hj⟩, hkf⟩ ⟨Nat.le_refl _, fun _ _ _ => rfl, id⟩)
          simp [execOp, go_sem, e0]
        case o2 =>
          intro a w1 Kx hG need old hsz hK
          obtain ⟨⟨g', L', hM1, hj⟩, hkf⟩ := hG
          have e0 : a.tmps[28]?.getD undef = .pointer (some ⟨a2, 0, none⟩) := by
            rw [← Array.getD_eq_getD_getElem?]
            exact (need 1 (by kernel_rfl) (by kernel_rfl)).2.2 (by decide) (by decide)
          refine op_value (v := .pointer (some ⟨a2, 0, none⟩)) (wanted_none rfl) ?_ (hK _ w1 ⟨fun e => absurd e (by decide), fun e => absurd e (by decide), fun _ _ => rfl⟩ ⟨⟨g', L', hM1, hj⟩, hkf⟩ ⟨Nat.le_refl _, fun _ _ _ => rfl, id⟩)
          simp [execOp, go_sem, e0]
        case o3 =>
          intro a w1 Kx hG need old hsz hK
          obtain ⟨⟨g', L', hM1, hj⟩, hkf⟩ := hG
          obtain ⟨cN, cK, c0, ⟨v, cv⟩, cf⟩ := hM1.facts x.isLt
          have e0 : a.tmps[29]?.getD undef = .pointer (some ⟨a2, 0, none⟩) := by
            rw [← Array.getD_eq_getD_getElem?]
            exact (need 2 (by kernel_rfl) (by kernel_rfl)).2.2 (by decide) (by decide)
          refine op_value (v := .slice (some ⟨a1, 0, none⟩) n n) (wanted_none rfl) ?_ (hK _ w1 ⟨fun e => absurd e (by decide), fun e => absurd e (by decide), fun _ _ => rfl⟩ ⟨⟨g', L', hM1, hj⟩, hkf⟩ ⟨Nat.le_refl _, fun _ _ _ => rfl, id⟩)
          simp [execOp, go_sem, e0, c0]
        case o4 =>
          intro a w1 Kx hG need old hsz hK
          obtain ⟨⟨g', L', hM1, hj⟩, hkf⟩ := hG
          have e0 : a.tmps[8]?.getD undef = .int .i64 (x.val : Int) := by
            rw [← Array.getD_eq_getD_getElem?]
            exact old 8 (by kernel_rfl)
          refine op_value (v := .int .i64 (x.val : Int)) (wanted_none rfl) ?_ (hK _ w1 ⟨fun e => absurd e (by decide), fun e => absurd e (by decide), fun _ _ => rfl⟩ ⟨⟨g', L', hM1, hj⟩, hkf⟩ ⟨Nat.le_refl _, fun _ _ _ => rfl, id⟩)
          simp [execOp, go_sem, e0]
        case o5 =>
          intro a w1 Kx hG need old hsz hK
          obtain ⟨⟨g', L', hM1, hj⟩, hkf⟩ := hG
          obtain ⟨cN, cK, c0, ⟨v, cv⟩, cf⟩ := hM1.facts x.isLt
          have e0 : a.tmps[4]?.getD undef = .pointer (some ⟨w.heap.size, 0, none⟩) := by
            rw [← Array.getD_eq_getD_getElem?]
            exact old 4 (by kernel_rfl)
          refine op_value (v := .int .i64 (np : Int)) (wanted_none rfl) ?_ (hK _ w1 ⟨fun e => absurd e (by decide), fun e => absurd e (by decide), fun _ _ => rfl⟩ ⟨⟨g', L', hM1, hj⟩, hkf⟩ ⟨Nat.le_refl _, fun _ _ _ => rfl, id⟩)
          simp [execOp, go_sem, e0, cN]
        case o6 =>
          intro a w1 Kx hG need old hsz hK
          obtain ⟨⟨g', L', hM1, hj⟩, hkf⟩ := hG
          have e0 : a.tmps[32]?.getD undef = .int .i64 (np : Int) := by
            rw [← Array.getD_eq_getD_getElem?]
            exact (need 5 (by kernel_rfl) (by kernel_rfl)).2.2 (by decide) (by decide)
          have hb := (Below.refl w1.heap.size w1).alloc (Nat.le_refl _) (.cells (madeCells #[Value.slice none 0 0] np) 43)
          refine op_value (v := .slice (some ⟨w1.heap.size, 0, none⟩) np np) (w' := w1.alloc (.cells (madeCells #[Value.slice none 0 0] np) 43)) (wanted_none rfl) ?_ (hK _ _ ⟨fun _ => ⟨w1.heap.size, rfl, heap_alloc_new _ _, hkf.size⟩, fun e => absurd e (by decide), fun e => absurd rfl e⟩ ⟨⟨g', L', hM1.more hb, hj⟩, hkf.trans (keepsFrom_below hb)⟩ ⟨hb.size, fun b _ h => hb.block b h, fun ⟨g2, h⟩ => ⟨g2, h.more hb⟩⟩)
          simp [execOp, go_sem, e0, hmp]
        case o7 =>
          intro a w1 Kx hG need old hsz hK
          obtain ⟨⟨g', L', hM1, hj⟩, hkf⟩ := hG
          have e0 : a.tmps[30]?.getD undef = .slice (some ⟨a1, 0, none⟩) n n := by
            rw [← Array.getD_eq_getD_getElem?]
            exact (need 3 (by kernel_rfl) (by kernel_rfl)).2.2 (by decide) (by decide)
          have e1 : a.tmps[31]?.getD undef = .int .i64 (x.val : Int) := by
            rw [← Array.getD_eq_getD_getElem?]
            exact (need 4 (by kernel_rfl) (by kernel_rfl)).2.2 (by decide) (by decide)
          refine op_value (v := .pointer (some ⟨a1, x.val * 4, none⟩)) (wanted_none rfl) ?_ (hK _ w1 ⟨fun e => absurd e (by decide), fun e => absurd e (by decide), fun _ _ => rfl⟩ ⟨⟨g', L', hM1, hj⟩, hkf⟩ ⟨Nat.le_refl _, fun _ _ _ => rfl, id⟩)
          simp [execOp, go_sem, e0, e1, hx]
        case o8 =>
          intro a w1 Kx hG need old hsz hK
          obtain ⟨⟨g', L', hM1, hj⟩, hkf⟩ := hG
          have e0 : a.tmps[34]?.getD undef = .pointer (some ⟨a1, x.val * 4, none⟩) := by
            rw [← Array.getD_eq_getD_getElem?]
            exact (need 7 (by kernel_rfl) (by kernel_rfl)).2.2 (by decide) (by decide)
          refine op_value (v := .pointer (some ⟨a1, x.val * 4 + 3, none⟩)) (wanted_none rfl) ?_ (hK _ w1 ⟨fun e => absurd e (by decide), fun e => absurd e (by decide), fun _ _ => rfl⟩ ⟨⟨g', L', hM1, hj⟩, hkf⟩ ⟨Nat.le_refl _, fun _ _ _ => rfl, id⟩)
          simp [execOp, go_sem, e0]
        case o9 =>
          intro a w1 Kx hG need old hsz hK
          obtain ⟨⟨g', L', hM1, hj⟩, hkf⟩ := hG
          obtain ⟨cN, cK, c0, ⟨v, cv⟩, cf⟩ := hM1.facts x.isLt
          obtain ⟨G, e1', hG1, hG2⟩ := (need 6 (by kernel_rfl) (by kernel_rfl)).1 rfl
          have e0 : a.tmps[35]?.getD undef = .pointer (some ⟨a1, x.val * 4 + 3, none⟩) := by
            rw [← Array.getD_eq_getD_getElem?]
            exact (need 8 (by kernel_rfl) (by kernel_rfl)).2.2 (by decide) (by decide)
          have e1 : a.tmps[33]?.getD undef = .slice (some ⟨G, 0, none⟩) np np := by
            rw [← Array.getD_eq_getD_getElem?]
            exact e1'
          have hM2 := hM1.lay HA.out x.isLt hG1 (by have := HWS.out; omega) (fun j hjn hl hjx e => by
            obtain ⟨hl', hg'⟩ := hj j hjx
            have := hgb j hjn (hl'.1 hl)
            omega)
          have hM3 := hM2.same (L' := fun j => (∃ y ∈ pre ++ [x], y.val = j)) (fun j hjn => by
            by_cases e : j = x.val
            · subst e; simp
            · simp only [e, or_false, (hj j e).1]
              constructor
              · rintro ⟨y, hy, hy2⟩; exact ⟨y, List.mem_append.2 (.inl hy), hy2⟩
              · rintro ⟨y, hy, hy2⟩
                rcases List.mem_append.1 hy with hy | hy
                · exact ⟨y, hy, hy2⟩
                · simp at hy; subst hy; exact absurd hy2.symm e)
          refine op_skip (wanted_none rfl) (w' := w1.setCell ⟨a1, x.val * 4 + 3, none⟩ (.slice (some ⟨G, 0, none⟩) np np)) ?_ (hK _ _ ⟨fun e => absurd e (by decide), fun _ => ⟨_, hM3⟩, fun _ e => absurd rfl e⟩ ⟨⟨_, _, hM2, fun j hjx => ?_⟩, hkf.trans ((KeepsOthers.setCell _ _ _).from _)⟩ ⟨by simp, fun b hb _ => Below.heap_setCell _ ⟨a1, x.val * 4 + 3, none⟩ _ b (fun e => by have h5 : b = a1 := e; have h6 := HA.out.q0; have := HS.out; have := HW4.out; omega), fun _ => ⟨_, hM3⟩⟩)
          · simp [execOp, go_sem, e0, e1, cv, cf]
          · obtain ⟨h7, h8⟩ := hj j hjx
            exact ⟨⟨fun h => h7.1 (h.resolve_right hjx), fun h => .inl (h7.2 h)⟩, by simp only [if_neg hjx, h8]⟩
      case hend =>
        intro a w' hG _ _ hφ _
        obtain ⟨g', h9⟩ := (hφ 9 (by kernel_rfl)).2.1 rfl
        exact ⟨hG.2, trivial, g', h9, Nat.le_trans HZ.out hG.2.size⟩
    case hdone =>
      rintro D ys W hD rfl ⟨g, hM, hz⟩ hK
      have hC := hM.chip HA.out (fun i hi => ⟨⟨i, hi⟩, by simp, rfl⟩) h2 h3 h4
      have hDq : a1 < D := by have h5 := HA.out.q0; have h6 := HS.out; omega
      have hqk : a3 ≠ a1 := HA.out.qk.symm
      have hqw : w.heap.size ≤ a1 := by have h5 := HA.out.q0; omega
      have hown : ∀ b, Go.Proofs.Yteghegojhhoppaa.Own a2 a1 g (fun _ => False) n b → w.heap.size ≤ b := fun b hb => by
        have h5 := HA.out.q0
        have h6 := HA.out.p0
        rcases hb with rfl | rfl | ⟨i, hi, rfl⟩ | hb
        · omega
        · omega
        · have := (hM.laid i hi ⟨⟨i, hi⟩, by simp, rfl⟩).2.2; omega
        · exact hb.elim
      have HB := Lib.hid (show BadMid w W D a2 a1 a3 n np g (l.take 0) from ⟨hC, hM.boxC, hM.below, hK⟩)
      have HO := Lib.hid hown
      clear hC hM hK hown H2 HA hz HW4 HS
      gi_wp2
      gi_loopw [10, 38] (fun _ i wr => ∃ j : Nat, j ≤ l.length ∧ i = .int .i64 j ∧ BadMid w wr D a2 a1 a3 n np g (l.take j)) (fun _ i _ => l.length - (intOf i).toNat)
      case atStart => exact ⟨0, Nat.zero_le _, rfl, HB.out⟩
      case round =>
        obtain ⟨j, hj, rfl, hR⟩ := hrel
        by_cases hjl : j < l.length
        · obtain ⟨B, o, rfl, hBw, hcell⟩ := hA (by omega)
          have cb : wr.cell? ⟨B, o + j, none⟩ = some (.int .i64 l[j]) := (hR.below.cell (p := ⟨B, o + j, none⟩) hBw).trans (hcell j hjl)
          have ck := hR.boxC.cell
          have HRR := Lib.hid hR
          have ht := take_snoc hjl
          cases hi : isL (madeS n np (l.take j)) l[j] with
          | false =>
            have hs := hR.skip hi
            rw [← ht] at hs
            gi_wp2_with (refine ⟨trivial, ?_⟩; (try refine ⟨wide_depth _, ?_⟩); gi_at_call 19; refine (callsIn_wide.2 (is_any _ HRR.out.chip)).mono ?_; rintro e w1 ⟨rfl, hw1⟩; obtain rfl := hw1; rw [hi])
            go_roundw
            case rel => exact ⟨j + 1, by omega, by simp, hs⟩
            case measure => simp [intOf]; omega
          | true =>
            obtain ⟨i, hli, hi'⟩ := isL_nat hi
            have hs := hR.mark hi' hqw hDq hqk
            rw [hli] at ht cb hi
            rw [← ht] at hs
            have hin : i < n := by simpa [madeS, badL_length, newS] using hi'
            obtain ⟨c0, _⟩ := cells13 hR.chip.self
            have cq := (hR.chip.blocks i hi').bad
            obtain ⟨cs, t, hpl⟩ := hR.chip.plain
            have cf := frozen10 hpl (i * 4)
            have c0' : wr.cell? ⟨a2, 0, none⟩ = some (.slice (some ⟨a1, 0, none⟩) n n) := by simpa [madeS, badL_length, newS] using c0
            clear hpl c0 hR
            gi_wp2_with (refine ⟨trivial, ?_⟩; (try refine ⟨wide_depth _, ?_⟩); gi_at_call 19; refine (callsIn_wide.2 (is_any _ HRR.out.chip)).mono ?_; rintro e w1 ⟨rfl, hw1⟩; obtain rfl := hw1; rw [hi])
            go_roundw
            case rel => exact ⟨j + 1, by omega, by simp, hs⟩
            case measure => simp [intOf]; omega
        · obtain rfl : j = l.length := by omega
          rw [List.take_of_length_le (Nat.le_refl _)] at hR
          have ck := hR.boxC.cell
          gi_wp2
          exact hR.leave (by omega) HO.out _ rfl
    case hstop =>
      rintro D c pre W hD hpre h hK
      exact h.elim
  · gi_wp2_with (refine ⟨trivial, ?_⟩; (try refine ⟨wide_depth _, ?_⟩); gi_at_call 18; refine (callsIn_wide.2 (turn_any _ _ _)).mono ?_; rintro e w1 ⟨rfl, rfl⟩)
    refine wpIn_world ?_
    intro W2 hW2
    obtain ⟨bN, bF, hM, ha⟩ : Boxed W2 (w.heap.size + 1 + 1 + 1 + 1) 3 (.int .i64 (n : Int)) ∧ Boxed W2 (w.heap.size + 1 + 1 + 1 + 1 + 1) 3 (.int .i64 0) ∧ NMid w W2 (w.heap.size + 1 + 1 + 1) (w.heap.size + 1) (w.heap.size + 1 + 1) n np (fun _ => 0) (fun _ => False) ∧ NAt w (w.heap.size + 1 + 1 + 1) (w.heap.size + 1) (w.heap.size + 1 + 1) := by
      obtain ⟨W4, hW4, hs4, f0, f1, f2, f3, hb4⟩ := at_alloc4 w (.cells #[.int .i64 (np : Int)] 3) (.cells (madeCells #[.bool false, .int .i64 0, .int .i64 0, .slice none 0 0] (n * 4)) 27) (.cells #[.pointer (some ⟨w.heap.size + 1 + 1 + 1, 0, none⟩)] 36) (.cells #[.slice (some ⟨w.heap.size + 1, 0, none⟩) n n, .int .i64 (np : Int), .int .i64 0, .int .i64 0, .int .i64 0, .bool false, .bool false, .int .i64 0, .bool false, .int .i64 0, .bool false, .int .i64 0, .int .i64 0] 53)
      rw [← hW4] at hW2
      have ha : NAt w (w.heap.size + 1 + 1 + 1) (w.heap.size + 1) (w.heap.size + 1 + 1) := by constructor <;> omega
      have hb2 : Below W4.heap.size W4 W2 := by rw [hW2]; exact (((Below.refl _ W4).alloc (Nat.le_refl _) _).alloc (by simp) _).drew
      have b1 := Boxed.new W4 3 (.int .i64 (n : Int))
      have b2 := Boxed.new (W4.alloc (.cells #[.int .i64 (n : Int)] 3)) 3 (.int .i64 0)
      rw [World.size_alloc] at b2
      rw [hs4] at b1 b2
      exact ⟨by rw [hW2]; exact b1.alloc _, by rw [hW2]; exact b2, (new_start f0 f2 f3 f1 hb4).more hb2, ha⟩
    clear hW2
    have HS := Lib.hid (show w.heap.size + 6 ≤ W2.heap.size from by have := bF.lt; omega)
    revert bN bF hM ha
    generalize e1 : w.heap.size + 1 = a1
    generalize e2 : a1 + 1 = a2
    generalize e3 : a2 + 1 = a3
    generalize e4 : a3 + 1 = a4
    generalize e5 : a4 + 1 = a5
    intro bN bF hM ha
    have HW4 := Lib.hid (show a1 = w.heap.size + 1 ∧ a2 = w.heap.size + 2 ∧ a3 = w.heap.size + 3 from by omega)
    have H2 := Lib.hid hM
    have HA := Lib.hid ha
    clear e1 e2 e3 e4 e5 hM ha
    apply wpIn_rangeFunc_ownG rfl (n := 3) (by omega) (gf := 26) (lb := #[.pointer (some ⟨a4, 0, none⟩), .pointer (some ⟨a5, 0, none⟩)]) rfl trivial enters_turn
      (turn_fin_stops (N := n) (fun _ _ => True) (3 - 1) _ _ (by omega) h1 W2 bN bF) (fun _ _ => trivial) (fun _ _ _ _ _ _ _ _ => trivial) (Below.refl _ _) (fun _ => rfl)
      (fun pre W => ∃ g, NMid w W a3 a1 a2 n np g (fun j => ∃ y ∈ pre, y.val = j) ∧ W2.heap.size ≤ W.heap.size)
      (fun _ _ _ => False)
      ?own ?ownx ?start
    case own => exact fun s X Y row ⟨g, hs, hz⟩ hg hr => ⟨g, hs.grown hg (fun r e => ⟨by have := (hr r e).1; have := HS.out; omega, (hr r e).2⟩), Nat.le_trans hz hg.size⟩
    case ownx => exact fun _ _ _ _ _ h _ _ => h
    case start => exact ⟨_, H2.out.same (fun j _ => ⟨fun h => h.elim, fun ⟨y, hy, _⟩ => by cases hy⟩), Nat.le_refl _⟩
    case hassign =>
      intro l x W K hK
      gi_wp2
      exact hK
    case hbody =>
      rintro l pre x W ⟨g0, hM, hz⟩ hlt
      have HWS := Lib.hid (show w.heap.size + 6 ≤ W.heap.size from Nat.le_trans HS.out hz)
      have HZ := Lib.hid hz
      clear hz
      have hx := x.isLt
      have hgb : ∀ j, j < n → (∃ y ∈ pre, y.val = j) → g0 j < W.heap.size := fun j hj hl => hM.lt hj hl
      have hmp := make_pages np (by omega)
      gi_wp2
      refine region_inv_in (fun j v w' => (j = 6 → ∃ G, v = .slice (some ⟨G, 0, none⟩) np np ∧ w'.heap[G]? = some (.cells (madeCells #[Value.slice none 0 0] np) 43 (0, 0)) ∧ W.heap.size ≤ G) ∧ (j = 9 → ∃ g', NMid w w' a3 a1 a2 n np g' (fun j => ∃ y ∈ pre ++ [x], y.val = j)) ∧ (j ≠ 6 → j ≠ 9 → v = (match j with | 0 => .pointer (some ⟨a3, 0, none⟩) | 1 => .pointer (some ⟨a3, 0, none⟩) | 2 => .pointer (some ⟨a3, 0, none⟩) | 3 => .slice (some ⟨a1, 0, none⟩) n n | 4 => .int .i64 (x.val : Int) | 5 => .int .i64 (np : Int) | 7 => .pointer (some ⟨a1, x.val * 4, none⟩) | 8 => .pointer (some ⟨a1, x.val * 4 + 3, none⟩) | _ => undef : Value)))
        (fun w' => (∃ g' L', NMid w w' a3 a1 a2 n np g' L' ∧ ∀ j, j ≠ x.val → (L' j ↔ ∃ y ∈ pre, y.val = j) ∧ g' j = g0 j) ∧ KeepsFrom W2.heap.size W w')
        (fun w1 w2 => w1.heap.size ≤ w2.heap.size ∧ (∀ b, w.heap.size + 3 < b → b < w1.heap.size → w2.heap[b]? = w1.heap[b]?) ∧ ((∃ g', NMid w w1 a3 a1 a2 n np g' (fun j => ∃ y ∈ pre ++ [x], y.val = j)) → ∃ g', NMid w w2 a3 a1 a2 n np g' (fun j => ∃ y ∈ pre ++ [x], y.val = j)))
        (by kernel_rfl) (by kernel_rfl) (by kernel_rfl) (by kernel_rfl) ?hR ?hG ?hops ?hend
      case hR =>
        intro j v w1 w2 ⟨h1, h2, h3⟩ ⟨r1, r2, r3⟩
        refine ⟨fun e => ?_, fun e => r3 (h2 e), h3⟩
        obtain ⟨G, e1, e2, e3⟩ := h1 e
        exact ⟨G, e1, (r2 G (by have := HWS.out; omega) (lt_size e2)).trans e2, e3⟩
      case hG => exact ⟨⟨g0, _, hM.more (Below.refl _ _).drew, fun _ _ => ⟨Iff.rfl, rfl⟩⟩, keepsFrom_below (Below.refl _ _).drew⟩
      case hops =>
        refine OpsOk.cons ?o0 (OpsOk.cons ?o1 (OpsOk.cons ?o2 (OpsOk.cons ?o3 (OpsOk.cons ?o4 (OpsOk.cons ?o5 (OpsOk.cons ?o6 (OpsOk.cons ?o7 (OpsOk.cons ?o8 (OpsOk.cons ?o9 (OpsOk.nil))))))))))
        case o0 =>
          intro a w1 Kx hG need old hsz hK
          obtain ⟨⟨g', L', hM1, hj⟩, hkf⟩ := hG
          obtain ⟨cN, cK, c0, ⟨v, cv⟩, cf⟩ := hM1.facts x.isLt
          have e0 : a.tmps[7]?.getD undef = .pointer (some ⟨a2, 0, none⟩) := by
            rw [← Array.getD_eq_getD_getElem?]
            exact old 7 (by kernel_rfl)
          refine op_value (v := .pointer (some ⟨a3, 0, none⟩)) (wanted_none rfl) ?_ (hK _ w1 ⟨fun e => absurd e (by decide), fun e => absurd e (by decide), fun _ _ => rfl⟩ ⟨⟨g', L', hM1, hj⟩, hkf⟩ ⟨Nat.le_refl _, fun _ _ _ => rfl, id⟩)
          simp [execOp, go_sem, e0, cK]
        case o1 =>
          intro a w1 Kx hG need old hsz hK
          obtain ⟨⟨g', L', hM1, hj⟩, hkf⟩ := hG
          have e0 : a.tmps[27]?.getD undef = .pointer (some ⟨a3, 0, none⟩) := by
            rw [← Array.getD_eq_getD_getElem?]
            exact (need 0 (by kernel_rfl) (by kernel_rfl)).2.2 (by decide) (by decide)
          refine op_value (v := .pointer (some ⟨a3, 0, none⟩)) (wanted_none rfl) ?_ (hK _ w1 ⟨fun e => absurd e (by decide), fun e => absurd e (by decide), fun _ _ => rfl⟩ ⟨⟨g', L', hM1, hj⟩, hkf⟩ ⟨Nat.le_refl _, fun _ _ _ => rfl, id⟩)
          simp [execOp, go_sem, e0]
        case o2 =>
          intro a w1 Kx hG need old hsz hK
          obtain ⟨⟨g', L', hM1, hj⟩, hkf⟩ := hG
          have e0 : a.tmps[28]?.getD undef = .pointer (some ⟨a3, 0, none⟩) := by
            rw [← Array.getD_eq_getD_getElem?]
            exact (need 1 (by kernel_rfl) (by kernel_rfl)).2.2 (by decide) (by decide)
          refine op_value (v := .pointer (some ⟨a3, 0, none⟩)) (wanted_none rfl) ?_ (hK _ w1 ⟨fun e => absurd e (by decide), fun e => absurd e (by decide), fun _ _ => rfl⟩ ⟨⟨g', L', hM1, hj⟩, hkf⟩ ⟨Nat.le_refl _, fun _ _ _ => rfl, id⟩)
          simp [execOp, go_sem, e0]
        case o3 =>
          intro a w1 Kx hG need old hsz hK
          obtain ⟨⟨g', L', hM1, hj⟩, hkf⟩ := hG
          obtain ⟨cN, cK, c0, ⟨v, cv⟩, cf⟩ := hM1.facts x.isLt
          have e0 : a.tmps[29]?.getD undef = .pointer (some ⟨a3, 0, none⟩) := by
            rw [← Array.getD_eq_getD_getElem?]
            exact (need 2 (by kernel_rfl) (by kernel_rfl)).2.2 (by decide) (by decide)
          refine op_value (v := .slice (some ⟨a1, 0, none⟩) n n) (wanted_none rfl) ?_ (hK _ w1 ⟨fun e => absurd e (by decide), fun e => absurd e (by decide), fun _ _ => rfl⟩ ⟨⟨g', L', hM1, hj⟩, hkf⟩ ⟨Nat.le_refl _, fun _ _ _ => rfl, id⟩)
          simp [execOp, go_sem, e0, c0]
        case o4 =>
          intro a w1 Kx hG need old hsz hK
          obtain ⟨⟨g', L', hM1, hj⟩, hkf⟩ := hG
          have e0 : a.tmps[8]?.getD undef = .int .i64 (x.val : Int) := by
            rw [← Array.getD_eq_getD_getElem?]
            exact old 8 (by kernel_rfl)
          refine op_value (v := .int .i64 (x.val : Int)) (wanted_none rfl) ?_ (hK _ w1 ⟨fun e => absurd e (by decide), fun e => absurd e (by decide), fun _ _ => rfl⟩ ⟨⟨g', L', hM1, hj⟩, hkf⟩ ⟨Nat.le_refl _, fun _ _ _ => rfl, id⟩)
          simp [execOp, go_sem, e0]
        case o5 =>
          intro a w1 Kx hG need old hsz hK
          obtain ⟨⟨g', L', hM1, hj⟩, hkf⟩ := hG
          obtain ⟨cN, cK, c0, ⟨v, cv⟩, cf⟩ := hM1.facts x.isLt
          have e0 : a.tmps[4]?.getD undef = .pointer (some ⟨w.heap.size, 0, none⟩) := by
            rw [← Array.getD_eq_getD_getElem?]
            exact old 4 (by kernel_rfl)
          refine op_value (v := .int .i64 (np : Int)) (wanted_none rfl) ?_ (hK _ w1 ⟨fun e => absurd e (by decide), fun e => absurd e (by decide), fun _ _ => rfl⟩ ⟨⟨g', L', hM1, hj⟩, hkf⟩ ⟨Nat.le_refl _, fun _ _ _ => rfl, id⟩)
          simp [execOp, go_sem, e0, cN]
        case o6 =>
          intro a w1 Kx hG need old hsz hK
          obtain ⟨⟨g', L', hM1, hj⟩, hkf⟩ := hG
          have e0 : a.tmps[32]?.getD undef = .int .i64 (np : Int) := by
            rw [← Array.getD_eq_getD_getElem?]
            exact (need 5 (by kernel_rfl) (by kernel_rfl)).2.2 (by decide) (by decide)
          have hb := (Below.refl w1.heap.size w1).alloc (Nat.le_refl _) (.cells (madeCells #[Value.slice none 0 0] np) 43)
          refine op_value (v := .slice (some ⟨w1.heap.size, 0, none⟩) np np) (w' := w1.alloc (.cells (madeCells #[Value.slice none 0 0] np) 43)) (wanted_none rfl) ?_ (hK _ _ ⟨fun _ => ⟨w1.heap.size, rfl, heap_alloc_new _ _, hkf.size⟩, fun e => absurd e (by decide), fun e => absurd rfl e⟩ ⟨⟨g', L', hM1.more hb, hj⟩, hkf.trans (keepsFrom_below hb)⟩ ⟨hb.size, fun b _ h => hb.block b h, fun ⟨g2, h⟩ => ⟨g2, h.more hb⟩⟩)
          simp [execOp, go_sem, e0, hmp]
        case o7 =>
          intro a w1 Kx hG need old hsz hK
          obtain ⟨⟨g', L', hM1, hj⟩, hkf⟩ := hG
          have e0 : a.tmps[30]?.getD undef = .slice (some ⟨a1, 0, none⟩) n n := by
            rw [← Array.getD_eq_getD_getElem?]
            exact (need 3 (by kernel_rfl) (by kernel_rfl)).2.2 (by decide) (by decide)
          have e1 : a.tmps[31]?.getD undef = .int .i64 (x.val : Int) := by
            rw [← Array.getD_eq_getD_getElem?]
            exact (need 4 (by kernel_rfl) (by kernel_rfl)).2.2 (by decide) (by decide)
          refine op_value (v := .pointer (some ⟨a1, x.val * 4, none⟩)) (wanted_none rfl) ?_ (hK _ w1 ⟨fun e => absurd e (by decide), fun e => absurd e (by decide), fun _ _ => rfl⟩ ⟨⟨g', L', hM1, hj⟩, hkf⟩ ⟨Nat.le_refl _, fun _ _ _ => rfl, id⟩)
          simp [execOp, go_sem, e0, e1, hx]
        case o8 =>
          intro a w1 Kx hG need old hsz hK
          obtain ⟨⟨g', L', hM1, hj⟩, hkf⟩ := hG
          have e0 : a.tmps[34]?.getD undef = .pointer (some ⟨a1, x.val * 4, none⟩) := by
            rw [← Array.getD_eq_getD_getElem?]
            exact (need 7 (by kernel_rfl) (by kernel_rfl)).2.2 (by decide) (by decide)
          refine op_value (v := .pointer (some ⟨a1, x.val * 4 + 3, none⟩)) (wanted_none rfl) ?_ (hK _ w1 ⟨fun e => absurd e (by decide), fun e => absurd e (by decide), fun _ _ => rfl⟩ ⟨⟨g', L', hM1, hj⟩, hkf⟩ ⟨Nat.le_refl _, fun _ _ _ => rfl, id⟩)
          simp [execOp, go_sem, e0]
        case o9 =>
          intro a w1 Kx hG need old hsz hK
          obtain ⟨⟨g', L', hM1, hj⟩, hkf⟩ := hG
          obtain ⟨cN, cK, c0, ⟨v, cv⟩, cf⟩ := hM1.facts x.isLt
          obtain ⟨G, e1', hG1, hG2⟩ := (need 6 (by kernel_rfl) (by kernel_rfl)).1 rfl
          have e0 : a.tmps[35]?.getD undef = .pointer (some ⟨a1, x.val * 4 + 3, none⟩) := by
            rw [← Array.getD_eq_getD_getElem?]
            exact (need 8 (by kernel_rfl) (by kernel_rfl)).2.2 (by decide) (by decide)
          have e1 : a.tmps[33]?.getD undef = .slice (some ⟨G, 0, none⟩) np np := by
            rw [← Array.getD_eq_getD_getElem?]
            exact e1'
          have hM2 := hM1.lay HA.out x.isLt hG1 (by have := HWS.out; omega) (fun j hjn hl hjx e => by
            obtain ⟨hl', hg'⟩ := hj j hjx
            have := hgb j hjn (hl'.1 hl)
            omega)
          have hM3 := hM2.same (L' := fun j => (∃ y ∈ pre ++ [x], y.val = j)) (fun j hjn => by
            by_cases e : j = x.val
            · subst e; simp
            · simp only [e, or_false, (hj j e).1]
              constructor
              · rintro ⟨y, hy, hy2⟩; exact ⟨y, List.mem_append.2 (.inl hy), hy2⟩
              · rintro ⟨y, hy, hy2⟩
                rcases List.mem_append.1 hy with hy | hy
                · exact ⟨y, hy, hy2⟩
                · simp at hy; subst hy; exact absurd hy2.symm e)
          refine op_skip (wanted_none rfl) (w' := w1.setCell ⟨a1, x.val * 4 + 3, none⟩ (.slice (some ⟨G, 0, none⟩) np np)) ?_ (hK _ _ ⟨fun e => absurd e (by decide), fun _ => ⟨_, hM3⟩, fun _ e => absurd rfl e⟩ ⟨⟨_, _, hM2, fun j hjx => ?_⟩, hkf.trans ((KeepsOthers.setCell _ _ _).from _)⟩ ⟨by simp, fun b hb _ => Below.heap_setCell _ ⟨a1, x.val * 4 + 3, none⟩ _ b (fun e => by have h5 : b = a1 := e; have h6 := HA.out.q0; have := HS.out; have := HW4.out; omega), fun _ => ⟨_, hM3⟩⟩)
          · simp [execOp, go_sem, e0, e1, cv, cf]
          · obtain ⟨h7, h8⟩ := hj j hjx
            exact ⟨⟨fun h => h7.1 (h.resolve_right hjx), fun h => .inl (h7.2 h)⟩, by simp only [if_neg hjx, h8]⟩
      case hend =>
        intro a w' hG _ _ hφ _
        obtain ⟨g', h9⟩ := (hφ 9 (by kernel_rfl)).2.1 rfl
        exact ⟨hG.2, trivial, g', h9, Nat.le_trans HZ.out hG.2.size⟩
    case hdone =>
      rintro D ys W hD rfl ⟨g, hM, hz⟩ hK
      have hC := hM.chip HA.out (fun i hi => ⟨⟨i, hi⟩, by simp, rfl⟩) h2 h3 h4
      have hDq : a1 < D := by have h5 := HA.out.q0; have h6 := HS.out; omega
      have hqk : a2 ≠ a1 := HA.out.qk.symm
      have hqw : w.heap.size ≤ a1 := by have h5 := HA.out.q0; omega
      have hown : ∀ b, Go.Proofs.Yteghegojhhoppaa.Own a3 a1 g (fun _ => False) n b → w.heap.size ≤ b := fun b hb => by
        have h5 := HA.out.q0
        have h6 := HA.out.p0
        rcases hb with rfl | rfl | ⟨i, hi, rfl⟩ | hb
        · omega
        · omega
        · have := (hM.laid i hi ⟨⟨i, hi⟩, by simp, rfl⟩).2.2; omega
        · exact hb.elim
      have HB := Lib.hid (show BadMid w W D a3 a1 a2 n np g (l.take 0) from ⟨hC, hM.boxC, hM.below, hK⟩)
      have HO := Lib.hid hown
      clear hC hM hK hown H2 HA hz HW4 HS
      gi_wp2
      gi_loopw [10, 38] (fun _ i wr => ∃ j : Nat, j ≤ l.length ∧ i = .int .i64 j ∧ BadMid w wr D a3 a1 a2 n np g (l.take j)) (fun _ i _ => l.length - (intOf i).toNat)
      case atStart => exact ⟨0, Nat.zero_le _, rfl, HB.out⟩
      case round =>
        obtain ⟨j, hj, rfl, hR⟩ := hrel
        by_cases hjl : j < l.length
        · obtain ⟨B, o, rfl, hBw, hcell⟩ := hA (by omega)
          have cb : wr.cell? ⟨B, o + j, none⟩ = some (.int .i64 l[j]) := (hR.below.cell (p := ⟨B, o + j, none⟩) hBw).trans (hcell j hjl)
          have ck := hR.boxC.cell
          have HRR := Lib.hid hR
          have ht := take_snoc hjl
          cases hi : isL (madeS n np (l.take j)) l[j] with
          | false =>
            have hs := hR.skip hi
            rw [← ht] at hs
            gi_wp2_with (refine ⟨trivial, ?_⟩; (try refine ⟨wide_depth _, ?_⟩); gi_at_call 19; refine (callsIn_wide.2 (is_any _ HRR.out.chip)).mono ?_; rintro e w1 ⟨rfl, hw1⟩; obtain rfl := hw1; rw [hi])
            go_roundw
            case rel => exact ⟨j + 1, by omega, by simp, hs⟩
            case measure => simp [intOf]; omega
          | true =>
            obtain ⟨i, hli, hi'⟩ := isL_nat hi
            have hs := hR.mark hi' hqw hDq hqk
            rw [hli] at ht cb hi
            rw [← ht] at hs
            have hin : i < n := by simpa [madeS, badL_length, newS] using hi'
            obtain ⟨c0, _⟩ := cells13 hR.chip.self
            have cq := (hR.chip.blocks i hi').bad
            obtain ⟨cs, t, hpl⟩ := hR.chip.plain
            have cf := frozen10 hpl (i * 4)
            have c0' : wr.cell? ⟨a3, 0, none⟩ = some (.slice (some ⟨a1, 0, none⟩) n n) := by simpa [madeS, badL_length, newS] using c0
            clear hpl c0 hR
            gi_wp2_with (refine ⟨trivial, ?_⟩; (try refine ⟨wide_depth _, ?_⟩); gi_at_call 19; refine (callsIn_wide.2 (is_any _ HRR.out.chip)).mono ?_; rintro e w1 ⟨rfl, hw1⟩; obtain rfl := hw1; rw [hi])
            go_roundw
            case rel => exact ⟨j + 1, by omega, by simp, hs⟩
            case measure => simp [intOf]; omega
        · obtain rfl : j = l.length := by omega
          rw [List.take_of_length_le (Nat.le_refl _)] at hR
          have ck := hR.boxC.cell
          gi_wp2
          exact hR.leave (by omega) HO.out _ rfl
    case hstop =>
      rintro D c pre W hD hpre h hK
      exact h.elim
  · gi_wp2_with (refine ⟨trivial, ?_⟩; (try refine ⟨wide_depth _, ?_⟩); gi_at_call 18; refine (callsIn_wide.2 (turn_any _ _ _)).mono ?_; rintro e w1 ⟨rfl, rfl⟩)
    refine wpIn_world ?_
    intro W2 hW2
    obtain ⟨bN, bF, hM, ha⟩ : Boxed W2 (w.heap.size + 1 + 1 + 1 + 1) 3 (.int .i64 (n : Int)) ∧ Boxed W2 (w.heap.size + 1 + 1 + 1 + 1 + 1) 3 (.int .i64 0) ∧ NMid w W2 (w.heap.size + 1 + 1 + 1) (w.heap.size + 1 + 1) (w.heap.size + 1) n np (fun _ => 0) (fun _ => False) ∧ NAt w (w.heap.size + 1 + 1 + 1) (w.heap.size + 1 + 1) (w.heap.size + 1) := by
      obtain ⟨W4, hW4, hs4, f0, f1, f2, f3, hb4⟩ := at_alloc4 w (.cells #[.int .i64 (np : Int)] 3) (.cells #[.pointer (some ⟨w.heap.size + 1 + 1 + 1, 0, none⟩)] 36) (.cells (madeCells #[.bool false, .int .i64 0, .int .i64 0, .slice none 0 0] (n * 4)) 27) (.cells #[.slice (some ⟨w.heap.size + 1 + 1, 0, none⟩) n n, .int .i64 (np : Int), .int .i64 0, .int .i64 0, .int .i64 0, .bool false, .bool false, .int .i64 0, .bool false, .int .i64 0, .bool false, .int .i64 0, .int .i64 0] 53)
      rw [← hW4] at hW2
      have ha : NAt w (w.heap.size + 1 + 1 + 1) (w.heap.size + 1 + 1) (w.heap.size + 1) := by constructor <;> omega
      have hb2 : Below W4.heap.size W4 W2 := by rw [hW2]; exact (((Below.refl _ W4).alloc (Nat.le_refl _) _).alloc (by simp) _).drew
      have b1 := Boxed.new W4 3 (.int .i64 (n : Int))
      have b2 := Boxed.new (W4.alloc (.cells #[.int .i64 (n : Int)] 3)) 3 (.int .i64 0)
      rw [World.size_alloc] at b2
      rw [hs4] at b1 b2
      exact ⟨by rw [hW2]; exact b1.alloc _, by rw [hW2]; exact b2, (new_start f0 f1 f3 f2 hb4).more hb2, ha⟩
    clear hW2
    have HS := Lib.hid (show w.heap.size + 6 ≤ W2.heap.size from by have := bF.lt; omega)
    revert bN bF hM ha
    generalize e1 : w.heap.size + 1 = a1
    generalize e2 : a1 + 1 = a2
    generalize e3 : a2 + 1 = a3
    generalize e4 : a3 + 1 = a4
    generalize e5 : a4 + 1 = a5
    intro bN bF hM ha
    have HW4 := Lib.hid (show a1 = w.heap.size + 1 ∧ a2 = w.heap.size + 2 ∧ a3 = w.heap.size + 3 from by omega)
    have H2 := Lib.hid hM
    have HA := Lib.hid ha
    clear e1 e2 e3 e4 e5 hM ha
    apply wpIn_rangeFunc_ownG rfl (n := 3) (by omega) (gf := 26) (lb := #[.pointer (some ⟨a4, 0, none⟩), .pointer (some ⟨a5, 0, none⟩)]) rfl trivial enters_turn
      (turn_fin_stops (N := n) (fun _ _ => True) (3 - 1) _ _ (by omega) h1 W2 bN bF) (fun _ _ => trivial) (fun _ _ _ _ _ _ _ _ => trivial) (Below.refl _ _) (fun _ => rfl)
      (fun pre W => ∃ g, NMid w W a3 a2 a1 n np g (fun j => ∃ y ∈ pre, y.val = j) ∧ W2.heap.size ≤ W.heap.size)
      (fun _ _ _ => False)
      ?own ?ownx ?start
    case own => exact fun s X Y row ⟨g, hs, hz⟩ hg hr => ⟨g, hs.grown hg (fun r e => ⟨by have := (hr r e).1; have := HS.out; omega, (hr r e).2⟩), Nat.le_trans hz hg.size⟩
    case ownx => exact fun _ _ _ _ _ h _ _ => h
    case start => exact ⟨_, H2.out.same (fun j _ => ⟨fun h => h.elim, fun ⟨y, hy, _⟩ => by cases hy⟩), Nat.le_refl _⟩
    case hassign =>
      intro l x W K hK
      gi_wp2
      exact hK
    case hbody =>
      rintro l pre x W ⟨g0, hM, hz⟩ hlt
      have HWS := Lib.hid (show w.heap.size + 6 ≤ W.heap.size from Nat.le_trans HS.out hz)
      have HZ := Lib.hid hz
      clear hz
      have hx := x.isLt
      have hgb : ∀ j, j < n → (∃ y ∈ pre, y.val = j) → g0 j < W.heap.size := fun j hj hl => hM.lt hj hl
      have hmp := make_pages np (by omega)
      gi_wp2
      refine region_inv_in (fun j v w' => (j = 6 → ∃ G, v = .slice (some ⟨G, 0, none⟩) np np ∧ w'.heap[G]? = some (.cells (madeCells #[Value.slice none 0 0] np) 43 (0, 0)) ∧ W.heap.size ≤ G) ∧ (j = 9 → ∃ g', NMid w w' a3 a2 a1 n np g' (fun j => ∃ y ∈ pre ++ [x], y.val = j)) ∧ (j ≠ 6 → j ≠ 9 → v = (match j with | 0 => .pointer (some ⟨a3, 0, none⟩) | 1 => .pointer (some ⟨a3, 0, none⟩) | 2 => .pointer (some ⟨a3, 0, none⟩) | 3 => .slice (some ⟨a2, 0, none⟩) n n | 4 => .int .i64 (x.val : Int) | 5 => .int .i64 (np : Int) | 7 => .pointer (some ⟨a2, x.val * 4, none⟩) | 8 => .pointer (some ⟨a2, x.val * 4 + 3, none⟩) | _ => undef : Value)))
        (fun w' => (∃ g' L', NMid w w' a3 a2 a1 n np g' L' ∧ ∀ j, j ≠ x.val → (L' j ↔ ∃ y ∈ pre, y.val = j) ∧ g' j = g0 j) ∧ KeepsFrom W2.heap.size W w')
        (fun w1 w2 => w1.heap.size ≤ w2.heap.size ∧ (∀ b, w.heap.size + 3 < b → b < w1.heap.size → w2.heap[b]? = w1.heap[b]?) ∧ ((∃ g', NMid w w1 a3 a2 a1 n np g' (fun j => ∃ y ∈ pre ++ [x], y.val = j)) → ∃ g', NMid w w2 a3 a2 a1 n np g' (fun j => ∃ y ∈ pre ++ [x], y.val = j)))
        (by kernel_rfl) (by kernel_rfl) (by kernel_rfl) (by kernel_rfl) ?hR ?hG ?hops ?hend
      case hR =>
        intro j v w1 w2 ⟨h1, h2, h3⟩ ⟨r1, r2, r3⟩
        refine ⟨fun e => ?_, fun e => r3 (h2 e), h3⟩
        obtain ⟨G, e1, e2, e3⟩ := h1 e
        exact ⟨G, e1, (r2 G (by have := HWS.out; omega) (lt_size e2)).trans e2, e3⟩
      case hG => exact ⟨⟨g0, _, hM.more (Below.refl _ _).drew, fun _ _ => ⟨Iff.rfl, rfl⟩⟩, keepsFrom_below (Below.refl _ _).drew⟩
      case hops =>
        refine OpsOk.cons ?o0 (OpsOk.cons ?o1 (OpsOk.cons ?o2 (OpsOk.cons ?o3 (OpsOk.cons ?o4 (OpsOk.cons ?o5 (OpsOk.cons ?o6 (OpsOk.cons ?o7 (OpsOk.cons ?o8 (OpsOk.cons ?o9 (OpsOk.nil))))))))))
        case o0 =>
          intro a w1 Kx hG need old hsz hK
          obtain ⟨⟨g', L', hM1, hj⟩, hkf⟩ := hG
          obtain ⟨cN, cK, c0, ⟨v, cv⟩, cf⟩ := hM1.facts x.isLt
          have e0 : a.tmps[7]?.getD undef = .pointer (some ⟨a1, 0, none⟩) := by
            rw [← Array.getD_eq_getD_getElem?]
            exact old 7 (by kernel_rfl)
          refine op_value (v := .pointer (some ⟨a3, 0, none⟩)) (wanted_none rfl) ?_ (hK _ w1 ⟨fun e => absurd e (by decide), fun e => absurd e (by decide), fun _ _ => rfl⟩ ⟨⟨g', L', hM1, hj⟩, hkf⟩ ⟨Nat.le_refl _, fun _ _ _ => rfl, id⟩)
          simp [execOp, go_sem, e0, cK]
        case o1 =>
          intro a w1 Kx hG need old hsz hK
          obtain ⟨⟨g', L', hM1, hj⟩, hkf⟩ := hG
          have e0 : a.tmps[27]?.getD undef = .pointer (some ⟨a3, 0, none⟩) := by
            rw [← Array.getD_eq_getD_getElem?]
            exact (need 0 (by kernel_rfl) (by kernel_rfl)).2.2 (by decide) (by decide)
          refine op_value (v := .pointer (some ⟨a3, 0, none⟩)) (wanted_none rfl) ?_ (hK _ w1 ⟨fun e => absurd e (by decide), fun e => absurd e (by decide), fun _ _ => rfl⟩ ⟨⟨g', L', hM1, hj⟩, hkf⟩ ⟨Nat.le_refl _, fun _ _ _ => rfl, id⟩)
          simp [execOp, go_sem, e0]
        case o2 =>
          intro a w1 Kx hG need old hsz hK
          obtain ⟨⟨g', L', hM1, hj⟩, hkf⟩ := hG
          have e0 : a.tmps[28]?.getD undef = .pointer (some ⟨a3, 0, none⟩) := by
            rw [← Array.getD_eq_getD_getElem?]
            exact (need 1 (by kernel_rfl) (by kernel_rfl)).2.2 (by decide) (by decide)
          refine op_value (v := .pointer (some ⟨a3, 0, none⟩)) (wanted_none rfl) ?_ (hK _ w1 ⟨fun e => absurd e (by decide), fun e => absurd e (by decide), fun _ _ => rfl⟩ ⟨⟨g', L', hM1, hj⟩, hkf⟩ ⟨Nat.le_refl _, fun _ _ _ => rfl, id⟩)
          simp [execOp, go_sem, e0]
        case o3 =>
          intro a w1 Kx hG need old hsz hK
          obtain ⟨⟨g', L', hM1, hj⟩, hkf⟩ := hG
          obtain ⟨cN, cK, c0, ⟨v, cv⟩, cf⟩ := hM1.facts x.isLt
          have e0 : a.tmps[29]?.getD undef = .pointer (some ⟨a3, 0, none⟩) := by
            rw [← Array.getD_eq_getD_getElem?]
            exact (need 2 (by kernel_rfl) (by kernel_rfl)).2.2 (by decide) (by decide)
          refine op_value (v := .slice (some ⟨a2, 0, none⟩) n n) (wanted_none rfl) ?_ (hK _ w1 ⟨fun e => absurd e (by decide), fun e => absurd e (by decide), fun _ _ => rfl⟩ ⟨⟨g', L', hM1, hj⟩, hkf⟩ ⟨Nat.le_refl _, fun _ _ _ => rfl, id⟩)
          simp [execOp, go_sem, e0, c0]
        case o4 =>
          intro a w1 Kx hG need old hsz hK
          obtain ⟨⟨g', L', hM1, hj⟩, hkf⟩ := hG
          have e0 : a.tmps[8]?.getD undef = .int .i64 (x.val : Int) := by
            rw [← Array.getD_eq_getD_getElem?]
            exact old 8 (by kernel_rfl)
          refine op_value (v := .int .i64 (x.val : Int)) (wanted_none rfl) ?_ (hK _ w1 ⟨fun e => absurd e (by decide), fun e => absurd e (by decide), fun _ _ => rfl⟩ ⟨⟨g', L', hM1, hj⟩, hkf⟩ ⟨Nat.le_refl _, fun _ _ _ => rfl, id⟩)
          simp [execOp, go_sem, e0]
        case o5 =>
          intro a w1 Kx hG need old hsz hK
          obtain ⟨⟨g', L', hM1, hj⟩, hkf⟩ := hG
          obtain ⟨cN, cK, c0, ⟨v, cv⟩, cf⟩ := hM1.facts x.isLt
          have e0 : a.tmps[4]?.getD undef = .pointer (some ⟨w.heap.size, 0, none⟩) := by
            rw [← Array.getD_eq_getD_getElem?]
            exact old 4 (by kernel_rfl)
          refine op_value (v := .int .i64 (np : Int)) (wanted_none rfl) ?_ (hK _ w1 ⟨fun e => absurd e (by decide), fun e => absurd e (by decide), fun _ _ => rfl⟩ ⟨⟨g', L', hM1, hj⟩, hkf⟩ ⟨Nat.le_refl _, fun _ _ _ => rfl, id⟩)
          simp [execOp, go_sem, e0, cN]
        case o6 =>
          intro a w1 Kx hG need old hsz hK
          obtain ⟨⟨g', L', hM1, hj⟩, hkf⟩ := hG
          have e0 : a.tmps[32]?.getD undef = .int .i64 (np : Int) := by
            rw [← Array.getD_eq_getD_getElem?]
            exact (need 5 (by kernel_rfl) (by kernel_rfl)).2.2 (by decide) (by decide)
          have hb := (Below.refl w1.heap.size w1).alloc (Nat.le_refl _) (.cells (madeCells #[Value.slice none 0 0] np) 43)
          refine op_value (v := .slice (some ⟨w1.heap.size, 0, none⟩) np np) (w' := w1.alloc (.cells (madeCells #[Value.slice none 0 0] np) 43)) (wanted_none rfl) ?_ (hK _ _ ⟨fun _ => ⟨w1.heap.size, rfl, heap_alloc_new _ _, hkf.size⟩, fun e => absurd e (by decide), fun e => absurd rfl e⟩ ⟨⟨g', L', hM1.more hb, hj⟩, hkf.trans (keepsFrom_below hb)⟩ ⟨hb.size, fun b _ h => hb.block b h, fun ⟨g2, h⟩ => ⟨g2, h.more hb⟩⟩)
          simp [execOp, go_sem, e0, hmp]
        case o7 =>
          intro a w1 Kx hG need old hsz hK
          obtain ⟨⟨g', L', hM1, hj⟩, hkf⟩ := hG
          have e0 : a.tmps[30]?.getD undef = .slice (some ⟨a2, 0, none⟩) n n := by
            rw [← Array.getD_eq_getD_getElem?]
            exact (need 3 (by kernel_rfl) (by kernel_rfl)).2.2 (by decide) (by decide)
          have e1 : a.tmps[31]?.getD undef = .int .i64 (x.val : Int) := by
            rw [← Array.getD_eq_getD_getElem?]
            exact (need 4 (by kernel_rfl) (by kernel_rfl)).2.2 (by decide) (by decide)
          refine op_value (v := .pointer (some ⟨a2, x.val * 4, none⟩)) (wanted_none rfl) ?_ (hK _ w1 ⟨fun e => absurd e (by decide), fun e => absurd e (by decide), fun _ _ => rfl⟩ ⟨⟨g', L', hM1, hj⟩, hkf⟩ ⟨Nat.le_refl _, fun _ _ _ => rfl, id⟩)
          simp [execOp, go_sem, e0, e1, hx]
        case o8 =>
          intro a w1 Kx hG need old hsz hK
          obtain ⟨⟨g', L', hM1, hj⟩, hkf⟩ := hG
          have e0 : a.tmps[34]?.getD undef = .pointer (some ⟨a2, x.val * 4, none⟩) := by
            rw [← Array.getD_eq_getD_getElem?]
            exact (need 7 (by kernel_rfl) (by kernel_rfl)).2.2 (by decide) (by decide)
          refine op_value (v := .pointer (some ⟨a2, x.val * 4 + 3, none⟩)) (wanted_none rfl) ?_ (hK _ w1 ⟨fun e => absurd e (by decide), fun e => absurd e (by decide), fun _ _ => rfl⟩ ⟨⟨g', L', hM1, hj⟩, hkf⟩ ⟨Nat.le_refl _, fun _ _ _ => rfl, id⟩)
          simp [execOp, go_sem, e0]
        case o9 =>
          intro a w1 Kx hG need old hsz hK
          obtain ⟨⟨g', L', hM1, hj⟩, hkf⟩ := hG
          obtain ⟨cN, cK, c0, ⟨v, cv⟩, cf⟩ := hM1.facts x.isLt
          obtain ⟨G, e1', hG1, hG2⟩ := (need 6 (by kernel_rfl) (by kernel_rfl)).1 rfl
          have e0 : a.tmps[35]?.getD undef = .pointer (some ⟨a2, x.val * 4 + 3, none⟩) := by
            rw [← Array.getD_eq_getD_getElem?]
            exact (need 8 (by kernel_rfl) (by kernel_rfl)).2.2 (by decide) (by decide)
          have e1 : a.tmps[33]?.getD undef = .slice (some ⟨G, 0, none⟩) np np := by
            rw [← Array.getD_eq_getD_getElem?]
            exact e1'
          have hM2 := hM1.lay HA.out x.isLt hG1 (by have := HWS.out; omega) (fun j hjn hl hjx e => by
            obtain ⟨hl', hg'⟩ := hj j hjx
            have := hgb j hjn (hl'.1 hl)
            omega)
          have hM3 := hM2.same (L' := fun j => (∃ y ∈ pre ++ [x], y.val = j)) (fun j hjn => by
            by_cases e : j = x.val
            · subst e; simp
            · simp only [e, or_false, (hj j e).1]
              constructor
              · rintro ⟨y, hy, hy2⟩; exact ⟨y, List.mem_append.2 (.inl hy), hy2⟩
              · rintro ⟨y, hy, hy2⟩
                rcases List.mem_append.1 hy with hy | hy
                · exact ⟨y, hy, hy2⟩
                · simp at hy; subst hy; exact absurd hy2.symm e)
          refine op_skip (wanted_none rfl) (w' := w1.setCell ⟨a2, x.val * 4 + 3, none⟩ (.slice (some ⟨G, 0, none⟩) np np)) ?_ (hK _ _ ⟨fun e => absurd e (by decide), fun _ => ⟨_, hM3⟩, fun _ e => absurd rfl e⟩ ⟨⟨_, _, hM2, fun j hjx => ?_⟩, hkf.trans ((KeepsOthers.setCell _ _ _).from _)⟩ ⟨by simp, fun b hb _ => Below.heap_setCell _ ⟨a2, x.val * 4 + 3, none⟩ _ b (fun e => by have h5 : b = a2 := e; have h6 := HA.out.q0; have := HS.out; have := HW4.out; omega), fun _ => ⟨_, hM3⟩⟩)
          · simp [execOp, go_sem, e0, e1, cv, cf]
          · obtain ⟨h7, h8⟩ := hj j hjx
            exact ⟨⟨fun h => h7.1 (h.resolve_right hjx), fun h => .inl (h7.2 h)⟩, by simp only [if_neg hjx, h8]⟩
      case hend =>
        intro a w' hG _ _ hφ _
        obtain ⟨g', h9⟩ := (hφ 9 (by kernel_rfl)).2.1 rfl
        exact ⟨hG.2, trivial, g', h9, Nat.le_trans HZ.out hG.2.size⟩
    case hdone =>
      rintro D ys W hD rfl ⟨g, hM, hz⟩ hK
      have hC := hM.chip HA.out (fun i hi => ⟨⟨i, hi⟩, by simp, rfl⟩) h2 h3 h4
      have hDq : a2 < D := by have h5 := HA.out.q0; have h6 := HS.out; omega
      have hqk : a1 ≠ a2 := HA.out.qk.symm
      have hqw : w.heap.size ≤ a2 := by have h5 := HA.out.q0; omega
      have hown : ∀ b, Go.Proofs.Yteghegojhhoppaa.Own a3 a2 g (fun _ => False) n b → w.heap.size ≤ b := fun b hb => by
        have h5 := HA.out.q0
        have h6 := HA.out.p0
        rcases hb with rfl | rfl | ⟨i, hi, rfl⟩ | hb
        · omega
        · omega
        · have := (hM.laid i hi ⟨⟨i, hi⟩, by simp, rfl⟩).2.2; omega
        · exact hb.elim
      have HB := Lib.hid (show BadMid w W D a3 a2 a1 n np g (l.take 0) from ⟨hC, hM.boxC, hM.below, hK⟩)
      have HO := Lib.hid hown
      clear hC hM hK hown H2 HA hz HW4 HS
      gi_wp2
      gi_loopw [10, 38] (fun _ i wr => ∃ j : Nat, j ≤ l.length ∧ i = .int .i64 j ∧ BadMid w wr D a3 a2 a1 n np g (l.take j)) (fun _ i _ => l.length - (intOf i).toNat)
      case atStart => exact ⟨0, Nat.zero_le _, rfl, HB.out⟩
      case round =>
        obtain ⟨j, hj, rfl, hR⟩ := hrel
        by_cases hjl : j < l.length
        · obtain ⟨B, o, rfl, hBw, hcell⟩ := hA (by omega)
          have cb : wr.cell? ⟨B, o + j, none⟩ = some (.int .i64 l[j]) := (hR.below.cell (p := ⟨B, o + j, none⟩) hBw).trans (hcell j hjl)
          have ck := hR.boxC.cell
          have HRR := Lib.hid hR
          have ht := take_snoc hjl
          cases hi : isL (madeS n np (l.take j)) l[j] with
          | false =>
            have hs := hR.skip hi
            rw [← ht] at hs
            gi_wp2_with (refine ⟨trivial, ?_⟩; (try refine ⟨wide_depth _, ?_⟩); gi_at_call 19; refine (callsIn_wide.2 (is_any _ HRR.out.chip)).mono ?_; rintro e w1 ⟨rfl, hw1⟩; obtain rfl := hw1; rw [hi])
            go_roundw
            case rel => exact ⟨j + 1, by omega, by simp, hs⟩
            case measure => simp [intOf]; omega
          | true =>
            obtain ⟨i, hli, hi'⟩ := isL_nat hi
            have hs := hR.mark hi' hqw hDq hqk
            rw [hli] at ht cb hi
            rw [← ht] at hs
            have hin : i < n := by simpa [madeS, badL_length, newS] using hi'
            obtain ⟨c0, _⟩ := cells13 hR.chip.self
            have cq := (hR.chip.blocks i hi').bad
            obtain ⟨cs, t, hpl⟩ := hR.chip.plain
            have cf := frozen10 hpl (i * 4)
            have c0' : wr.cell? ⟨a3, 0, none⟩ = some (.slice (some ⟨a2, 0, none⟩) n n) := by simpa [madeS, badL_length, newS] using c0
            clear hpl c0 hR
            gi_wp2_with (refine ⟨trivial, ?_⟩; (try refine ⟨wide_depth _, ?_⟩); gi_at_call 19; refine (callsIn_wide.2 (is_any _ HRR.out.chip)).mono ?_; rintro e w1 ⟨rfl, hw1⟩; obtain rfl := hw1; rw [hi])
            go_roundw
            case rel => exact ⟨j + 1, by omega, by simp, hs⟩
            case measure => simp [intOf]; omega
        · obtain rfl : j = l.length := by omega
          rw [List.take_of_length_le (Nat.le_refl _)] at hR
          have ck := hR.boxC.cell
          gi_wp2
          exact hR.leave (by omega) HO.out _ rfl
    case hstop =>
      rintro D c pre W hD hpre h hK
      exact h.elim
end
end Go.Proofs.Yteghegojhhoppaa
