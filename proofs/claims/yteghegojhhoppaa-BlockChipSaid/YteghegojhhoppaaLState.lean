/- The landed chip in memory: a struct of thirteen cells, a row of blocks, a row of pages for each block, bytes for each page. -/
import Derived.Test.YteghegojhhoppaaState
namespace Go.Proofs.Yteghegojhhoppaa
open Go.RowKit

/-- A timer as a datum. -/
structure Tm where
  set : Bool
  left : Int
/-- A landed chip as a datum. -/
structure LS where
  bl : List Bk
  np : Nat
  rd : Int
  pr : Int
  er : Int
  dark : Bool
  f : Tm
  w : Tm
  c : Tm
  keep : Int
/-- The cells of a chip's struct. -/
def LS.cells (S : LS) (q cap : Nat) : Array Value :=
  #[.slice (some ⟨q, 0, none⟩) S.bl.length cap, .int .i64 S.np, .int .i64 S.rd, .int .i64 S.pr, .int .i64 S.er, .bool S.dark, .bool S.f.set, .int .i64 S.f.left, .bool S.w.set, .int .i64 S.w.left, .bool S.c.set, .int .i64 S.c.left, .int .i64 S.keep]
/-- A landed chip at p: its row of blocks at q, its pages at g, its bytes in blocks of C. -/
structure LAt (w : World) (p q cap : Nat) (g : Nat → Nat) (C : Nat → Prop) (S : LS) : Prop where
  self : w.heap[p]? = some (.cells (S.cells q cap) 53 (0, 0))
  plain : ∃ cs t, w.heap[q]? = some (.cells cs t (0, 0))
  blocks : ∀ i (h : i < S.bl.length), BkAt w C q i (g i) S.np S.bl[i]
  ne : p ≠ q
  gp : ∀ i, i < S.bl.length → g i ≠ p ∧ g i ≠ q
  gg : ∀ i j, i < S.bl.length → j < S.bl.length → g i = g j → i = j
  cp : ∀ b, C b → b ≠ p ∧ b ≠ q ∧ ∀ i, i < S.bl.length → b ≠ g i
  cl : ∀ b, C b → b < w.heap.size
  cap : S.bl.length ≤ cap
  small : S.bl.length ≤ 64 ∧ 1 ≤ S.np ∧ S.np ≤ 32
  ints : 0 ≤ S.f.left ∧ S.f.left ≤ 9223372036854775807 ∧ 0 ≤ S.w.left ∧ S.w.left ≤ 9223372036854775807 ∧ 0 ≤ S.c.left ∧ S.c.left ≤ 9223372036854775807 ∧ 0 ≤ S.keep
section
variable {w w' : World} {p q cap : Nat} {g : Nat → Nat} {C : Nat → Prop} {S S' : LS}
theorem LAt.lt (h : LAt w p q cap g C S) : ∀ b, Own p q g C S.bl.length b → b < w.heap.size := fun b hb => by
  rcases hb with rfl | rfl | ⟨i, hi, rfl⟩ | hb
  · exact lt_size h.self
  · obtain ⟨cs, t, e⟩ := h.plain; exact lt_size e
  · obtain ⟨cs, t, e⟩ := (h.blocks i hi).plain; exact lt_size e
  · exact h.cl b hb
/-- What turns no block of the chip leaves it. -/
theorem LAt.kept (h : LAt w p q cap g C S) (hs : w.heap.size ≤ w'.heap.size) (hk : ∀ b, Own p q g C S.bl.length b → w'.heap[b]? = w.heap[b]?) : LAt w' p q cap g C S :=
  { h with
    self := (hk p (.inl rfl)).trans h.self
    plain := by obtain ⟨cs, t, e⟩ := h.plain; exact ⟨cs, t, (hk q (.inr (.inl rfl))).trans e⟩
    blocks := fun i hi => (h.blocks i hi).kept (hk q (.inr (.inl rfl))) (hk _ (.inr (.inr (.inl ⟨i, hi, rfl⟩)))) fun b hb => hk b (.inr (.inr (.inr hb)))
    cl := fun b hb => Nat.lt_of_lt_of_le (h.cl b hb) hs }
theorem LAt.turned {F : Nat → Prop} (h : LAt w p q cap g C S) (ht : Turned F w w') (hF : ∀ b, Own p q g C S.bl.length b → ¬ F b) : LAt w' p q cap g C S :=
  h.kept ht.size fun b hb => ht.block b (h.lt b hb) (hF b hb)
theorem LAt.below (h : LAt w p q cap g C S) (hb : Below w.heap.size w w') : LAt w' p q cap g C S := h.kept hb.size fun b ho => hb.block b (h.lt b ho)
theorem LAt.drew (h : LAt w p q cap g C S) : LAt w.drew p q cap g C S := h.below (Below.refl _ _).drew
theorem LAt.alloc (h : LAt w p q cap g C S) (o : Obj) : LAt (w.alloc o) p q cap g C S := h.below ((Below.refl _ _).alloc (Nat.le_refl _) o)
/-- The struct's own cells are written. -/
theorem LAt.self_set (h : LAt w p q cap g C S) {j : Nat} {u : Value} (hb : S'.bl = S.bl) (hn : S'.np = S.np) (hc : (S.cells q cap).setIfInBounds j u = S'.cells q cap) (hi : 0 ≤ S'.f.left ∧ S'.f.left ≤ 9223372036854775807 ∧ 0 ≤ S'.w.left ∧ S'.w.left ≤ 9223372036854775807 ∧ 0 ≤ S'.c.left ∧ S'.c.left ≤ 9223372036854775807 ∧ 0 ≤ S'.keep) :
    LAt (w.setCell ⟨p, j, none⟩ u) p q cap g C S' := by
  have far : ∀ b, b ≠ p → (w.setCell ⟨p, j, none⟩ u).heap[b]? = w.heap[b]? := fun b hb => Below.heap_setCell w ⟨p, j, none⟩ u b hb
  have hq := far q h.ne.symm
  obtain ⟨bl, np, r1, r2, r3, dk, f1, f2, f3, f4⟩ := S'
  obtain rfl : bl = S.bl := hb
  obtain rfl : np = S.np := hn
  exact { h with
    self := by rw [heap_setCell_same w p j _ _ u h.self, hc]
    plain := by obtain ⟨cs, t, e⟩ := h.plain; exact ⟨cs, t, hq.trans e⟩
    blocks := fun i hi => (h.blocks i hi).kept hq (far _ (h.gp i hi).1) fun b hb => far _ (h.cp b hb).1
    cl := fun b hb => by simpa using h.cl b hb
    ints := hi }
end

theorem cells13 {w : World} {p : Nat} {a b c d e f g h i j k l m : Value} {t : TypeId} (hh : w.heap[p]? = some (.cells #[a, b, c, d, e, f, g, h, i, j, k, l, m] t (0, 0))) :
    w.cell? ⟨p, 0, none⟩ = some a ∧ w.cell? ⟨p, 1, none⟩ = some b ∧ w.cell? ⟨p, 2, none⟩ = some c ∧ w.cell? ⟨p, 3, none⟩ = some d ∧ w.cell? ⟨p, 4, none⟩ = some e ∧ w.cell? ⟨p, 5, none⟩ = some f ∧ w.cell? ⟨p, 6, none⟩ = some g ∧ w.cell? ⟨p, 7, none⟩ = some h ∧ w.cell? ⟨p, 8, none⟩ = some i ∧ w.cell? ⟨p, 9, none⟩ = some j ∧ w.cell? ⟨p, 10, none⟩ = some k ∧ w.cell? ⟨p, 11, none⟩ = some l ∧ w.cell? ⟨p, 12, none⟩ = some m := by
  simp [World.cell?, hh]
theorem LAt.drewN {w : World} {p q cap : Nat} {g : Nat → Nat} {C : Nat → Prop} {S : LS} (h : LAt w p q cap g C S) (n : Nat) : LAt (w.drewN n) p q cap g C S := h.below (drewN_below (Below.refl _ _) n)
theorem LAt.ints' {w : World} {p q cap : Nat} {g : Nat → Nat} {C : Nat → Prop} {S : LS} (h : LAt w p q cap g C S) : 0 ≤ S.f.left ∧ S.f.left ≤ 9223372036854775807 ∧ 0 ≤ S.w.left ∧ S.w.left ≤ 9223372036854775807 ∧ 0 ≤ S.c.left ∧ S.c.left ≤ 9223372036854775807 ∧ 0 ≤ S.keep := h.ints
end Go.Proofs.Yteghegojhhoppaa
