/- The reference's chip in memory: a struct, a row of blocks, a row of pages for each block, bytes for each page; what a call may turn. -/
import Derived.Test.YtchghdpfgamfpaaSeq
namespace Go.Proofs.Ytchghdpfgamfpaa
open Go.RowKit

theorem drewN_below {B : Nat} {w w' : World} (h : Below B w w') (n : Nat) : Below B w (w'.drewN n) := ⟨h.os, h.tape, h.output, h.size, h.block⟩

structure Bk where
  bad : Bool
  next : Int
  count : Int
  pages : List (List UInt8)
/-- A chip as a datum. -/
structure CS where
  bl : List Bk
  np : Nat
  fails : Int
  worns : Int
  cuts : Int
  keep : Int
  dark : Bool
  rd : Int
  pr : Int
  er : Int

/-- What a call turned: blocks of F alone, and new ones. -/
structure Turned (F : Nat → Prop) (w w' : World) : Prop where
  os : w'.os = w.os
  tape : w'.tape = w.tape
  output : w'.output = w.output
  size : w.heap.size ≤ w'.heap.size
  block : ∀ i, i < w.heap.size → ¬ F i → w'.heap[i]? = w.heap[i]?
theorem Turned.refl (F : Nat → Prop) (w : World) : Turned F w w := ⟨rfl, rfl, rfl, Nat.le_refl _, fun _ _ _ => rfl⟩
theorem Turned.of_below {F : Nat → Prop} {w w' : World} (h : Below w.heap.size w w') : Turned F w w' := ⟨h.os, h.tape, h.output, h.size, fun i hi _ => h.block i hi⟩
theorem Turned.trans {F G : Nat → Prop} {a b c : World} (h : Turned F a b) (k : Turned G b c) (hG : ∀ i, i < a.heap.size → G i → F i) : Turned F a c :=
  ⟨k.os.trans h.os, k.tape.trans h.tape, k.output.trans h.output, Nat.le_trans h.size k.size, fun i hi hF => (k.block i (Nat.lt_of_lt_of_le hi h.size) fun g => hF (hG i hi g)).trans (h.block i hi hF)⟩
theorem Turned.setCell {F : Nat → Prop} {a b : World} (h : Turned F a b) {p : Addr} (hp : p.block < a.heap.size → F p.block) (u : Value) : Turned F a (b.setCell p u) :=
  ⟨h.os, h.tape, h.output, by simpa using h.size, fun i hi hF => (Below.heap_setCell b p u i (fun e => hF (by subst e; exact hp hi))).trans (h.block i hi hF)⟩
theorem Turned.alloc {F : Nat → Prop} {a b : World} (h : Turned F a b) (o : Obj) : Turned F a (b.alloc o) :=
  h.trans (G := F) (.of_below ((Below.refl _ _).alloc (Nat.le_refl _) o)) fun _ _ g => g
theorem Turned.drew {F : Nat → Prop} {a b : World} (h : Turned F a b) : Turned F a b.drew := h.trans (G := F) (.of_below (Below.refl _ _).drew) fun _ _ g => g

/-- Bytes that lie in a block of C. -/
def CB (w : World) (C : Nat → Prop) (A : Option Addr) (l : List UInt8) : Prop :=
  0 < l.length → ∃ ad, A = some ad ∧ C ad.block ∧ ∀ j (h : j < l.length), w.cell? (ad.add j) = some (ub l[j])
section
variable {w w' : World} {C D : Nat → Prop} {A : Option Addr} {l : List UInt8}
theorem CB.nil : CB w C A [] := fun h => absurd h (by simp)
theorem CB.keep (h : CB w C A l) (hk : ∀ b, C b → w'.heap[b]? = w.heap[b]?) (hD : ∀ b, C b → D b) : CB w' D A l := fun hn => by
  obtain ⟨ad, e, hb, hc⟩ := h hn
  exact ⟨ad, e, hD _ hb, fun j hj => (World.cell?_of_block (hk _ (by rw [block_add]; exact hb))).trans (hc j hj)⟩
theorem CB.rb (h : CB w C A l) {B : Nat} (hB : ∀ b, C b → b < B) : RB w B A l := fun hn => by
  obtain ⟨ad, e, hb, hc⟩ := h hn
  exact ⟨ad, e, hB _ hb, hc⟩
end

/-- The cells of a chip's struct. -/
def CS.cells (S : CS) (q cap : Nat) : Array Value :=
  #[.slice (some ⟨q, 0, none⟩) S.bl.length cap, .int .i64 S.np, .int .i64 S.fails, .int .i64 S.worns, .int .i64 S.cuts, .int .i64 S.keep, .bool S.dark, .int .i64 S.rd, .int .i64 S.pr, .int .i64 S.er]
/-- One page's slice. -/
def PageAt (w : World) (C : Nat → Prop) (a : Addr) (l : List UInt8) : Prop := ∃ A c, w.cell? a = some (.slice A l.length c) ∧ l.length ≤ c ∧ l.length ≤ 2000 ∧ CB w C A l
/-- A block of the chip, in row q at i, its pages at g. -/
structure BkAt (w : World) (C : Nat → Prop) (q i g np : Nat) (b : Bk) : Prop where
  bad : w.cell? ⟨q, i * 4, none⟩ = some (.bool b.bad)
  next : w.cell? ⟨q, i * 4 + 1, none⟩ = some (.int .i64 b.next)
  count : w.cell? ⟨q, i * 4 + 2, none⟩ = some (.int .i64 b.count)
  row : w.cell? ⟨q, i * 4 + 3, none⟩ = some (.slice (some ⟨g, 0, none⟩) np np)
  len : b.pages.length = np
  plain : ∃ cs t, w.heap[g]? = some (.cells cs t (0, 0))
  pages : ∀ j (h : j < b.pages.length), PageAt w C ⟨g, j, none⟩ b.pages[j]
  nextIn : 0 ≤ b.next ∧ b.next ≤ np
/-- A chip of the reference at p: its row of blocks at q, its pages at g, its bytes in blocks of C. -/
structure ChipAt (w : World) (p q cap : Nat) (g : Nat → Nat) (C : Nat → Prop) (S : CS) : Prop where
  self : w.heap[p]? = some (.cells (S.cells q cap) 43 (0, 0))
  plain : ∃ cs t, w.heap[q]? = some (.cells cs t (0, 0))
  blocks : ∀ i (h : i < S.bl.length), BkAt w C q i (g i) S.np S.bl[i]
  ne : p ≠ q
  gp : ∀ i, i < S.bl.length → g i ≠ p ∧ g i ≠ q
  gg : ∀ i j, i < S.bl.length → j < S.bl.length → g i = g j → i = j
  cp : ∀ b, C b → b ≠ p ∧ b ≠ q ∧ ∀ i, i < S.bl.length → b ≠ g i
  cl : ∀ b, C b → b < w.heap.size
  cap : S.bl.length ≤ cap
  small : S.bl.length ≤ 64 ∧ 1 ≤ S.np ∧ S.np ≤ 32
  ints : 0 ≤ S.fails ∧ S.fails ≤ 1099511627776 ∧ 0 ≤ S.worns ∧ S.worns ≤ 1099511627776 ∧ 0 ≤ S.cuts ∧ S.cuts ≤ 1099511627776 ∧ 0 ≤ S.keep
/-- All blocks that a chip stands in. -/
def Own (p q : Nat) (g : Nat → Nat) (C : Nat → Prop) (n : Nat) (b : Nat) : Prop := b = p ∨ b = q ∨ (∃ i, i < n ∧ b = g i) ∨ C b
section
variable {w w' : World} {p q cap : Nat} {g : Nat → Nat} {C : Nat → Prop} {S S' : CS}
theorem ChipAt.lt (h : ChipAt w p q cap g C S) : ∀ b, Own p q g C S.bl.length b → b < w.heap.size := fun b hb => by
  rcases hb with rfl | rfl | ⟨i, hi, rfl⟩ | hb
  · exact lt_size h.self
  · obtain ⟨cs, t, e⟩ := h.plain; exact lt_size e
  · obtain ⟨cs, t, e⟩ := (h.blocks i hi).plain; exact lt_size e
  · exact h.cl b hb
theorem PageAt.kept {a : Addr} {l : List UInt8} (h : PageAt w C a l) (ha : w'.heap[a.block]? = w.heap[a.block]?) (hC : ∀ b, C b → w'.heap[b]? = w.heap[b]?) : PageAt w' C a l := by
  obtain ⟨A, c, h1, h2, h4, h3⟩ := h
  exact ⟨A, c, (World.cell?_of_block ha).trans h1, h2, h4, h3.keep hC fun _ h => h⟩
theorem BkAt.kept {i k np : Nat} {b : Bk} (h : BkAt w C q i k np b) (hq : w'.heap[q]? = w.heap[q]?) (hk : w'.heap[k]? = w.heap[k]?) (hC : ∀ b, C b → w'.heap[b]? = w.heap[b]?) : BkAt w' C q i k np b where
  bad := (World.cell?_of_block hq).trans h.bad
  next := (World.cell?_of_block hq).trans h.next
  count := (World.cell?_of_block hq).trans h.count
  row := (World.cell?_of_block hq).trans h.row
  len := h.len
  plain := by obtain ⟨cs, t, e⟩ := h.plain; exact ⟨cs, t, hk.trans e⟩
  pages := fun j hj => (h.pages j hj).kept hk hC
  nextIn := h.nextIn
/-- What turns no block of the chip leaves it. -/
theorem ChipAt.kept (h : ChipAt w p q cap g C S) (hs : w.heap.size ≤ w'.heap.size) (hk : ∀ b, Own p q g C S.bl.length b → w'.heap[b]? = w.heap[b]?) : ChipAt w' p q cap g C S :=
  { h with
    self := (hk p (.inl rfl)).trans h.self
    plain := by obtain ⟨cs, t, e⟩ := h.plain; exact ⟨cs, t, (hk q (.inr (.inl rfl))).trans e⟩
    blocks := fun i hi => (h.blocks i hi).kept (hk q (.inr (.inl rfl))) (hk _ (.inr (.inr (.inl ⟨i, hi, rfl⟩)))) fun b hb => hk b (.inr (.inr (.inr hb)))
    cl := fun b hb => Nat.lt_of_lt_of_le (h.cl b hb) hs }
theorem ChipAt.turned {F : Nat → Prop} (h : ChipAt w p q cap g C S) (ht : Turned F w w') (hF : ∀ b, Own p q g C S.bl.length b → ¬ F b) : ChipAt w' p q cap g C S :=
  h.kept ht.size fun b hb => ht.block b (h.lt b hb) (hF b hb)
theorem ChipAt.below (h : ChipAt w p q cap g C S) (hb : Below w.heap.size w w') : ChipAt w' p q cap g C S := h.kept hb.size fun b ho => hb.block b (h.lt b ho)
theorem ChipAt.drew (h : ChipAt w p q cap g C S) : ChipAt w.drew p q cap g C S := h.below (Below.refl _ _).drew
theorem ChipAt.alloc (h : ChipAt w p q cap g C S) (o : Obj) : ChipAt (w.alloc o) p q cap g C S := h.below ((Below.refl _ _).alloc (Nat.le_refl _) o)
/-- The struct's own cells are written. -/
theorem ChipAt.self_set (h : ChipAt w p q cap g C S) {j : Nat} {u : Value} (hb : S'.bl = S.bl) (hn : S'.np = S.np) (hc : (S.cells q cap).setIfInBounds j u = S'.cells q cap) (hi : 0 ≤ S'.fails ∧ S'.fails ≤ 1099511627776 ∧ 0 ≤ S'.worns ∧ S'.worns ≤ 1099511627776 ∧ 0 ≤ S'.cuts ∧ S'.cuts ≤ 1099511627776 ∧ 0 ≤ S'.keep) :
    ChipAt (w.setCell ⟨p, j, none⟩ u) p q cap g C S' := by
  have far : ∀ b, b ≠ p → (w.setCell ⟨p, j, none⟩ u).heap[b]? = w.heap[b]? := fun b hb => Below.heap_setCell w ⟨p, j, none⟩ u b hb
  have hq := far q h.ne.symm
  obtain ⟨bl, np, f1, f2, f3, f4, dk, r1, r2, r3⟩ := S'
  obtain rfl : bl = S.bl := hb
  obtain rfl : np = S.np := hn
  exact { h with
    self := by rw [heap_setCell_same w p j _ _ u h.self, hc]
    plain := by obtain ⟨cs, t, e⟩ := h.plain; exact ⟨cs, t, hq.trans e⟩
    blocks := fun i hi => (h.blocks i hi).kept hq (far _ (h.gp i hi).1) fun b hb => far _ (h.cp b hb).1
    cl := fun b hb => by simpa using h.cl b hb
    ints := hi }
end
end Go.Proofs.Ytchghdpfgamfpaa
