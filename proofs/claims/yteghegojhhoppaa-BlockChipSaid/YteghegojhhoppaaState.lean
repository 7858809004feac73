/- The reference's chip in memory: a struct, a row of blocks, a row of pages for each block, bytes for each page; what a call may turn. -/
import Derived.Test.YteghegojhhoppaaSeq
namespace Go.Proofs.Yteghegojhhoppaa
open Go.RowKit

theorem drewN_below {B : Nat} {w w' : World} (h : Below B w w') (n : Nat) : Below B w (w'.drewN n) := ⟨h.os, h.tape, h.output, h.size, h.block⟩

structure Bk where
  bad : Bool
  next : Int
  count : Int
  pages : List (List UInt8)
/-- A chip as a datum. -/
structure CS where
  bl : List Bk
  np : Nat
  fails : Int
  worns : Int
  cuts : Int
  keep : Int
  dark : Bool
  rd : Int
  pr : Int
  er : Int

/-- What a call turned: blocks of F alone, and new ones. -/
structure Turned (F : Nat → Prop) (w w' : World) : Prop where
  os : w'.os = w.os
  tape : w'.tape = w.tape
  output : w'.output = w.output
  size : w.heap.size ≤ w'.heap.size
  block : ∀ i, i < w.heap.size → ¬ F i → w'.heap[i]? = w.heap[i]?
theorem Turned.refl (F : Nat → Prop) (w : World) : Turned F w w := ⟨rfl, rfl, rfl, Nat.le_refl _, fun _ _ _ => rfl⟩
theorem Turned.of_below {F : Nat → Prop} {w w' : World} (h : Below w.heap.size w w') : Turned F w w' := ⟨h.os, h.tape, h.output, h.size, fun i hi _ => h.block i hi⟩
theorem Turned.trans {F G : Nat → Prop} {a b c : World} (h : Turned F a b) (k : Turned G b c) (hG : ∀ i, i < a.heap.size → G i → F i) : Turned F a c :=
  ⟨k.os.trans h.os, k.tape.trans h.tape, k.output.trans h.output, Nat.le_trans h.size k.size, fun i hi hF => (k.block i (Nat.lt_of_lt_of_le hi h.size) fun g => hF (hG i hi g)).trans (h.block i hi hF)⟩
theorem Turned.setCell {F : Nat → Prop} {a b : World} (h : Turned F a b) {p : Addr} (hp : p.block < a.heap.size → F p.block) (u : Value) : Turned F a (b.setCell p u) :=
  ⟨h.os, h.tape, h.output, by simpa using h.size, fun i hi hF => (Below.heap_setCell b p u i (fun e => hF (by subst e; exact hp hi))).trans (h.block i hi hF)⟩
theorem Turned.alloc {F : Nat → Prop} {a b : World} (h : Turned F a b) (o : Obj) : Turned F a (b.alloc o) :=
  h.trans (G := F) (.of_below ((Below.refl _ _).alloc (Nat.le_refl _) o)) fun _ _ g => g
theorem Turned.drew {F : Nat → Prop} {a b : World} (h : Turned F a b) : Turned F a b.drew := h.trans (G := F) (.of_below (Below.refl _ _).drew) fun _ _ g => g

/-- Bytes that lie in a block of C. -/
def CB (w : World) (C : Nat → Prop) (A : Option Addr) (l : List UInt8) : Prop :=
  0 < l.length → ∃ ad, A = some ad ∧ C ad.block ∧ ∀ j (h : j < l.length), w.cell? (ad.add j) = some (ub l[j])
section
variable {w w' : World} {C D : Nat → Prop} {A : Option Addr} {l : List UInt8}
theorem CB.nil : CB w C A [] := fun h => absurd h (by simp)
theorem CB.keep (h : CB w C A l) (hk : ∀ b, C b → w'.heap[b]? = w.heap[b]?) (hD : ∀ b, C b → D b) : CB w' D A l := fun hn => by
  obtain ⟨ad, e, hb, hc⟩ := h hn
  exact ⟨ad, e, hD _ hb, fun j hj => (World.cell?_of_block (hk _ (by rw [block_add]; exact hb))).trans (hc j hj)⟩
theorem CB.rb (h : CB w C A l) {B : Nat} (hB : ∀ b, C b → b < B) : RB w B A l := fun hn => by
  obtain ⟨ad, e, hb, hc⟩ := h hn
  exact ⟨ad, e, hB _ hb, hc⟩
end

/-- The cells of a chip's struct. -/
def CS.cells (S : CS) (q cap : Nat) : Array Value :=
  #[.slice (some ⟨q, 0, none⟩) S.bl.length cap, .int .i64 S.np, .int .i64 S.fails, .int .i64 S.worns, .int .i64 S.cuts, .int .i64 S.keep, .bool S.dark, .int .i64 S.rd, .int .i64 S.pr, .int .i64 S.er]
/-- One page's slice. -/
def PageAt (w : World) (C : Nat → Prop) (a : Addr) (l : List UInt8) : Prop := ∃ A c, w.cell? a = some (.slice A l.length c) ∧ l.length ≤ c ∧ l.length ≤ 2000 ∧ CB w C A l
/-- A block of the chip, in row q at i, its pages at g. -/
structure BkAt (w : World) (C : Nat → Prop) (q i g np : Nat) (b : Bk) : Prop where
  bad : w.cell? ⟨q, i * 4, none⟩ = some (.bool b.bad)
  next : w.cell? ⟨q, i * 4 + 1, none⟩ = some (.int .i64 b.next)
  count : w.cell? ⟨q, i * 4 + 2, none⟩ = some (.int .i64 b.count)
  row : w.cell? ⟨q, i * 4 + 3, none⟩ = some (.slice (some ⟨g, 0, none⟩) np np)
  len : b.pages.length = np
  plain : ∃ cs t, w.heap[g]? = some (.cells cs t (0, 0))
  pages : ∀ j (h : j < b.pages.length), PageAt w C ⟨g, j, none⟩ b.pages[j]
  nextIn : 0 ≤ b.next ∧ b.next ≤ np
/-- All blocks that a chip stands in. -/
def Own (p q : Nat) (g : Nat → Nat) (C : Nat → Prop) (n : Nat) (b : Nat) : Prop := b = p ∨ b = q ∨ (∃ i, i < n ∧ b = g i) ∨ C b
section
variable {w w' : World} {p q cap : Nat} {g : Nat → Nat} {C : Nat → Prop} {S S' : CS}
theorem PageAt.kept {a : Addr} {l : List UInt8} (h : PageAt w C a l) (ha : w'.heap[a.block]? = w.heap[a.block]?) (hC : ∀ b, C b → w'.heap[b]? = w.heap[b]?) : PageAt w' C a l := by
  obtain ⟨A, c, h1, h2, h4, h3⟩ := h
  exact ⟨A, c, (World.cell?_of_block ha).trans h1, h2, h4, h3.keep hC fun _ h => h⟩
theorem BkAt.kept {i k np : Nat} {b : Bk} (h : BkAt w C q i k np b) (hq : w'.heap[q]? = w.heap[q]?) (hk : w'.heap[k]? = w.heap[k]?) (hC : ∀ b, C b → w'.heap[b]? = w.heap[b]?) : BkAt w' C q i k np b where
  bad := (World.cell?_of_block hq).trans h.bad
  next := (World.cell?_of_block hq).trans h.next
  count := (World.cell?_of_block hq).trans h.count
  row := (World.cell?_of_block hq).trans h.row
  len := h.len
  plain := by obtain ⟨cs, t, e⟩ := h.plain; exact ⟨cs, t, hk.trans e⟩
  pages := fun j hj => (h.pages j hj).kept hk hC
  nextIn := h.nextIn
end
end Go.Proofs.Yteghegojhhoppaa
