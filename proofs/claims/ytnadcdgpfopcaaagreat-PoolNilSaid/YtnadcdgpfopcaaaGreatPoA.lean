/- A pool in memory: a struct of twelve cells, a chip, two tables, each apart from the others; what is beside it is safe. -/
import Derived.Test.YtnadcdgpfopcaaaGreatGt
import Derived.Test.YtnadcdgpfopcaaaGreatGp
namespace Go.Proofs.YtnadcdgpfopcaaaGreat
open Go.RowKit

/-- A pool as a datum. -/
structure PS where
  S : LS
  B : Int
  P : Int
  Sp : Int
  K : Int
  U : Int
  bad : Int
  L : List Fd
  F : List Fd
  seq : Int
  op : Int
  down : Bool
def PS.cells (Q : PS) (c l f : Nat) : Array Value :=
  #[.pointer (some ⟨c, 0, none⟩), .int .i64 Q.B, .int .i64 Q.P, .int .i64 Q.Sp, .int .i64 Q.K, .int .i64 Q.U, .int .i64 Q.bad, .pointer (some ⟨l, 0, none⟩), .pointer (some ⟨f, 0, none⟩), .int .i64 Q.seq, .int .i64 Q.op, .bool Q.down]
/-- Blocks of w that are none of X. -/
abbrev Off (w : World) (X : Nat → Prop) (b : Nat) : Prop := b < w.heap.size ∧ ¬ X b
abbrev New (w w' : World) (b : Nat) : Prop := w.heap.size ≤ b ∧ b < w'.heap.size
/-- A pool at p: its chip at c owns X, what is live at l owns Y, what is new at f owns Z. -/
structure PoolAt (w : World) (p c l f : Nat) (X Y Z : Nat → Prop) (Q : PS) : Prop where
  self : w.heap[p]? = some (.cells (Q.cells c l f) 92 (0, 0))
  chip : Held w c (Off w X) Q.S
  live : Tab w l (Off w Y) Q.L
  fresh : Tab w f (Off w Z) Q.F
  xy : ∀ b, X b → ¬ Y b ∧ ¬ Z b ∧ b ≠ p ∧ b < w.heap.size
  yz : ∀ b, Y b → ¬ Z b ∧ b ≠ p ∧ b < w.heap.size
  zp : ∀ b, Z b → b ≠ p ∧ b < w.heap.size
/-- A pool at p over the chip at c; the blocks of x are none of its own. -/
def Pool (w : World) (p c : Nat) (x : Nat → Prop) (Q : PS) : Prop := ∃ l f X Y Z, PoolAt w p c l f X Y Z Q ∧ ∀ b, x b → b < w.heap.size ∧ ¬ X b ∧ ¬ Y b ∧ ¬ Z b ∧ b ≠ p
section
variable {w w' : World} {p c l f : Nat} {x y X Y Z : Nat → Prop} {Q Q' : PS} {S : LS} {T : List Fd}
theorem Turned.mono' {F G : Nat → Prop} {a b : World} (h : Turned F a b) (hG : ∀ i, F i → G i) : Turned G a b := ⟨h.os, h.tape, h.output, h.size, fun i hi k => h.block i hi fun f => k (hG i f)⟩
theorem Held.grow (h : Held w c x S) (ht : Turned x w w') : Held w' c (fun b => x b ∨ New w w' b) S := by
  obtain ⟨q, cap, g, C, h1, h2⟩ := h
  refine ⟨q, cap, g, C, h1.turned ht fun b hb hx => (h2 b hx).2 hb, fun b hx => ?_⟩
  rcases hx with hx | ⟨h3, h4⟩
  · exact ⟨Nat.lt_of_lt_of_le (h2 b hx).1 ht.size, (h2 b hx).2⟩
  · exact ⟨h4, fun ho => by have := h1.lt b ho; omega⟩
theorem off_new {b : Nat} (_hs : w.heap.size ≤ w'.heap.size) (h : Off w' X b) : Off w X b ∨ New w w' b := by
  rcases Nat.lt_or_ge b w.heap.size with k | k
  · exact .inl ⟨k, h.2⟩
  · exact .inr ⟨k, h.1⟩
/-- What turns blocks beside the pool alone leaves it; new blocks are beside it. -/
theorem Pool.grow (h : Pool w p c x Q) (ht : Turned x w w') : Pool w' p c (fun b => x b ∨ New w w' b) Q := by
  obtain ⟨l, f, X, Y, Z, h1, h2⟩ := h
  have hs := ht.size
  have h0 := lt_size h1.self
  have hp : w'.heap[p]? = w.heap[p]? := ht.block p h0 fun k => (h2 p k).2.2.2.2 rfl
  refine ⟨l, f, X, Y, Z, ⟨hp.trans h1.self, ?_, ?_, ?_, fun b hb => ?_, fun b hb => ?_, fun b hb => ?_⟩, fun b hb => ?_⟩
  · refine (h1.chip.grow (ht.mono' fun b hb => ⟨(h2 b hb).1, (h2 b hb).2.1⟩)).less fun b hb => off_new hs hb
  · exact (h1.live.grow (ht.mono' fun b hb => ⟨(h2 b hb).1, (h2 b hb).2.2.1⟩)).less fun b hb => off_new hs hb
  · exact (h1.fresh.grow (ht.mono' fun b hb => ⟨(h2 b hb).1, (h2 b hb).2.2.2.1⟩)).less fun b hb => off_new hs hb
  · obtain ⟨a, b1, c1, d⟩ := h1.xy b hb; exact ⟨a, b1, c1, by omega⟩
  · obtain ⟨a, b1, d⟩ := h1.yz b hb; exact ⟨a, b1, by omega⟩
  · obtain ⟨a, d⟩ := h1.zp b hb; exact ⟨a, by omega⟩
  · rcases hb with hb | ⟨k1, k2⟩
    · obtain ⟨a, r⟩ := h2 b hb; exact ⟨by omega, r⟩
    · refine ⟨k2, fun k => ?_, fun k => ?_, fun k => ?_, fun k => ?_⟩
      · have := (h1.xy b k).2.2.2; omega
      · have := (h1.yz b k).2.2; omega
      · have := (h1.zp b k).2; omega
      · omega
theorem Pool.less (h : Pool w p c x Q) (hy : ∀ b, y b → x b) : Pool w p c y Q := by
  obtain ⟨l, f, X, Y, Z, h1, h2⟩ := h
  exact ⟨l, f, X, Y, Z, h1, fun b hb => h2 b (hy b hb)⟩
theorem Pool.turned (h : Pool w p c x Q) (ht : Turned x w w') : Pool w' p c x Q := (h.grow ht).less fun _ k => .inl k
theorem Pool.more (h : Pool w p c x Q) (hb : Below w.heap.size w w') : Pool w' p c (fun b => x b ∨ New w w' b) Q := h.grow (.of_below hb)
theorem Pool.below (h : Pool w p c x Q) (hb : Below w.heap.size w w') : Pool w' p c x Q := h.turned (.of_below hb)
theorem Pool.there (h : Pool w p c x Q) : ∀ b, x b → b < w.heap.size := by
  obtain ⟨l, f, X, Y, Z, h1, h2⟩ := h
  exact fun b hb => (h2 b hb).1
theorem Pool.lt (h : Pool w p c x Q) : p < w.heap.size := by
  obtain ⟨l, f, X, Y, Z, h1, h2⟩ := h
  exact lt_size h1.self
/-- The chip is turned; new blocks are its own. -/
theorem PoolAt.chip_op (h : PoolAt w p c l f X Y Z Q) (h2 : ∀ b, x b → b < w.heap.size ∧ ¬ X b ∧ ¬ Y b ∧ ¬ Z b ∧ b ≠ p) (hc : Held w' c (Off w X) S) (hs : Safe (Off w X) w w') : Pool w' p c x { Q with S := S } ∧ Safe x w w' := by
  have hz := hs.size
  have h0 := lt_size h.self
  have ht : ∀ V : Nat → Prop, (∀ b, V b → ¬ X b) → Turned (Off w V) w w' := fun V hV => ⟨hs.os, hs.tape, hs.output, hs.size, fun i hi k => hs.block hi ⟨hi, fun kx => k ⟨hi, fun kv => hV i kv kx⟩⟩⟩
  refine ⟨⟨l, f, fun b => X b ∨ New w w' b, Y, Z, ⟨?_, ?_, ?_, ?_, fun b hb => ?_, fun b hb => ?_, fun b hb => ?_⟩, fun b hb => ?_⟩, ⟨hs.os, hs.tape, hs.output, hs.size, fun i hi k => hs.block hi ⟨hi, fun kx => k fun kk => (h2 i kk).2.1 kx⟩⟩⟩
  · exact (hs.block h0 ⟨h0, fun k => (h.xy p k).2.2.1 rfl⟩).trans h.self
  · exact hc.less fun b hb => by
      rcases off_new (X := X) hz ⟨hb.1, fun k => hb.2 (.inl k)⟩ with k | k
      · exact k
      · exact absurd (.inr k) hb.2
  · exact (h.live.grow (ht Y fun b hb hx => (h.xy b hx).1 hb)).less fun b hb => off_new hz hb
  · exact (h.fresh.grow (ht Z fun b hb hx => (h.xy b hx).2.1 hb)).less fun b hb => off_new hz hb
  · rcases hb with hb | ⟨k1, k2⟩
    · obtain ⟨a, b1, c1, d⟩ := h.xy b hb; exact ⟨a, b1, c1, by omega⟩
    · exact ⟨fun k => by have := (h.yz b k).2.2; omega, fun k => by have := (h.zp b k).2; omega, by omega, k2⟩
  · obtain ⟨a, b1, d⟩ := h.yz b hb; exact ⟨a, b1, by omega⟩
  · obtain ⟨a, d⟩ := h.zp b hb; exact ⟨a, by omega⟩
  · obtain ⟨a, b1, c1, d, e⟩ := h2 b hb
    exact ⟨by omega, fun k => k.elim b1 fun k => by have := k.1; omega, c1, d, e⟩
/-- The chip is turned; new blocks are the caller's. -/
theorem PoolAt.chip_read (h : PoolAt w p c l f X Y Z Q) (h2 : ∀ b, x b → b < w.heap.size ∧ ¬ X b ∧ ¬ Y b ∧ ¬ Z b ∧ b ≠ p) (hc : Held w' c (fun b => Off w X b ∨ New w w' b) S) (hs : Safe (Off w X) w w') : Pool w' p c (fun b => x b ∨ New w w' b) { Q with S := S } ∧ Safe x w w' := by
  have hz := hs.size
  have h0 := lt_size h.self
  have ht : ∀ V : Nat → Prop, (∀ b, V b → ¬ X b) → Turned (Off w V) w w' := fun V hV => ⟨hs.os, hs.tape, hs.output, hs.size, fun i hi k => hs.block hi ⟨hi, fun kx => k ⟨hi, fun kv => hV i kv kx⟩⟩⟩
  refine ⟨⟨l, f, X, Y, Z, ⟨?_, ?_, ?_, ?_, fun b hb => ?_, fun b hb => ?_, fun b hb => ?_⟩, fun b hb => ?_⟩, ⟨hs.os, hs.tape, hs.output, hs.size, fun i hi k => hs.block hi ⟨hi, fun kx => k fun kk => (h2 i kk).2.1 kx⟩⟩⟩
  · exact (hs.block h0 ⟨h0, fun k => (h.xy p k).2.2.1 rfl⟩).trans h.self
  · exact hc.less fun b hb => off_new hz hb
  · exact (h.live.grow (ht Y fun b hb hx => (h.xy b hx).1 hb)).less fun b hb => off_new hz hb
  · exact (h.fresh.grow (ht Z fun b hb hx => (h.xy b hx).2.1 hb)).less fun b hb => off_new hz hb
  · obtain ⟨a, b1, c1, d⟩ := h.xy b hb; exact ⟨a, b1, c1, by omega⟩
  · obtain ⟨a, b1, d⟩ := h.yz b hb; exact ⟨a, b1, by omega⟩
  · obtain ⟨a, d⟩ := h.zp b hb; exact ⟨a, by omega⟩
  · rcases hb with hb | ⟨k1, k2⟩
    · obtain ⟨a, r⟩ := h2 b hb; exact ⟨by omega, r⟩
    · refine ⟨k2, fun k => ?_, fun k => ?_, fun k => ?_, fun k => ?_⟩
      · have := (h.xy b k).2.2.2; omega
      · have := (h.yz b k).2.2; omega
      · have := (h.zp b k).2; omega
      · omega
/-- The table of what is live is turned; new blocks are its own. -/
theorem PoolAt.live_op (h : PoolAt w p c l f X Y Z Q) (h2 : ∀ b, x b → b < w.heap.size ∧ ¬ X b ∧ ¬ Y b ∧ ¬ Z b ∧ b ≠ p) (hc : Tab w' l (Off w Y) T) (hs : Safe (Off w Y) w w') : Pool w' p c x { Q with L := T } ∧ Safe x w w' := by
  have hz := hs.size
  have h0 := lt_size h.self
  have ht : ∀ V : Nat → Prop, (∀ b, V b → ¬ Y b) → Turned (Off w V) w w' := fun V hV => ⟨hs.os, hs.tape, hs.output, hs.size, fun i hi k => hs.block hi ⟨hi, fun kx => k ⟨hi, fun kv => hV i kv kx⟩⟩⟩
  refine ⟨⟨l, f, X, fun b => Y b ∨ New w w' b, Z, ⟨?_, ?_, ?_, ?_, fun b hb => ?_, fun b hb => ?_, fun b hb => ?_⟩, fun b hb => ?_⟩, ⟨hs.os, hs.tape, hs.output, hs.size, fun i hi k => hs.block hi ⟨hi, fun kx => k fun kk => (h2 i kk).2.2.1 kx⟩⟩⟩
  · exact (hs.block h0 ⟨h0, fun k => (h.yz p k).2.1 rfl⟩).trans h.self
  · exact (h.chip.grow (ht X fun b hb hx => (h.xy b hb).1 hx)).less fun b hb => off_new hz hb
  · exact hc.less fun b hb => by
      rcases off_new (X := Y) hz ⟨hb.1, fun k => hb.2 (.inl k)⟩ with k | k
      · exact k
      · exact absurd (.inr k) hb.2
  · exact (h.fresh.grow (ht Z fun b hb hx => (h.yz b hx).1 hb)).less fun b hb => off_new hz hb
  · obtain ⟨a, b1, c1, d⟩ := h.xy b hb; exact ⟨fun k => k.elim a fun k => by have := k.1; omega, b1, c1, by omega⟩
  · rcases hb with hb | ⟨k1, k2⟩
    · obtain ⟨a, b1, d⟩ := h.yz b hb; exact ⟨a, b1, by omega⟩
    · exact ⟨fun k => by have := (h.zp b k).2; omega, by omega, k2⟩
  · obtain ⟨a, d⟩ := h.zp b hb; exact ⟨a, by omega⟩
  · obtain ⟨a, b1, c1, d, e⟩ := h2 b hb
    exact ⟨by omega, b1, fun k => k.elim c1 fun k => by have := k.1; omega, d, e⟩
/-- The table of what is new is turned; new blocks are its own. -/
theorem PoolAt.fresh_op (h : PoolAt w p c l f X Y Z Q) (h2 : ∀ b, x b → b < w.heap.size ∧ ¬ X b ∧ ¬ Y b ∧ ¬ Z b ∧ b ≠ p) (hc : Tab w' f (Off w Z) T) (hs : Safe (Off w Z) w w') : Pool w' p c x { Q with F := T } ∧ Safe x w w' := by
  have hz := hs.size
  have h0 := lt_size h.self
  have ht : ∀ V : Nat → Prop, (∀ b, V b → ¬ Z b) → Turned (Off w V) w w' := fun V hV => ⟨hs.os, hs.tape, hs.output, hs.size, fun i hi k => hs.block hi ⟨hi, fun kx => k ⟨hi, fun kv => hV i kv kx⟩⟩⟩
  refine ⟨⟨l, f, X, Y, fun b => Z b ∨ New w w' b, ⟨?_, ?_, ?_, ?_, fun b hb => ?_, fun b hb => ?_, fun b hb => ?_⟩, fun b hb => ?_⟩, ⟨hs.os, hs.tape, hs.output, hs.size, fun i hi k => hs.block hi ⟨hi, fun kx => k fun kk => (h2 i kk).2.2.2.1 kx⟩⟩⟩
  · exact (hs.block h0 ⟨h0, fun k => (h.zp p k).1 rfl⟩).trans h.self
  · exact (h.chip.grow (ht X fun b hb hx => (h.xy b hb).2.1 hx)).less fun b hb => off_new hz hb
  · exact (h.live.grow (ht Y fun b hb hx => (h.yz b hb).1 hx)).less fun b hb => off_new hz hb
  · exact hc.less fun b hb => by
      rcases off_new (X := Z) hz ⟨hb.1, fun k => hb.2 (.inl k)⟩ with k | k
      · exact k
      · exact absurd (.inr k) hb.2
  · obtain ⟨a, b1, c1, d⟩ := h.xy b hb; exact ⟨a, fun k => k.elim b1 fun k => by have := k.1; omega, c1, by omega⟩
  · obtain ⟨a, b1, d⟩ := h.yz b hb; exact ⟨fun k => k.elim a fun k => by have := k.1; omega, b1, by omega⟩
  · rcases hb with hb | ⟨k1, k2⟩
    · obtain ⟨a, d⟩ := h.zp b hb; exact ⟨a, by omega⟩
    · exact ⟨by omega, k2⟩
  · obtain ⟨a, b1, c1, d, e⟩ := h2 b hb
    exact ⟨by omega, b1, c1, fun k => k.elim d fun k => by have := k.1; omega, e⟩
/-- A number of its own is written. -/
theorem Pool.set {j : Nat} {u : Value} (h : Pool w p c x Q) (hS : Q'.S = Q.S) (hL : Q'.L = Q.L) (hF : Q'.F = Q.F) (hc : ∀ l f, (Q.cells c l f).setIfInBounds j u = Q'.cells c l f) : Pool (w.setCell ⟨p, j, none⟩ u) p c x Q' ∧ Safe x w (w.setCell ⟨p, j, none⟩ u) := by
  obtain ⟨l, f, X, Y, Z, h1, h2⟩ := h
  have hf : ∀ b, b ≠ p → (w.setCell ⟨p, j, none⟩ u).heap[b]? = w.heap[b]? := fun b hb => Below.heap_setCell w ⟨p, j, none⟩ u b hb
  have hz : (w.setCell ⟨p, j, none⟩ u).heap.size = w.heap.size := by simp
  have ht : ∀ V : Nat → Prop, (∀ b, V b → b ≠ p) → Turned (Off w V) w (w.setCell ⟨p, j, none⟩ u) := fun V hV => (Turned.refl _ w).setCell (fun hp => ⟨hp, fun k => hV p k rfl⟩) u
  refine ⟨⟨l, f, X, Y, Z, ⟨?_, ?_, ?_, ?_, fun b hb => by rw [hz]; exact h1.xy b hb, fun b hb => by rw [hz]; exact h1.yz b hb, fun b hb => by rw [hz]; exact h1.zp b hb⟩, fun b hb => by rw [hz]; exact h2 b hb⟩, ⟨rfl, rfl, rfl, by omega, fun i hi k => hf i fun e => k fun hx => (h2 i hx).2.2.2.2 e⟩⟩
  · rw [heap_setCell_same w p j _ _ u h1.self, hc]
  · rw [hS]; exact (h1.chip.grow (ht X fun b hb => (h1.xy b hb).2.2.1)).less fun b hb => .inl ⟨by rw [← hz]; exact hb.1, hb.2⟩
  · rw [hL]; exact (h1.live.grow (ht Y fun b hb => (h1.yz b hb).2.1)).less fun b hb => .inl ⟨by rw [← hz]; exact hb.1, hb.2⟩
  · rw [hF]; exact (h1.fresh.grow (ht Z fun b hb => (h1.zp b hb).1)).less fun b hb => .inl ⟨by rw [← hz]; exact hb.1, hb.2⟩
end
end Go.Proofs.YtnadcdgpfopcaaaGreat
