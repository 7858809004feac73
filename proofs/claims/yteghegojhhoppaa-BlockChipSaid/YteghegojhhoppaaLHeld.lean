/- The landed chip as a law's walk holds it: what it is, and which blocks are safe from it. -/
import Derived.Test.YteghegojhhoppaaLNew
import Derived.Test.YteghegojhhoppaaRegSt
namespace Go.Proofs.Yteghegojhhoppaa
open Go.RowKit

/-- A chip at p; the blocks of x are none of its own. -/
def Held (w : World) (p : Nat) (x : Nat → Prop) (S : LS) : Prop := ∃ q cap g C, LAt w p q cap g C S ∧ ∀ b, x b → b < w.heap.size ∧ ¬ Own p q g C S.bl.length b
/-- What a call turned: nothing that is safe. -/
abbrev Safe (x : Nat → Prop) (w w' : World) : Prop := Turned (fun b => ¬ x b) w w'
section
variable {w w' : World} {p : Nat} {x y : Nat → Prop} {S S' : LS}
theorem Held.below (h : Held w p x S) (hb : Below w.heap.size w w') : Held w' p x S := by
  obtain ⟨q, cap, g, C, h1, h2⟩ := h
  exact ⟨q, cap, g, C, h1.below hb, fun b hx => ⟨Nat.lt_of_lt_of_le (h2 b hx).1 hb.size, (h2 b hx).2⟩⟩
/-- New blocks are safe. -/
theorem Held.more (h : Held w p x S) (hb : Below w.heap.size w w') : Held w' p (fun b => x b ∨ (w.heap.size ≤ b ∧ b < w'.heap.size)) S := by
  obtain ⟨q, cap, g, C, h1, h2⟩ := h
  refine ⟨q, cap, g, C, h1.below hb, fun b hx => ?_⟩
  rcases hx with hx | ⟨h3, h4⟩
  · exact ⟨Nat.lt_of_lt_of_le (h2 b hx).1 hb.size, (h2 b hx).2⟩
  · exact ⟨h4, fun ho => by have := h1.lt b ho; omega⟩
theorem Held.less (h : Held w p x S) (hy : ∀ b, y b → x b) : Held w p y S := by
  obtain ⟨q, cap, g, C, h1, h2⟩ := h
  exact ⟨q, cap, g, C, h1, fun b hb => h2 b (hy b hb)⟩
theorem Held.drew (h : Held w p x S) : Held w.drew p x S := h.below (Below.refl _ _).drew
theorem Held.drewN (h : Held w p x S) (n : Nat) : Held (w.drewN n) p x S := h.below (drewN_below (Below.refl _ _) n)
theorem Held.alloc (h : Held w p x S) (o : Obj) : Held (w.alloc o) p (fun b => x b ∨ b = w.heap.size) S :=
  (h.more ((Below.refl _ _).alloc (Nat.le_refl _) o)).less fun b hb => hb.imp id (fun e => ⟨by omega, by rw [World.size_alloc]; omega⟩)
theorem Safe.block (h : Safe x w w') {b : Nat} (hb : b < w.heap.size) (hx : x b) : w'.heap[b]? = w.heap[b]? := Turned.block h b hb fun k => k hx
theorem Safe.below {B : Nat} (h : Safe x w w') (hx : ∀ b, b < B → x b) (hB : B ≤ w.heap.size) : Below B w w' := ⟨h.os, h.tape, h.output, h.size, fun i hi => Safe.block h (Nat.lt_of_lt_of_le hi hB) (hx i hi)⟩
theorem safe_of_below (hb : Below w.heap.size w w') : Safe x w w' := .of_below hb
theorem Safe.then {w'' : World} (h : Safe x w w') (k : Safe x w' w'') : Safe x w w'' := Turned.trans h k fun _ _ e => e
theorem Safe.then' {w'' : World} (h : Safe x w w') (k : Safe y w' w'') (hy : ∀ b, b < w.heap.size → x b → y b) : Safe x w w'' := Turned.trans h k fun b hb e hx => e (hy b hb hx)
theorem CB.safe {C D : Nat → Prop} {A : Option Addr} {l : List UInt8} (h : CB w C A l) (hs : Safe x w w') (hC : ∀ b, C b → x b ∧ b < w.heap.size) (hD : ∀ b, C b → D b) : CB w' D A l := h.keep (fun b hb => Safe.block hs (hC b hb).2 (hC b hb).1) hD
/-- Out of the contracts over the places. -/
theorem held_of {q cap : Nat} {g : Nat → Nat} {C : Nat → Prop} (h1 : LAt w p q cap g C S) (h2 : ∀ b, x b → b < w.heap.size ∧ ¬ Own p q g C S.bl.length b) : Held w p x S := ⟨q, cap, g, C, h1, h2⟩
theorem held_next {q cap : Nat} {g : Nat → Nat} {C D : Nat → Prop} (h2 : ∀ b, x b → b < w.heap.size ∧ ¬ Own p q g C S.bl.length b) (hl : S'.bl.length = S.bl.length) (h : LAt w' p q cap g D S') (hD : ∀ k, D k → C k ∨ (w.heap.size ≤ k ∧ k < w'.heap.size)) (ht : Turned (Own p q g C S.bl.length) w w') : Held w' p x S' ∧ Safe x w w' := by
  refine ⟨⟨q, cap, g, D, h, fun b hb => ⟨Nat.lt_of_lt_of_le (h2 b hb).1 ht.size, fun ho => ?_⟩⟩, ht.os, ht.tape, ht.output, ht.size, fun i hi hx => ht.block i hi fun ho => hx fun hxi => (h2 i hxi).2 ho⟩
  rw [hl] at ho
  rcases ho with e | e | e | e
  · exact (h2 b hb).2 (.inl e)
  · exact (h2 b hb).2 (.inr (.inl e))
  · exact (h2 b hb).2 (.inr (.inr (.inl e)))
  · rcases hD b e with e | ⟨e, _⟩
    · exact (h2 b hb).2 (.inr (.inr (.inr e)))
    · have := (h2 b hb).1; omega
theorem progL_len (S : LS) (b pg : Int) (l : List UInt8) : (progL S b pg l).2.bl.length = S.bl.length := by
  unfold progL putL
  split
  · rfl
  · split
    · simp
    · split <;> simp
theorem eraseL_len (S : LS) (b : Int) : (eraseL S b).2.bl.length = S.bl.length := by
  unfold eraseL
  split
  · rfl
  · split
    · simp
    · split <;> simp
theorem rdL_len (S : LS) (b pg : Int) : (rdL S b pg).2.2.bl = S.bl := by
  unfold rdL
  split
  · rfl
  · split <;> rfl

theorem held_prog (A : Option Addr) (c : Nat) (l : List UInt8) (b pg : Int) (h : Held w p x S) (hl : CB w x A l) :
    Calls Try.prog 13 #[.pointer (some ⟨p, 0, none⟩), .agg #[.int .i64 b, .int .i64 pg], .slice A l.length c] w fun e w' => e = .returned (.int .i64 (progL S b pg l).1) ∧ Held w' p x (progL S b pg l).2 ∧ Safe x w w' := by
  obtain ⟨q, cap, g, C, h1, h2⟩ := h
  refine (prog_any A c l b pg h1 hl h2).mono ?_
  rintro e w' ⟨rfl, D, h3, h4, h5⟩
  exact ⟨rfl, held_next h2 (progL_len S b pg l) h3 h4 h5⟩
theorem held_erase (b : Int) (h : Held w p x S) :
    Calls Try.prog 14 #[.pointer (some ⟨p, 0, none⟩), .int .i64 b] w fun e w' => e = .returned (.int .i64 (eraseL S b).1) ∧ Held w' p x (eraseL S b).2 ∧ Safe x w w' := by
  obtain ⟨q, cap, g, C, h1, h2⟩ := h
  refine (erase_any b h1).mono ?_
  rintro e w' ⟨rfl, h3, h5⟩
  exact ⟨rfl, held_next h2 (eraseL_len S b) h3 (fun _ h => .inl h) h5⟩
theorem held_block (i : Int) (h : Held w p x S) : Calls Try.prog 25 #[.pointer (some ⟨p, 0, none⟩), .int .i64 i] w (BlockPost (tellB S i) w) := by
  obtain ⟨q, cap, g, C, h1, h2⟩ := h
  exact block_any i h1
theorem held_post {v : Value} {q cap : Nat} {g : Nat → Nat} {C : Nat → Prop} (h2 : ∀ b, x b → b < w.heap.size ∧ ¬ Own p q g C S.bl.length b) {e : Ending} (h : LPost p q cap g C S.bl.length v S' w e w') (hl : S'.bl = S.bl) : e = .returned v ∧ Held w' p x S' ∧ Safe x w w' := by
  obtain ⟨rfl, h3, h4⟩ := h
  exact ⟨rfl, held_next h2 (by rw [hl]) h3 (fun _ h => .inl h) h4⟩
/-- A new chip: all that was there is safe. -/
theorem held_new (n np : Nat) (A : Option Addr) (c : Nat) (l : List Int) (hA : IntsArg w A l) (hlen : l.length ≤ 1000000) (h1 : 1 ≤ n) (h2 : n ≤ 64) (h3 : 1 ≤ np) (h4 : np ≤ 32) :
    Calls Try.prog 12 #[.int .i64 n, .int .i64 np, .slice A l.length c] w fun e w' => ∃ p, e = .returned (.pointer (some ⟨p, 0, none⟩)) ∧ Held w' p (fun b => b < w.heap.size) (madeS n np l) ∧ Below w.heap.size w w' := by
  refine (new_yes n np A c l hA hlen h1 h2 h3 h4).mono ?_
  rintro e w' ⟨p, q, g, rfl, h5, h6, h7⟩
  refine ⟨p, rfl, ⟨q, n, g, _, h5, fun b hb => ⟨Nat.lt_of_lt_of_le hb h7.size, fun ho => ?_⟩⟩, h7⟩
  have hl : (madeS n np l).bl.length = n := by simp [madeS, badL_length, newS]
  rw [hl] at ho
  have := h6 b ho
  omega
end
end Go.Proofs.Yteghegojhhoppaa
