/- What all texts of package place stand on: small words on results, rows and memory; what a call turned. Of no program. -/
import Derived.WalkKit
import Derived.WalkSpells
import Derived.WalkLawsBesides
import Derived.IntWalk
import Derived.Lib.Hide
import Derived.Outline
import Derived.Deep.QuietTactic
import Derived.BigQuiet
import Derived.OwnWalk
import Derived.Below
import Derived.Maps.AppendAt
import Derived.Test.YtljlmaddbpihnaaProg
namespace Go.Proofs.Ytljlmaddbpihnaa
open Go.RowKit

theorem ret_int {k : IntKind} {a b : Int} (h : a = b) : Ending.returned (.int k a) = .returned (.int k b) := by rw [h]
theorem ret_bool {a b : Bool} (h : a = b) : Ending.returned (.bool a) = .returned (.bool b) := by rw [h]
theorem block_add (a : Addr) (n : Nat) : (a.add n).block = a.block := by unfold Addr.add; split <;> rfl
theorem add_add (a : Addr) (i j : Nat) : (a.add i).add j = a.add (i + j) := by
  unfold Addr.add
  by_cases hi : i = 0 <;> by_cases hj : j = 0 <;> simp [hi, hj, Nat.add_assoc]
theorem lt_size {w : World} {p : Nat} {o : Obj} (h : w.heap[p]? = some o) : p < w.heap.size := (Array.getElem?_eq_some_iff.1 h).1

theorem own_slice {W : World} {b : Nat} {e : TypeId} {size : Nat} {v : Value} {k : Nat} {xs : List Value} (h : W.ownsRow b e size v k xs) : ∃ p cap, v = .slice p k cap ∧ k ≤ cap := by
  rcases h.2 with ⟨rfl, rfl⟩ | ⟨g, cap, cur, rfl, _, _, h1, _⟩
  · exact ⟨_, _, rfl, Nat.le_refl _⟩
  · exact ⟨_, _, rfl, h1⟩
/-- What is owned stays owned where its block stays. -/
theorem own_keep {w w' : World} {base n : Nat} {e : TypeId} {size : Nat} {v : Value} {xs : List Value} (h : w.ownsRow base e size v n xs) (hk : ∀ g, v.ownBlock = some g → w'.heap[g]? = w.heap[g]?) : w'.ownsRow base e size v n xs := by
  refine ⟨h.1, ?_⟩
  rcases h.2 with h0 | ⟨g, cap, cur, hv, hb, hg, h1⟩
  · exact .inl h0
  · exact .inr ⟨g, cap, cur, hv, hb, (hk g (by rw [hv]; rfl)).trans hg, h1⟩
theorem drewN_below {B : Nat} {w w' : World} (h : Below B w w') (n : Nat) : Below B w (w'.drewN n) := ⟨h.os, h.tape, h.output, h.size, h.block⟩

/-- What a call turned: blocks of F alone, and new ones. -/
structure Turned (F : Nat → Prop) (w w' : World) : Prop where
  os : w'.os = w.os
  tape : w'.tape = w.tape
  output : w'.output = w.output
  size : w.heap.size ≤ w'.heap.size
  block : ∀ i, i < w.heap.size → ¬ F i → w'.heap[i]? = w.heap[i]?
theorem Turned.refl (F : Nat → Prop) (w : World) : Turned F w w := ⟨rfl, rfl, rfl, Nat.le_refl _, fun _ _ _ => rfl⟩
theorem Turned.of_below {F : Nat → Prop} {w w' : World} (h : Below w.heap.size w w') : Turned F w w' := ⟨h.os, h.tape, h.output, h.size, fun i hi _ => h.block i hi⟩
theorem Turned.trans {F G : Nat → Prop} {a b c : World} (h : Turned F a b) (k : Turned G b c) (hG : ∀ i, i < a.heap.size → G i → F i) : Turned F a c :=
  ⟨k.os.trans h.os, k.tape.trans h.tape, k.output.trans h.output, Nat.le_trans h.size k.size, fun i hi hF => (k.block i (Nat.lt_of_lt_of_le hi h.size) fun g => hF (hG i hi g)).trans (h.block i hi hF)⟩
theorem Turned.setCell {F : Nat → Prop} {a b : World} (h : Turned F a b) {p : Addr} (hp : p.block < a.heap.size → F p.block) (u : Value) : Turned F a (b.setCell p u) :=
  ⟨h.os, h.tape, h.output, by simpa using h.size, fun i hi hF => (Below.heap_setCell b p u i (fun e => hF (by subst e; exact hp hi))).trans (h.block i hi hF)⟩
theorem Turned.alloc {F : Nat → Prop} {a b : World} (h : Turned F a b) (o : Obj) : Turned F a (b.alloc o) :=
  h.trans (G := F) (.of_below ((Below.refl _ _).alloc (Nat.le_refl _) o)) fun _ _ g => g
theorem Turned.drew {F : Nat → Prop} {a b : World} (h : Turned F a b) : Turned F a b.drew := h.trans (G := F) (.of_below (Below.refl _ _).drew) fun _ _ g => g

/-- What a call turned: nothing that is safe. -/
abbrev Safe (x : Nat → Prop) (w w' : World) : Prop := Turned (fun b => ¬ x b) w w'
section
variable {w w' : World} {x y : Nat → Prop}
theorem Safe.block (h : Safe x w w') {b : Nat} (hb : b < w.heap.size) (hx : x b) : w'.heap[b]? = w.heap[b]? := Turned.block h b hb fun k => k hx
theorem Safe.below {B : Nat} (h : Safe x w w') (hx : ∀ b, b < B → x b) (hB : B ≤ w.heap.size) : Below B w w' := ⟨h.os, h.tape, h.output, h.size, fun i hi => Safe.block h (Nat.lt_of_lt_of_le hi hB) (hx i hi)⟩
theorem safe_of_below (hb : Below w.heap.size w w') : Safe x w w' := .of_below hb
theorem Safe.then {w'' : World} (h : Safe x w w') (k : Safe x w' w'') : Safe x w w'' := Turned.trans h k fun _ _ e => e
theorem Safe.then' {w'' : World} (h : Safe x w w') (k : Safe y w' w'') (hy : ∀ b, b < w.heap.size → x b → y b) : Safe x w w'' := Turned.trans h k fun b hb e hx => e (hy b hb hx)
end
end Go.Proofs.Ytljlmaddbpihnaa
