/- A pool: the pool that Open makes. -/
import Derived.Test.YtnadcdgpfopcaaaGreatPoI4
namespace Go.Proofs.YtnadcdgpfopcaaaGreat
open Go.RowKit

section
variable {w w' w5 w6 V : World} {p c l f : Nat} {x y X Y Z : Nat → Prop} {Q Q1 : PS} {T : List Fd} {S : LS}
theorem pool_new (h : Held w c x S) (b5 : Below w.heap.size w w5) (t5 : Tab w5 l (fun b => b < w.heap.size) []) (b6 : Below w5.heap.size w5 w6) (t6 : Tab w6 f (fun b => b < w5.heap.size) []) (b7 : Below w6.heap.size w6 w') (hp : w6.heap.size ≤ p) (Q : PS) (hQ : Q.S = S) (hL : Q.L = []) (hF : Q.F = []) (hc : w'.heap[p]? = some (.cells (Q.cells c l f) 92 (0, 0))) : Pool w' p c x Q ∧ Safe x w w' := by
  have s5 := b5.size
  have s6 := b6.size
  have s7 := b7.size
  have hpl := lt_size hc
  have b56 : Below w5.heap.size w5 w' := b6.trans (b7.mono s6)
  have bw : Below w.heap.size w w' := b5.trans (b56.mono s5)
  refine ⟨?_, safe_of_below bw⟩
  obtain ⟨q, cap, g, C, h1, h2⟩ := h
  have hX : ∀ b, Own c q g C S.bl.length b → b < w.heap.size := h1.lt
  subst hQ
  refine ⟨l, f, Own c q g C Q.S.bl.length, fun b => w.heap.size ≤ b ∧ b < w5.heap.size, fun b => w5.heap.size ≤ b ∧ b < w6.heap.size, ⟨hc, ⟨q, cap, g, C, h1.below bw, fun b hb => hb⟩, ?_, ?_, ?_, ?_, ?_⟩, ?_⟩
  · rw [hL]
    refine (t5.more b56).less fun b hb => ?_
    have := hb.1
    have := hb.2
    by_cases e : b < w.heap.size
    · exact .inl e
    · exact .inr ⟨by omega, by omega⟩
  · rw [hF]
    refine (t6.more b7).less fun b hb => ?_
    have := hb.1
    have := hb.2
    by_cases e : b < w5.heap.size
    · exact .inl e
    · exact .inr ⟨by omega, by omega⟩
  · intro b hb
    have := hX b hb
    exact ⟨fun k => by omega, fun k => by omega, by omega, by omega⟩
  · intro b hb
    exact ⟨fun k => by omega, by omega, by omega⟩
  · intro b hb
    exact ⟨by omega, by omega⟩
  · intro b hb
    have := (h2 b hb).1
    exact ⟨by omega, (h2 b hb).2, fun k => by omega, fun k => by omega, by omega⟩
end
end Go.Proofs.YtnadcdgpfopcaaaGreat
