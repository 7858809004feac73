/- A pool: suits. -/
import Derived.Test.YtnadcdgpfopcaaaGreatPoH2
namespace Go.Proofs.YtnadcdgpfopcaaaGreat
open Go.RowKit

section
variable {w w' V : World} {p c l f : Nat} {x y X Y Z : Nat → Prop} {Q Q1 : PS} {T : List Fd} {S : LS}
/-- How many pages each block of a row has. -/
def NLies (w : World) (A : Option Addr) (l : List Bk) : Prop := ∀ B o, A = some ⟨B, o, none⟩ → ∀ j (h : j < l.length), ∃ A' c', w.cell? ⟨B, o + j * 4 + 3, none⟩ = some (.slice A' l[j].pages.length c')
theorem own_nlies {W : World} {B g n cap : Nat} {L : List (Bk × Value)} (hn : n = L.length) (h : W.ownsRow B 101 4 (.slice (some ⟨g, 0, none⟩) n cap) n (c4 L)) (hp : ∀ x ∈ L, ∃ A c, x.2 = .slice A x.1.pages.length c) : NLies W (some ⟨g, 0, none⟩) (L.map (·.1)) := fun B' o e j hj => by
  cases e
  subst hn
  have hj' : j < L.length := by simpa using hj
  obtain ⟨g0, g1, g2, g3⟩ := c4_get L j hj'
  obtain ⟨A, c, hv⟩ := hp L[j] (List.getElem_mem hj')
  have k3 := World.ownsRow.cellAt h (j * 4 + 3) (by omega)
  rw [g3, hv] at k3
  refine ⟨A, c, ?_⟩
  rw [Nat.zero_add, List.getElem_map]
  exact k3
theorem held_blocks_n {w : World} {p : Nat} {x : Nat → Prop} {S : LS} (h : Held w p x S) (h1 : 1 ≤ S.bl.length) : Calls Tryz.prog 21 #[.pointer (some ⟨p, 0, none⟩)] w fun e w' => ∃ g cap, e = .returned (.slice (some ⟨g, 0, none⟩) S.bl.length cap) ∧ BLies w' (some ⟨g, 0, none⟩) S.bl ∧ NLies w' (some ⟨g, 0, none⟩) S.bl ∧ Below w.heap.size w w' := by
  obtain ⟨q, cap, g, C, h2, _⟩ := h
  refine (blocks_any h2 h1).mono ?_
  rintro e w' ⟨v, rfl, ⟨L, hL, hown, hp⟩, hb⟩
  have hl : L.length = S.bl.length := by rw [← hL]; simp
  rcases hown.2 with ⟨_, h0⟩ | ⟨g', cap', cur, rfl, _⟩
  · omega
  · have k1 := own_lies (L := L) hl.symm hown (fun y hy => by
      obtain ⟨A9, c9, e9, _⟩ := hp y hy
      exact ⟨A9, _, c9, e9⟩)
    have k2 := own_nlies (L := L) hl.symm hown (fun y hy => by
      obtain ⟨A9, c9, e9, _⟩ := hp y hy
      exact ⟨A9, c9, e9⟩)
    rw [hL] at k1 k2
    exact ⟨g', cap', rfl, k1, k2, hb⟩
end
end Go.Proofs.YtnadcdgpfopcaaaGreat
