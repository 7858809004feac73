/- The reference's SameBlock, where both are alike; the law's at. -/
import Derived.Test.YteghegojhhoppaaLHeld
import Derived.Test.YteghegojhhoppaaRefProg3
namespace Go.Proofs.Yteghegojhhoppaa
open Go.RowKit

/-- A block's value. -/
def bkV (b : Bk) (v : Value) : Value := .agg #[.bool b.bad, .int .i64 b.next, .int .i64 b.count, v]
theorem page_lt {W : World} {C : Nat → Prop} {G j : Nat} {l : List UInt8} (h : PageAt W C ⟨G, j, none⟩ l) : G < W.heap.size := by
  obtain ⟨A, c, hc, _⟩ := h
  exact World.block_lt_of_cell? W _ hc
theorem cb_rb {W : World} {C : Nat → Prop} {A : Option Addr} {l : List UInt8} (h : CB W C A l) : RB W W.heap.size A l := fun hn => by
  obtain ⟨ad, e, _, hc⟩ := h hn
  refine ⟨ad, e, ?_, hc⟩
  have := World.block_lt_of_cell? W _ (hc 0 hn)
  rwa [block_add] at this
theorem block_set4 {w : World} {q : Nat} {a b c d x y z u : Value} {t : TypeId} (h : w.heap[q]? = some (.cells #[a, b, c, d] t (0, 0))) : ((((w.setCell ⟨q, 0, none⟩ x).setCell ⟨q, 1, none⟩ y).setCell ⟨q, 2, none⟩ z).setCell ⟨q, 3, none⟩ u).heap[q]? = some (.cells #[x, y, z, u] t (0, 0)) := by
  obtain ⟨hlt, he⟩ := Array.getElem?_eq_some_iff.1 h
  simp [World.setCell, Array.getElem?_modify, h]
/-- What the reference's block i is, or nothing. -/
def tellR (S : CS) (i : Int) : Bk := if 0 ≤ i ∧ i < (S.bl.length : Int) then blkS S i else noB
def AtPost (b : Bk) (w : World) (e : Ending) (w' : World) : Prop := ∃ v, e = .returned (bkV b v) ∧ PagesV w' (fun _ => True) v b.pages ∧ Below w.heap.size w w'
section
variable {p q cap : Nat} {g : Nat → Nat} {C : Nat → Prop} {S : CS} {w : World}
theorem PagesV.below {w w' : World} {C : Nat → Prop} {v : Value} {l : List (List UInt8)} (h : PagesV w C v l) (hb : Below w.heap.size w w') : PagesV w' (fun _ => True) v l := by
  obtain ⟨A, c, e, h1, h2⟩ := h
  refine ⟨A, c, e, h1, fun hl => ?_⟩
  obtain ⟨G, e2, _, h3⟩ := h2 hl
  refine ⟨G, e2, trivial, fun j hj => ?_⟩
  have hG := page_lt (h3 j hj)
  obtain ⟨A1, c1, h11, h12, h13, h14⟩ := h3 j hj
  refine ⟨A1, c1, (hb.cell (p := ⟨G, j, none⟩) hG).trans h11, h12, h13, fun hn => ?_⟩
  obtain ⟨ad, e3, h4, h5⟩ := (cb_rb h14).below hb (Nat.le_refl _) hn
  exact ⟨ad, e3, trivial, h5⟩
end
end Go.Proofs.Yteghegojhhoppaa
