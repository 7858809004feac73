/- A block as package block sees it: is it clean, how many pages are left, how many are bad, which are clean: the mathematics; blocks that lie in a row somewhere. -/
import Derived.Test.YteghegojhhoppaaRow
namespace Go.Proofs.Yteghegojhhoppaa
open Go.RowKit

def cleanB (b : Bk) : Bool := !b.bad && b.next == 0
def leftB (b : Bk) (pages : Int) : Int := if b.bad = true then 0 else if pages - b.next < 0 then 0 else if 9223372036854775807 < pages - b.next then 9223372036854775807 else pages - b.next
def badB (l : List Bk) : Nat := l.countP (·.bad)
/-- The places of those that are clean. -/
def cleansFrom : Nat → List Bk → List Int
  | _, [] => []
  | k, b :: r => if cleanB b = true then (k : Int) :: cleansFrom (k + 1) r else cleansFrom (k + 1) r
def cleansB (l : List Bk) : List Int := cleansFrom 0 l
theorem cleansFrom_snoc (k : Nat) (l : List Bk) (b : Bk) : cleansFrom k (l ++ [b]) = cleansFrom k l ++ if cleanB b = true then [((k + l.length : Nat) : Int)] else [] := by
  induction l generalizing k with
  | nil => simp [cleansFrom]
  | cons q r ih =>
    simp only [List.cons_append, cleansFrom, List.length_cons]
    rw [ih (k + 1), show k + 1 + r.length = k + (r.length + 1) by omega]
    split <;> simp
theorem cleans_take {l : List Bk} {j : Nat} (h : j < l.length) : cleansB (l.take (j + 1)) = cleansB (l.take j) ++ if cleanB l[j] = true then [(j : Int)] else [] := by
  unfold cleansB
  rw [List.take_succ_eq_append_getElem h, cleansFrom_snoc]
  simp
  split
  · simp; omega
  · rfl
theorem cleansFrom_len (k : Nat) (l : List Bk) : (cleansFrom k l).length = l.countP cleanB := by
  induction l generalizing k with
  | nil => rfl
  | cons b r ih =>
    simp only [cleansFrom, List.countP_cons]
    split <;> simp [ih]
theorem cleans_len (l : List Bk) : (cleansB l).length = l.countP cleanB := cleansFrom_len 0 l
theorem cleans_le (l : List Bk) : (cleansB l).length ≤ l.length := by rw [cleans_len]; exact List.countP_le_length
theorem bad_take {l : List Bk} {j : Nat} (h : j < l.length) : badB (l.take (j + 1)) = badB (l.take j) + if l[j].bad = true then 1 else 0 := by
  unfold badB
  rw [List.take_succ_eq_append_getElem h, List.countP_append, List.countP_singleton]
theorem bad_le (l : List Bk) : badB l ≤ l.length := List.countP_le_length

/-- A block's four cells at k of block B. -/
def BkC (w : World) (B k : Nat) (b : Bk) : Prop :=
  w.cell? ⟨B, k, none⟩ = some (.bool b.bad) ∧ w.cell? ⟨B, k + 1, none⟩ = some (.int .i64 b.next) ∧ w.cell? ⟨B, k + 2, none⟩ = some (.int .i64 b.count) ∧ ∃ A n c, w.cell? ⟨B, k + 3, none⟩ = some (.slice A n c)
theorem BkC.kept {w w' : World} {B k : Nat} {b : Bk} (h : BkC w B k b) (hk : w'.heap[B]? = w.heap[B]?) : BkC w' B k b := by
  obtain ⟨h1, h2, h3, A, n, c, h4⟩ := h
  exact ⟨(World.cell?_of_block (a := ⟨B, k, none⟩) hk).trans h1, (World.cell?_of_block (a := ⟨B, k + 1, none⟩) hk).trans h2, (World.cell?_of_block (a := ⟨B, k + 2, none⟩) hk).trans h3, A, n, c, (World.cell?_of_block (a := ⟨B, k + 3, none⟩) hk).trans h4⟩
/-- At A of w these blocks lie. -/
def BLies (w : World) (A : Option Addr) (l : List Bk) : Prop :=
  0 < l.length → ∃ B o, A = some ⟨B, o, none⟩ ∧ B < w.heap.size ∧ ∀ j (h : j < l.length), BkC w B (o + j * 4) l[j]
theorem BLies.below {w w' : World} {A : Option Addr} {l : List Bk} (h : BLies w A l) (hb : Below w.heap.size w w') : BLies w' A l := fun hn => by
  obtain ⟨B, o, e, hB, hc⟩ := h hn
  exact ⟨B, o, e, Nat.lt_of_lt_of_le hB hb.size, fun j hj => (hc j hj).kept (hb.block B hB)⟩
/-- Their numbers are ints. -/
def BWf (l : List Bk) : Prop := ∀ b ∈ l, (Lit.int .i64 b.next).wf = true
end Go.Proofs.Yteghegojhhoppaa
