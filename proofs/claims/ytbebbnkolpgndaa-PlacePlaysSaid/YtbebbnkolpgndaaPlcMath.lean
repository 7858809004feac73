/- Where what is live stands: a table as a list of refs with their spots: the mathematics, and such a list in memory. -/
import Derived.Test.YtbebbnkolpgndaaPRow
namespace Go.Proofs.Ytbebbnkolpgndaa
open Go.RowKit

/-- A pair of ints: a ref (page, seq), a spot (block, page). -/
abbrev P2 := Int × Int
/-- A ref, and where it stands. -/
abbrev Fd := P2 × P2
def hasR (T : List Fd) (r : P2) : Bool := T.any fun f => f.1 == r
def atT (T : List Fd) (r : P2) : Option P2 := (T.find? fun f => f.1 == r).map (·.2)
def onT (T : List Fd) (s : P2) : Option P2 := (T.find? fun f => f.2 == s).map (·.1)
def canT (T : List Fd) (r s : P2) : Bool := decide (0 ≤ s.1) && decide (0 ≤ s.2) && T.all fun f => f.2 != s || f.1 == r
def putT (T : List Fd) (r s : P2) : List Fd := if canT T r s = true then (if hasR T r = true then T.map (fun f => if f.1 = r then (r, s) else f) else T ++ [(r, s)]) else T
def cutT (T : List Fd) (r : P2) : List Fd := T.filter fun f => f.1 != r
def liveT (T : List Fd) (b : Int) : Nat := T.countP fun f => f.2.1 == b
def ltS (a b : P2) : Bool := decide (a.1 < b.1 ∨ a.1 = b.1 ∧ a.2 < b.2)
/-- Laid in by its spot. -/
def insT (l : List Fd) (f : Fd) : List Fd := l.takeWhile (fun g => ltS g.2 f.2) ++ f :: l.dropWhile (fun g => ltS g.2 f.2)
def allT (T : List Fd) : List Fd := T.foldl insT []
def inT (T : List Fd) (b : Int) : List Fd := (T.filter fun f => f.2.1 == b).foldl insT []
/-- Each ref once, each spot once, no number of a spot below 0. -/
structure WfT (T : List Fd) : Prop where
  refs : (T.map (·.1)).Nodup
  spots : (T.map (·.2)).Nodup
  nonneg : ∀ f ∈ T, 0 ≤ f.2.1 ∧ 0 ≤ f.2.2
/-- Both are ints. -/
def WfP (a : P2) : Prop := (Lit.int .i64 a.1).wf = true ∧ (Lit.int .i64 a.2).wf = true
abbrev P2V (a : P2) : Value := .agg #[.int .i64 a.1, .int .i64 a.2]
/-- At A of w these refs and spots lie. -/
def FLies (w : World) (A : Option Addr) (l : List Fd) : Prop :=
  0 < l.length → ∃ B o, A = some ⟨B, o, none⟩ ∧ B < w.heap.size ∧ ∀ j (h : j < l.length),
    w.cell? ⟨B, o + j * 4, none⟩ = some (.int .i64 l[j].1.1) ∧ w.cell? ⟨B, o + j * 4 + 1, none⟩ = some (.int .i64 l[j].1.2) ∧ w.cell? ⟨B, o + j * 4 + 2, none⟩ = some (.int .i64 l[j].2.1) ∧ w.cell? ⟨B, o + j * 4 + 3, none⟩ = some (.int .i64 l[j].2.2)
theorem FLies.below {w w' : World} {A : Option Addr} {l : List Fd} (h : FLies w A l) (hb : Below w.heap.size w w') : FLies w' A l := fun hn => by
  obtain ⟨B, o, e, hB, hc⟩ := h hn
  refine ⟨B, o, e, Nat.lt_of_lt_of_le hB hb.size, fun j hj => ?_⟩
  obtain ⟨h0, h1, h2, h3⟩ := hc j hj
  exact ⟨(hb.cell (p := ⟨B, o + j * 4, none⟩) hB).trans h0, (hb.cell (p := ⟨B, o + j * 4 + 1, none⟩) hB).trans h1, (hb.cell (p := ⟨B, o + j * 4 + 2, none⟩) hB).trans h2, (hb.cell (p := ⟨B, o + j * 4 + 3, none⟩) hB).trans h3⟩
end Go.Proofs.Ytbebbnkolpgndaa
