/- The landed chip: Read. -/
import Derived.Test.YteghegojhhoppaaLPart
namespace Go.Proofs.Yteghegojhhoppaa
open Go.RowKit

/-- A page's bytes. -/
def pageL (S : LS) (b pg : Int) : List UInt8 := match S.bl[b.toNat]? with
  | none => []
  | some x => x.pages.getD pg.toNat []
def rdL (S : LS) (b pg : Int) : List UInt8 × Int × LS :=
  if hasL S b pg = false then ([], 1, S) else if S.dark = true then ([], 2, S) else (pageL S b pg, 0, { S with rd := wrap64 (S.rd + 1) })
def LReadPost (p q cap : Nat) (g : Nat → Nat) (C : Nat → Prop) (S : LS) (b pg : Int) (w : World) (e : Ending) (w' : World) : Prop :=
  ∃ A L, e = .returned (.tuple #[.slice A L.length L.length, .int .i64 (rdL S b pg).2.1]) ∧ Hid (L = (rdL S b pg).1) ∧ CB w' (fun k => w.heap.size ≤ k ∧ k < w'.heap.size) A L ∧ LAt w' p q cap g C (rdL S b pg).2.2 ∧ Turned (Own p q g C S.bl.length) w w'
section
variable {p q cap : Nat} {g : Nat → Nat} {C : Nat → Prop} {S : LS} {w : World}
end
end Go.Proofs.Yteghegojhhoppaa
