/- The reference's chip: Program. -/
import Derived.Deep.Cut
import Derived.Deep.CutBlock
import Derived.Deep.CutRange
import Derived.Test.YteghegojhhoppaaRefSet
namespace Go.Proofs.Yteghegojhhoppaa
open Go.RowKit

def blkS (S : CS) (b : Int) : Bk := S.bl.getD b.toNat ⟨false, 0, 0, []⟩
def putS (S : CS) (b pg : Int) (bad : Bool) (l : List UInt8) : List Bk :=
  S.bl.set b.toNat { blkS S b with bad := bad, next := (blkS S b).next + 1, pages := (blkS S b).pages.set pg.toNat l }
def progS (S : CS) (b pg : Int) (l : List UInt8) : Int × CS :=
  if hasS S b pg = false ∨ l.length < 1 ∨ 2000 < l.length then (1, S)
  else if S.dark = true then (2, S)
  else if (blkS S b).bad = true then (3, S)
  else if pg ≠ (blkS S b).next then (4, S)
  else if comesS S.cuts = true then (2, { S with pr := wrap64 (S.pr + 1), cuts := leftS S.cuts, fails := leftS S.fails, dark := true, bl := putS S b pg false (l.take (min S.keep.toNat l.length)) })
  else if comesS S.fails = true then (3, { S with pr := wrap64 (S.pr + 1), cuts := leftS S.cuts, fails := leftS S.fails, bl := putS S b pg true (l.take (l.length / 2)) })
  else (0, { S with pr := wrap64 (S.pr + 1), cuts := leftS S.cuts, fails := leftS S.fails, bl := putS S b pg false l })
section
variable {p q cap : Nat} {g : Nat → Nat} {C E : Nat → Prop} {S : CS} {w : World}
end
end Go.Proofs.Yteghegojhhoppaa
