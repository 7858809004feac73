/- The reference's chip: Program where there is such a spot: no power, a bad block, out of order. -/
import Derived.Test.YteghegojhhoppaaRefProg
namespace Go.Proofs.Yteghegojhhoppaa
open Go.RowKit
section
variable {p q cap : Nat} {g : Nat → Nat} {C E : Nat → Prop} {S : CS} {w : World}
theorem prog_in {S : CS} {i j : Nat} {l : List UInt8} (hh : hasS S i j = true) (h1 : 1 ≤ l.length) (h2 : l.length ≤ 2000) : ¬ (hasS S i j = false ∨ l.length < 1 ∨ 2000 < l.length) := by
  rintro (e | e | e)
  · rw [hh] at e; cases e
  · omega
  · omega
theorem blkS_at {S : CS} {i : Nat} (hi : i < S.bl.length) : blkS S i = S.bl[i] := by simp [blkS, hi]
end
end Go.Proofs.Yteghegojhhoppaa
