/- The reference's chip: is there such a spot? -/
import Derived.Test.YteghegojhhoppaaLeaf
namespace Go.Proofs.Yteghegojhhoppaa
open Go.RowKit

def hasS (S : CS) (b pg : Int) : Bool := decide (0 ≤ b ∧ b < (S.bl.length : Int) ∧ 0 ≤ pg ∧ pg < (S.np : Int))
section
variable {p q cap : Nat} {g : Nat → Nat} {C : Nat → Prop} {S : CS} {w : World}
end
end Go.Proofs.Yteghegojhhoppaa
