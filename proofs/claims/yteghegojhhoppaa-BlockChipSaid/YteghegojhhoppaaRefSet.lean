/- The reference's chip: one block of it is written; is it now, on a chip's own counters. -/
import Derived.Test.YteghegojhhoppaaRefRead
namespace Go.Proofs.Yteghegojhhoppaa
open Go.RowKit

section
variable {p q cap : Nat} {g : Nat → Nat} {C D : Nat → Prop} {S : CS} {w w' : World}
end
section
variable {p q cap : Nat} {g : Nat → Nat} {C : Nat → Prop} {S : CS} {w : World}
end
end Go.Proofs.Yteghegojhhoppaa
