/- The reference's chip: what is to come (Fail, Worn, Cut, Power), is it now, is there such a spot. -/
import Derived.Test.YteghegojhhoppaaState
namespace Go.Proofs.Yteghegojhhoppaa
open Go.RowKit

def afterS (n : Int) : Int := if n < 0 ∨ 1099511627776 ≤ n then 0 else n + 1
theorem afterS_in (n : Int) : 0 ≤ afterS n ∧ afterS n ≤ 1099511627776 := by unfold afterS; split <;> omega
theorem cells10 {w : World} {p : Nat} {a b c d e f g h i j : Value} {t : TypeId} (hh : w.heap[p]? = some (.cells #[a, b, c, d, e, f, g, h, i, j] t (0, 0))) :
    w.cell? ⟨p, 0, none⟩ = some a ∧ w.cell? ⟨p, 1, none⟩ = some b ∧ w.cell? ⟨p, 2, none⟩ = some c ∧ w.cell? ⟨p, 3, none⟩ = some d ∧ w.cell? ⟨p, 4, none⟩ = some e ∧ w.cell? ⟨p, 5, none⟩ = some f ∧ w.cell? ⟨p, 6, none⟩ = some g ∧ w.cell? ⟨p, 7, none⟩ = some h ∧ w.cell? ⟨p, 8, none⟩ = some i ∧ w.cell? ⟨p, 9, none⟩ = some j := by
  simp [World.cell?, hh]
theorem frozen10 {w : World} {p : Nat} {cs : Array Value} {t : TypeId} (h : w.heap[p]? = some (.cells cs t (0, 0))) (j : Nat) : w.frozen? ⟨p, j, none⟩ = false := by
  simp [World.frozen?, h]

section
variable {p q cap : Nat} {g : Nat → Nat} {C : Nat → Prop} {S : CS} {w : World}
end

/-- Is it now? What it tells, and what is left. -/
def comesS (n : Int) : Bool := n == 1
def leftS (n : Int) : Int := if n = 0 then 0 else n - 1
theorem leftS_in {n : Int} (h0 : 0 ≤ n) (h1 : n ≤ 1099511627776) : 0 ≤ leftS n ∧ leftS n ≤ 1099511627776 := by unfold leftS; split <;> omega
end Go.Proofs.Yteghegojhhoppaa
