/- The reference's chip: is there such a spot? -/
import Derived.Test.YtchghdpfgamfpaaLeaf
namespace Go.Proofs.Ytchghdpfgamfpaa
open Go.RowKit

def hasS (S : CS) (b pg : Int) : Bool := decide (0 ≤ b ∧ b < (S.bl.length : Int) ∧ 0 ≤ pg ∧ pg < (S.np : Int))
section
variable {p q cap : Nat} {g : Nat → Nat} {C : Nat → Prop} {S : CS} {w : World}
set_option maxRecDepth 100000 in
set_option maxHeartbeats 1000000 in
theorem has_ref (b pg : Int) (h : ChipAt w p q cap g C S) : Calls Try.prog 41 #[.pointer (some ⟨p, 0, none⟩), .agg #[.int .i64 b, .int .i64 pg]] w fun e w' => e = .returned (.bool (hasS S b pg)) ∧ Below w.heap.size w w' := by
  obtain ⟨c0, c1, c2, c3, c4, c5, c6, c7, c8, c9⟩ := cells10 h.self
  have hp : p < w.heap.size := lt_size h.self
  clear h c2 c3 c4 c5 c6 c7 c8 c9
  by_cases h1 : 0 ≤ b
  · by_cases h2 : b < (S.bl.length : Int)
    · by_cases h3 : 0 ≤ pg
      · go_enter Try.func41, Try.ntmps41
        go_wp2
        go_quiet (fail)
        go_wp2
        go_ret
        exact ⟨ret_bool (by simp [hasS, h1, h2, h3]), drewN_below ((Below.refl _ _).alloc (Nat.le_refl _) _) _⟩
      · have d3 : decide ((0 : Int) ≤ pg) = false := by simpa using h3
        go_enter Try.func41, Try.ntmps41
        go_wp2
        go_quiet (fail)
        go_wp2
        go_ret
        exact ⟨ret_bool (by simp [hasS]; omega), drewN_below ((Below.refl _ _).alloc (Nat.le_refl _) _) _⟩
    · have d2 : decide (b < (S.bl.length : Int)) = false := by simpa using h2
      go_enter Try.func41, Try.ntmps41
      go_wp2
      go_quiet (fail)
      go_wp2
      go_ret
      exact ⟨ret_bool (by simp [hasS]; omega), drewN_below ((Below.refl _ _).alloc (Nat.le_refl _) _) _⟩
  · have d1 : decide ((0 : Int) ≤ b) = false := by simpa using h1
    go_enter Try.func41, Try.ntmps41
    go_wp2
    go_quiet (fail)
    go_wp2
    go_ret
    exact ⟨ret_bool (by simp [hasS]; omega), drewN_below ((Below.refl _ _).alloc (Nat.le_refl _) _) _⟩
end
end Go.Proofs.Ytchghdpfgamfpaa
