/- Heavy at a slice of calls: which are light. -/
import Derived.Test.YtchghdpfgamfpaaOpenLdo
import Derived.Deep.CutBlock
import Derived.Deep.DeepCutAuto
import Derived.StillTailTactics
namespace Go.Proofs.Ytchghdpfgamfpaa
open Go.RowKit


theorem heavy_dos (A : Option Addr) (n cap : Nat) (D : Nat → Dos) (w : World) (hn : n ≤ maxLen) (h : ∀ i, i < n → DosAt w A i (D i)) :
    Calls Try.prog 10 #[.slice A n cap] w fun e w' => ∃ k : Int, e = .returned (.int .i64 k) ∧ (k ≤ 0 → n ≤ 150 ∧ ∀ i, i < n → (D i).l.length ≤ 2500) ∧ Below w.heap.size w w' := by
  by_cases h0 : n = 0
  · subst h0
    go_enter Try.func10, Try.ntmps10
    go_wp2
    refine wp_loop_rounds 1 ?_
    rw [rounds_succ]
    go_wp2
    go_ret
    exact ⟨0, rfl, fun _ => ⟨Nat.zero_le _, fun i hi => by omega⟩, Below.refl _ _⟩
  · obtain ⟨b, o, rfl, hb, _⟩ := (h 0 (by omega)).at_
    refine heavy_any b o n cap (fun i => (D i).x) (fun i => (D i).A) (fun i => (D i).l.length) (fun i => (D i).c) w (fun _ => hb) hn fun i hi => ?_
    obtain ⟨b', o', e, _, h2⟩ := (h i hi).at_
    cases e
    exact h2
end Go.Proofs.Ytchghdpfgamfpaa
