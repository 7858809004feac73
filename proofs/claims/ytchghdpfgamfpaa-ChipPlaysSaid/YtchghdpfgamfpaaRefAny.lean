/- The reference's chip: Program, whatever it is told. -/
import Derived.Test.YtchghdpfgamfpaaRefProgOk
import Derived.Test.YtchghdpfgamfpaaRefProgFail
import Derived.Test.YtchghdpfgamfpaaRefProgCut
namespace Go.Proofs.Ytchghdpfgamfpaa
open Go.RowKit
section
variable {p q cap : Nat} {g : Nat → Nat} {C E : Nat → Prop} {S : CS} {w : World}
theorem prog_ref (A : Option Addr) (c : Nat) (l : List UInt8) (b pg : Int) (h : ChipAt w p q cap g C S) (hl : CB w E A l) (hlc : l.length ≤ c) (hE : ∀ k, E k → k < w.heap.size ∧ ¬ Own p q g C S.bl.length k) :
    Calls Try.prog 27 #[.pointer (some ⟨p, 0, none⟩), .agg #[.int .i64 b, .int .i64 pg], .slice A l.length c] w (ProgPost p q cap g C S b pg l w) := by
  by_cases h0 : hasS S b pg = false ∨ l.length < 1 ∨ 2000 < l.length
  · exact prog_arg A c l b pg h h0
  · have hh : hasS S b pg = true := by
      cases e : hasS S b pg with
      | true => rfl
      | false => exact absurd (.inl e) h0
    have h1 : 1 ≤ l.length := Nat.le_of_not_lt fun e => h0 (.inr (.inl e))
    have h2 : l.length ≤ 2000 := Nat.le_of_not_lt fun e => h0 (.inr (.inr e))
    obtain ⟨i, j, rfl, rfl, hi, hj⟩ := has_nats hh
    cases hd : S.dark with
    | true => exact prog_dark A c l i j h hh h1 h2 hd
    | false =>
      cases hbad : S.bl[i].bad with
      | true => exact prog_bad A c l i j h hh h1 h2 hd hi hbad
      | false =>
        by_cases hn : S.bl[i].next = (j : Int)
        · cases hcu : comesS S.cuts with
          | true => exact prog_cut A c l i j h hh h1 h2 hd hi hbad hn hj hl hcu hlc hE
          | false =>
            cases hfa : comesS S.fails with
            | true => exact prog_fail A c l i j h hh h1 h2 hd hi hbad hn hj hl hcu hfa hlc hE
            | false => exact prog_ok A c l i j h hh h1 h2 hd hi hbad hn hj hl hcu hfa hE
        · exact prog_order A c l i j h hh h1 h2 hd hi hbad (fun e => hn e.symm)
end
end Go.Proofs.Ytchghdpfgamfpaa
