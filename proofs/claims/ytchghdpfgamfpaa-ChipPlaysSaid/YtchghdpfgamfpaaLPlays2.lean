/- ChipPlays, whatever comes in, and as the row opens it. -/
import Derived.Test.YtchghdpfgamfpaaLPlays
import Derived.Test.YtchghdpfgamfpaaLPlays1
namespace Go.Proofs.Ytchghdpfgamfpaa
open Go.RowKit

theorem plays_any (bs ps : Int) (A : Option Addr) (c0 : Nat) (bad : List Int) (A' : Option Addr) (m cap : Nat) (D : Nat → Dos) (w : World) (hn : m ≤ maxLen) (h : ∀ i, i < m → DosAt w A' i (D i)) (hA : IntsArg w A bad) (hl : bad.length ≤ maxLen) :
    Calls Try.prog 3 #[.int .i64 bs, .int .i64 ps, .slice A bad.length c0, .slice A' m cap] w (Holds w) := by
  by_cases hbl : bad.length ≤ 100
  · by_cases hr : 1 ≤ bs ∧ bs ≤ 64 ∧ 1 ≤ ps ∧ ps ≤ 32
    · obtain ⟨n, rfl⟩ : ∃ n : Nat, bs = (n : Int) := ⟨bs.toNat, by omega⟩
      obtain ⟨np, rfl⟩ : ∃ np : Nat, ps = (np : Int) := ⟨ps.toNat, by omega⟩
      exact plays_in n np A c0 bad A' m cap D w hn h hA hbl (by omega) (by omega) (by omega) (by omega)
    · exact plays_out bs ps A c0 bad.length A' m cap D w hn h hbl hr
  · exact plays_long bs ps A c0 bad.length A' m cap D w hn h (by omega) hl
/-- As the row opens it. -/
theorem plays_row (bs ps : Int) (sv : Value) (L : List Int) (A' : Option Addr) (m cap : Nat) (D : Nat → Dos) (w : World) (hA : Row (Value.int .i64) w sv L) (hl : L.length ≤ maxLen) (hn : m ≤ maxLen) (h : ∀ i, i < m → DosAt w A' i (D i)) :
    Calls Try.prog 3 #[.int .i64 bs, .int .i64 ps, sv, .slice A' m cap] w (Holds w) := by
  rcases hA with ⟨rfl, rfl⟩ | ⟨ad, c, rfl, hc⟩
  · exact plays_any bs ps none 0 [] A' m cap D w hn h (fun h => absurd h (by simp)) hl
  · refine plays_any bs ps (some ad) c L A' m cap D w hn h (fun h0 => ?_) hl
    obtain ⟨b, off, spot⟩ := ad
    have h := hc 0 h0
    have hs : spot = none := by simpa [Addr.add] using World.cell?_spot h
    subst hs
    refine ⟨b, off, rfl, lt_of_cell (a := (⟨b, off, none⟩ : Addr)) (by simpa [Addr.add] using h), fun j hj => ?_⟩
    have e : (⟨b, off, none⟩ : Addr).add j = ⟨b, off + j, none⟩ := by
      unfold Addr.add
      split
      · next e => subst e; rfl
      · rfl
    have := hc j hj
    rwa [e] at this
end Go.Proofs.Ytchghdpfgamfpaa
