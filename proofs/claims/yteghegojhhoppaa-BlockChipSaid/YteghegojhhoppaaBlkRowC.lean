/- A slice of ints as an argument, opened; BlockChip as its row opens it. -/
import Derived.Test.YteghegojhhoppaaBlkOpen
import Derived.Test.YteghegojhhoppaaBlkChip
namespace Go.Proofs.Yteghegojhhoppaa
open Go.RowKit Go.ChangeShapes Go.WideShapes

/-- The slice value sv reads as the list zs. -/
def Row {α : Type} (enc : α → Value) (w : World) (sv : Value) (zs : List α) : Prop :=
  (sv = .slice none 0 0 ∧ zs = []) ∨ ∃ ad cap, sv = .slice (some ad) zs.length cap ∧ zs.length ≤ cap ∧ ∀ j (h : j < zs.length), w.cell? (ad.add j) = some (enc zs[j])
set_option maxRecDepth 100000 in
theorem row_ints {H : Type} {enc : TypeId × Value → H} {W : World} {r : Reach} {b0 : Nat} {v : Value} {d : DataW H} {p : List MemPlace} (hv : Value.okWide Try.prog W r b0 31 v) (h : DataW.Trod enc Try.prog W 0 (fun _ => true) true 31 v d p) :
    ∃ zs : List Int, Row (Value.int .i64) W v zs ∧ zs.length ≤ maxLen ∧ ∀ z ∈ zs, (Lit.int .i64 z).wf = true := by
  obtain ⟨a0, len, cap, rfl⟩ := okWide_slice Try.underlying31 hv
  obtain ⟨fuel, hf⟩ := h
  rcases open_ints Try.underlying31 Try.underlying3 cells_int hf with ⟨hcs, _⟩ | ⟨a, len', cap', zs, hcs, _, hl, hm, hz, _, hcell, hw⟩
  · exact ⟨[], .inl ⟨by simpa [Value.cells] using hcs, rfl⟩, by simp, by simp⟩
  · simp [Value.cells] at hcs
    obtain ⟨rfl, rfl, rfl⟩ := hcs
    have hlen : (zs.take len).length = len := by simp at hz ⊢; omega
    refine ⟨zs.take len, .inr ⟨a, cap, by rw [hlen], by omega, fun j hj => ?_⟩, by omega, fun z hz => hw z (List.mem_of_mem_take hz)⟩
    have hjz : j < zs.length := by simp at hz hj; omega
    rw [hcell j hjz]
    simp [List.getD, hjz]
/-- As the walks want it. -/
theorem arr_of {α : Type} {enc : α → Value} {w : World} {sv : Value} {l : List α} (h : Row enc w sv l) : ∃ A c, sv = .slice A l.length c ∧ Arr enc w A l ∧ (A = none → l = [] ∧ c = 0) ∧ l.length ≤ c := by
  rcases h with ⟨rfl, rfl⟩ | ⟨ad, c, rfl, hcap, hc⟩
  · exact ⟨none, 0, rfl, fun h => absurd h (by simp), fun _ => ⟨rfl, rfl⟩, Nat.le_refl _⟩
  · refine ⟨some ad, c, rfl, fun h0 => ?_, (fun h => by cases h), hcap⟩
    obtain ⟨b, off, spot⟩ := ad
    have h := hc 0 h0
    have hs : spot = none := by simpa [Addr.add] using World.cell?_spot h
    subst hs
    have e : ∀ j, (⟨b, off, none⟩ : Addr).add j = ⟨b, off + j, none⟩ := fun j => by
      unfold Addr.add
      split
      · next e => subst e; rfl
      · rfl
    refine ⟨b, off, rfl, ?_, fun j hj => by rw [← e]; exact hc j hj⟩
    rw [e] at h
    rcases Nat.lt_or_ge b w.heap.size with h' | h'
    · exact h'
    · simp [World.cell?, Array.getElem?_eq_none h'] at h
theorem chip_row (sv : Value) (l : List Int) (k : Int) (w : World) (h1 : Row (Value.int .i64) w sv l) (n1 : l.length ≤ maxLen) : Calls Try.prog 4 #[sv, .int .i64 k] w (Holds w) := by
  obtain ⟨A, c, rfl, hA, _⟩ := arr_of h1
  exact chip8_any A c l k w n1 hA
end Go.Proofs.Yteghegojhhoppaa
