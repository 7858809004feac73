/- Arguments opened: a slice of ints, of strings, of pairs of ints, as a list. -/
import Derived.Deep.SlicePairs
import Derived.Deep.Strs
import Derived.WideShapes
import Derived.ChangeSlices
import Derived.Test.YtdoaacfonkgokaaLow
namespace Go.Proofs.Ytdoaacfonkgokaa
open Go.RowKit Go.ChangeShapes Go.WideShapes

theorem cells_int : Try.prog.cellsOf 3 = 1 := by kernel_rfl
theorem cells_string : Try.prog.cellsOf 9 = 1 := by kernel_rfl

set_option maxRecDepth 100000 in
theorem row_ints {H : Type} {enc : TypeId × Value → H} {W : World} {r : Reach} {b0 : Nat} {v : Value} {d : DataW H} {p : List MemPlace} (hv : Value.okWide Try.prog W r b0 33 v) (h : DataW.Trod enc Try.prog W 0 (fun _ => true) true 33 v d p) :
    ∃ zs : List Int, Row (Value.int .i64) W v zs ∧ zs.length ≤ maxLen ∧ ∀ z ∈ zs, (Lit.int .i64 z).wf = true := by
  obtain ⟨a0, len, cap, rfl⟩ := okWide_slice Try.underlying33 hv
  obtain ⟨fuel, hf⟩ := h
  rcases open_ints Try.underlying33 Try.underlying3 cells_int hf with ⟨hcs, _⟩ | ⟨a, len', cap', zs, hcs, _, hl, hm, hz, _, hcell, hw⟩
  · exact ⟨[], .inl ⟨by simpa [Value.cells] using hcs, rfl⟩, by simp, by simp⟩
  · simp [Value.cells] at hcs
    obtain ⟨rfl, rfl, rfl⟩ := hcs
    have hlen : (zs.take len).length = len := by simp at hz ⊢; omega
    refine ⟨zs.take len, .inr ⟨a, cap, by rw [hlen], fun j hj => ?_⟩, by omega, fun z hz => hw z (List.mem_of_mem_take hz)⟩
    have hjz : j < zs.length := by simp at hz hj; omega
    rw [hcell j hjz]
    simp [List.getD, hjz]

set_option maxRecDepth 100000 in
theorem row_strs {H : Type} {enc : TypeId × Value → H} {W : World} {r : Reach} {b0 : Nat} {v : Value} {d : DataW H} {p : List MemPlace} (hv : Value.okWide Try.prog W r b0 36 v) (h : DataW.Trod enc Try.prog W 0 (fun _ => true) true 36 v d p) :
    ∃ ss : List (List UInt8), Row encStr W v ss ∧ ss.length ≤ maxLen ∧ ∀ s ∈ ss, s.length ≤ maxLen := by
  obtain ⟨a0, len, cap, rfl⟩ := okWide_slice Try.underlying36 hv
  obtain ⟨fuel, hf⟩ := h
  rcases Deep.open_strs Try.underlying36 Try.underlying9 cells_string hf with ⟨hcs, _⟩ | ⟨a, len', cap', m, Sx, hcs, _, hl, hm, hmm, _, hcell⟩
  · exact ⟨[], .inl ⟨by simpa [Value.cells] using hcs, rfl⟩, by simp, by simp⟩
  · simp [Value.cells] at hcs
    obtain ⟨rfl, rfl, rfl⟩ := hcs
    have hml : len ≤ m := by simp at hmm; omega
    refine ⟨(List.range len).map fun i => (Sx i).data.toList, .inr ⟨a, cap, by simp, fun j hj => ?_⟩, by simp; omega, fun s hs => ?_⟩
    · have hjl : j < len := by simpa using hj
      rw [(hcell j (by omega)).1, List.getElem_map, List.getElem_range]
    · obtain ⟨i, hi, rfl⟩ := List.mem_map.1 hs
      have := (hcell i (by have := List.mem_range.1 hi; omega)).2
      have e : (Sx i).data.toList.length = (Sx i).size := by rw [Array.length_toList]; rfl
      show (Sx i).data.toList.length ≤ maxLen
      rw [e]
      exact this

/-- The slice value sv reads as the list l of pairs. -/
def PRow (w : World) (sv : Value) (l : List (Int × Int)) : Prop :=
  (sv = .slice none 0 0 ∧ l = []) ∨ ∃ ad cap, sv = .slice (some ad) l.length cap ∧ ∀ j (h : j < l.length), w.cell? (ad.add (j * 2)) = some (.int .i64 l[j].1) ∧ w.cell? (ad.add (j * 2 + 1)) = some (.int .i64 l[j].2)
def PWf (l : List (Int × Int)) : Prop := ∀ x ∈ l, (Lit.int .i64 x.1).wf = true ∧ (Lit.int .i64 x.2).wf = true

theorem cells_pair : Try.prog.cellsOf 28 = 2 := by kernel_rfl
set_option maxRecDepth 100000 in
theorem row_pairs {H : Type} {enc : TypeId × Value → H} {W : World} {r : Reach} {b0 : Nat} {v : Value} {d : DataW H} {p : List MemPlace} (hv : Value.okWide Try.prog W r b0 22 v) (h : DataW.Trod enc Try.prog W 0 (fun _ => true) true 22 v d p) :
    ∃ l : List (Int × Int), PRow W v l ∧ l.length ≤ maxLen ∧ PWf l := by
  obtain ⟨a0, len, cap, rfl⟩ := okWide_slice Try.underlying22 hv
  obtain ⟨fuel, hf⟩ := h
  rcases Deep.open_slice_pairs Try.underlying22 Try.underlying28 cells_pair rfl rfl cells_int cells_int hf with ⟨hcs, _⟩ | ⟨a, len', cap', m, n, V0, V1, D0, D1, P0, P1, hcs, _, hl, hm, hmm, _, hcell⟩
  · exact ⟨[], .inl ⟨by simpa [Value.cells] using hcs, rfl⟩, by simp, by intro x hx; simp at hx⟩
  · simp [Value.cells] at hcs
    obtain ⟨rfl, rfl, rfl⟩ := hcs
    have hml : len ≤ m := by simp at hmm; omega
    have each : ∀ i, i < len → ∃ x y, V0 i = .int .i64 x ∧ V1 i = .int .i64 y ∧ (Lit.int .i64 x).wf = true ∧ (Lit.int .i64 y).wf = true := fun i hi => by
      obtain ⟨_, _, h0, h1⟩ := hcell i (by omega)
      obtain ⟨x, hx, _, wx⟩ := DataW.trod_int Try.underlying3 h0
      obtain ⟨y, hy, _, wy⟩ := DataW.trod_int Try.underlying3 h1
      exact ⟨x, y, by simpa using hx, by simpa using hy, wx, wy⟩
    refine ⟨(List.range len).map fun i => (intOf (V0 i), intOf (V1 i)), .inr ⟨a, cap, by simp, fun j hj => ?_⟩, by simp; omega, fun x hx => ?_⟩
    · simp at hj
      obtain ⟨x, y, e0, e1, _, _⟩ := each j hj
      obtain ⟨c0, c1, _, _⟩ := hcell j (by omega)
      rw [c0, c1, e0, e1]
      simp [intOf, e0, e1]
    · obtain ⟨i, hi, rfl⟩ := List.mem_map.1 hx
      obtain ⟨x, y, e0, e1, w0, w1⟩ := each i (by simpa using hi)
      simp only [e0, e1, intOf]
      exact ⟨w0, w1⟩
end Go.Proofs.Ytdoaacfonkgokaa
