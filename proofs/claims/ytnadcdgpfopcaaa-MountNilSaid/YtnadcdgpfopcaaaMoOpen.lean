/- A slice of refs as an argument, opened; the rows' contracts. -/
import Derived.Deep.SlicePairs
import Derived.WideShapes
import Derived.ChangeSlices
import Derived.Test.YtnadcdgpfopcaaaMoT
namespace Go.Proofs.Ytnadcdgpfopcaaa
open Go.RowKit Go.ChangeShapes Go.WideShapes

theorem addr_plain1 {w : World} {ad : Addr} {v : Value} (h : w.cell? ad = some v) : ad = ⟨ad.block, ad.off, none⟩ ∧ ad.block < w.heap.size := by
  refine ⟨?_, World.block_lt_of_cell? w _ h⟩
  obtain ⟨b, o, s⟩ := ad
  cases s with
  | none => rfl
  | some x =>
    exfalso
    unfold World.cell? at h
    simp only [Option.isSome_some, if_true] at h
    split at h <;> cases h
theorem cells_int1 : Try.prog.cellsOf 3 = 1 := by kernel_rfl
/-- The slice value sv reads as the list l of pairs. -/
def PRow (w : World) (sv : Value) (l : List (Int × Int)) : Prop :=
  (sv = .slice none 0 0 ∧ l = []) ∨ ∃ ad cap, sv = .slice (some ad) l.length cap ∧ ∀ j (h : j < l.length), w.cell? (ad.add (j * 2)) = some (.int .i64 l[j].1) ∧ w.cell? (ad.add (j * 2 + 1)) = some (.int .i64 l[j].2)
def PWf (l : List (Int × Int)) : Prop := ∀ x ∈ l, (Lit.int .i64 x.1).wf = true ∧ (Lit.int .i64 x.2).wf = true
theorem cells_pair : Try.prog.cellsOf 31 = 2 := by kernel_rfl
set_option maxRecDepth 100000 in
theorem row_pairs {H : Type} {enc : TypeId × Value → H} {W : World} {r : Reach} {b0 : Nat} {v : Value} {d : DataW H} {p : List MemPlace} (hv : Value.okWide Try.prog W r b0 25 v) (h : DataW.Trod enc Try.prog W 0 (fun _ => true) true 25 v d p) :
    ∃ l : List (Int × Int), PRow W v l ∧ l.length ≤ maxLen ∧ PWf l := by
  obtain ⟨a0, len, cap, rfl⟩ := okWide_slice Try.underlying25 hv
  obtain ⟨fuel, hf⟩ := h
  rcases Deep.open_slice_pairs Try.underlying25 Try.underlying31 cells_pair rfl rfl cells_int1 cells_int1 hf with ⟨hcs, _⟩ | ⟨a, len', cap', m, n, V0, V1, D0, D1, P0, P1, hcs, _, hl, hm, hmm, _, hcell⟩
  · exact ⟨[], .inl ⟨by simpa [Value.cells] using hcs, rfl⟩, by simp, by intro x hx; simp at hx⟩
  · simp [Value.cells] at hcs
    obtain ⟨rfl, rfl, rfl⟩ := hcs
    have hml : len ≤ m := by simp at hmm; omega
    have each : ∀ i, i < len → ∃ x y, V0 i = .int .i64 x ∧ V1 i = .int .i64 y ∧ (Lit.int .i64 x).wf = true ∧ (Lit.int .i64 y).wf = true := fun i hi => by
      obtain ⟨_, _, h0, h1⟩ := hcell i (by omega)
      obtain ⟨x, hx, _, wx⟩ := DataW.trod_int Try.underlying3 h0
      obtain ⟨y, hy, _, wy⟩ := DataW.trod_int Try.underlying3 h1
      exact ⟨x, y, by simpa using hx, by simpa using hy, wx, wy⟩
    refine ⟨(List.range len).map fun i => (intOf (V0 i), intOf (V1 i)), .inr ⟨a, cap, by simp, fun j hj => ?_⟩, by simp; omega, fun x hx => ?_⟩
    · simp at hj
      obtain ⟨x, y, e0, e1, _, _⟩ := each j hj
      obtain ⟨c0, c1, _, _⟩ := hcell j (by omega)
      rw [c0, c1, e0, e1]
      simp [intOf, e0, e1]
    · obtain ⟨i, hi, rfl⟩ := List.mem_map.1 hx
      obtain ⟨x, y, e0, e1, w0, w1⟩ := each i (by simpa using hi)
      simp only [e0, e1, intOf]
      exact ⟨w0, w1⟩
theorem prow_form {w : World} {sv : Value} {l : List (Int × Int)} (h : PRow w sv l) : ∃ A cap, sv = .slice A l.length cap ∧ ∀ j (h : j < l.length), ∃ b off, A = some ⟨b, off, none⟩ ∧ b < w.heap.size ∧ w.cell? ⟨b, off + j * 2, none⟩ = some (.int .i64 l[j].1) ∧ w.cell? ⟨b, off + j * 2 + 1, none⟩ = some (.int .i64 l[j].2) := by
  rcases h with ⟨rfl, rfl⟩ | ⟨ad, cap, rfl, hc⟩
  · exact ⟨_, _, rfl, fun j h => by simp at h⟩
  · refine ⟨_, _, rfl, fun j h => ?_⟩
    obtain ⟨e, hb⟩ := addr_plain1 (w := w) (ad := ad) (v := .int .i64 l[0].1) (by simpa [Addr.add] using (hc 0 (by omega)).1)
    obtain ⟨b, off, s⟩ := ad
    obtain rfl : s = none := by simpa using e
    refine ⟨b, off, rfl, hb, ?_, ?_⟩
    · have := (hc j h).1
      by_cases hj : j = 0
      · subst hj; simpa [Addr.add] using this
      · have hj2 : ¬ j * 2 = 0 := by omega
        simpa only [Addr.add, hj2, if_false] using this
    · have := (hc j h).2
      simpa [Addr.add, Nat.add_assoc] using this
theorem nil_row {v1 : Value} {l1 : List (Int × Int)} (n : Int) (W : World) (h : PRow W v1 l1) : Calls Try.prog 4 #[.int .i64 n, v1] W fun e w' => e = .returned (.bool true) ∧ Below W.heap.size W w' := by
  rcases h with ⟨rfl, rfl⟩ | ⟨ad, cap, rfl, -⟩
  · exact nil_law n none 0 0 W
  · exact nil_law n (some ad) cap l1.length W
end Go.Proofs.Ytnadcdgpfopcaaa
