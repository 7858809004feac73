/- A sheet as an argument, opened: two ints and a slice of bytes, read. -/
import Derived.ChangeArms
import Derived.Deep.Slices
import Derived.Deep.SlicePairs
import Derived.Deep.Matrix
import Derived.WideShapes
import Derived.ChangeSlices
import Derived.Test.YtnadcdgpfopcaaaMoT
namespace Go.Proofs.Ytnadcdgpfopcaaa
open Go.RowKit Go.ChangeShapes Go.WideShapes

theorem cells_int : Try.prog.cellsOf 3 = 1 := by kernel_rfl
theorem cells_bytes : Try.prog.cellsOf 26 = 1 := by kernel_rfl
theorem cells_byte : Try.prog.cellsOf 5 = 1 := by kernel_rfl
theorem lt_of_cell {w : World} {a : Addr} {v : Value} (h : w.cell? a = some v) : a.block < w.heap.size := by
  rcases Nat.lt_or_ge a.block w.heap.size with h' | h'
  · exact h'
  · simp [World.cell?, Array.getElem?_eq_none h'] at h
theorem ub_of {z : Int} (h : (Lit.int .u8 z).wf = true) : Value.int .u8 z = ub (UInt8.ofNat z.toNat) := by
  have h0 : IntKind.min .u8 = 0 := by decide
  have h1 : IntKind.max .u8 = 255 := by decide
  simp [Lit.wf, h0, h1] at h
  have := ub_ofNat z.toNat (by omega)
  unfold byteOf at this
  rw [this]
  congr 1; omega
theorem rb_of {w : World} {A : Option Addr} {zs : List Int} {len : Nat} (hl : len ≤ zs.length) (hw : ∀ n ∈ zs, (Lit.int .u8 n).wf = true) (hc : ∀ a, A = some a → ∀ i, i < zs.length → w.cell? (a.add i) = some (.int .u8 (zs.getD i 0))) (hA : A = none → zs.length = 0) :
    RB w w.heap.size A ((zs.take len).map fun z => UInt8.ofNat z.toNat) := fun hn => by
  have hn' : 0 < zs.length := by simp at hn; omega
  rcases A with _ | a
  · have := hA rfl; omega
  · have h0 := hc a rfl 0 hn'
    refine ⟨a, rfl, by have := lt_of_cell h0; rwa [block_add] at this, fun j hj => ?_⟩
    have hj' : j < zs.length := by simp at hj; omega
    rw [hc a rfl j hj', List.getElem_map, List.getElem_take]
    have e : zs.getD j 0 = zs[j] := by simp [List.getD, hj']
    rw [e, ub_of (hw _ (List.getElem_mem hj'))]
/-- The slice value v reads as the bytes l. -/
def BArg (w : World) (v : Value) (l : List UInt8) : Prop := ∃ A c, v = .slice A l.length c ∧ RB w w.heap.size A l ∧ l.length ≤ c ∧ l.length ≤ maxLen
set_option maxRecDepth 100000 in
theorem row_bytes {H : Type} {enc : TypeId × Value → H} {W : World} {r : Reach} {b0 : Nat} {v : Value} {d : DataW H} {p : List MemPlace} (hv : Value.okWide Try.prog W r b0 26 v) (h : DataW.Trod enc Try.prog W 0 (fun _ => true) true 26 v d p) :
    ∃ l : List UInt8, BArg W v l := by
  obtain ⟨a0, len, cap, rfl⟩ := okWide_slice Try.underlying26 hv
  obtain ⟨fuel, hf⟩ := h
  rcases open_ints Try.underlying26 Try.underlying5 cells_byte hf with ⟨hcs, _⟩ | ⟨a, len', cap', zs, hcs, _, hl, hm, hz, _, hcell, hw⟩
  · refine ⟨[], none, 0, by simpa [Value.cells] using hcs, .nil, Nat.le_refl _, Nat.zero_le _⟩
  · simp [Value.cells] at hcs
    obtain ⟨rfl, rfl, rfl⟩ := hcs
    have hzl : zs.length = cap := by simpa using hz
    have hlen : ((zs.take len).map fun z => UInt8.ofNat z.toNat).length = len := by simp; omega
    refine ⟨_, some a, cap, by rw [hlen], rb_of (by omega) hw (fun a' e => by cases e; exact hcell) (fun e => by cases e), by rw [hlen]; omega, by rw [hlen]; omega⟩

theorem cells_sh : Try.prog.cellsOf 28 = 3 := by kernel_rfl
set_option maxRecDepth 100000 in
theorem open_sh {H : Type} {enc : TypeId × Value → H} {W : World} {r : Reach} {b0 : Nat} {v : Value} {d : DataW H} {p : List MemPlace} (hv : Value.okWide Try.prog W r b0 28 v) (h : DataW.Trod enc Try.prog W 0 (fun _ => true) true 28 v d p) :
    ∃ (x y : Int) (A : Option Addr) (c : Nat) (l : List UInt8), v = .agg #[.int .i64 x, .int .i64 y, .slice A l.length c] ∧ RB W W.heap.size A l ∧ l.length ≤ c ∧ l.length ≤ maxLen := by
  obtain ⟨cs, rfl, hsz⟩ := okWide_struct Try.underlying28 hv
  rw [cells_sh] at hsz
  obtain ⟨fuel, hf⟩ := h
  obtain ⟨l, rfl⟩ : ∃ l : List Value, cs = l.toArray := ⟨cs.toList, by simp⟩
  match l, hsz with
  | [a, b, c], _ =>
    obtain ⟨xs, n, _, _, _, hlen, hx⟩ := DataW.trod_struct Try.underlying28 hf
    have get : ∀ i, i < 3 → ∃ y, xs[i]? = some y := fun i hi => ⟨xs[i]'(by rw [hlen]; exact hi), List.getElem?_eq_getElem _⟩
    have h0 := hx 0 _ rfl
    have h1 := hx 1 _ rfl
    have h2 := hx 2 _ rfl
    obtain ⟨y0, g0⟩ := get 0 (by omega)
    obtain ⟨y1, g1⟩ := get 1 (by omega)
    obtain ⟨y2, g2⟩ := get 2 (by omega)
    rw [g0] at h0
    rw [g1] at h1
    rw [g2] at h2
    obtain ⟨x0, e0, _, _⟩ := DataW.trod_int Try.underlying3 h0
    obtain ⟨x1, e1, _, _⟩ := DataW.trod_int Try.underlying3 h1
    simp [cells_int, Value.cells] at e0 e1
    subst e0 e1
    rcases open_ints Try.underlying26 Try.underlying5 cells_byte h2 with ⟨hcs, _⟩ | ⟨a, len', cap', zs, hcs, _, hl, hm, hz, _, hcell, hw⟩
    · simp [cells_bytes, Value.cells] at hcs
      subst hcs
      exact ⟨x0, x1, none, 0, [], rfl, .nil, Nat.le_refl _, Nat.zero_le _⟩
    · simp [cells_bytes, Value.cells] at hcs
      subst hcs
      have hzl : zs.length = cap' := by simpa using hz
      have hlen : ((zs.take len').map fun z => UInt8.ofNat z.toNat).length = len' := by simp; omega
      exact ⟨x0, x1, some a, cap', _, by rw [hlen], rb_of (by omega) hw (fun a' e => by cases e; exact hcell) (fun e => by cases e), by rw [hlen]; omega, by rw [hlen]; omega⟩
end Go.Proofs.Ytnadcdgpfopcaaa
