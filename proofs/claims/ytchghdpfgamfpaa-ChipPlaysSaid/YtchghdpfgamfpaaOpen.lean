/- Arguments opened: a slice of bytes, of slices of bytes, of ints, of pairs of ints, as a list. -/
import Derived.Deep.SlicePairs
import Derived.Deep.Matrix
import Derived.WideShapes
import Derived.ChangeSlices
import Derived.Test.YtchghdpfgamfpaaSeq
namespace Go.Proofs.Ytchghdpfgamfpaa
open Go.RowKit Go.ChangeShapes Go.WideShapes

theorem cells_int : Try.prog.cellsOf 3 = 1 := by kernel_rfl
theorem cells_byte : Try.prog.cellsOf 5 = 1 := by kernel_rfl
theorem cells_bytes : Try.prog.cellsOf 32 = 1 := by kernel_rfl
theorem lt_of_cell {w : World} {a : Addr} {v : Value} (h : w.cell? a = some v) : a.block < w.heap.size := by
  rcases Nat.lt_or_ge a.block w.heap.size with h' | h'
  · exact h'
  · simp [World.cell?, Array.getElem?_eq_none h'] at h
theorem ub_of {z : Int} (h : (Lit.int .u8 z).wf = true) : Value.int .u8 z = ub (UInt8.ofNat z.toNat) := by
  have h0 : IntKind.min .u8 = 0 := by decide
  have h1 : IntKind.max .u8 = 255 := by decide
  simp [Lit.wf, h0, h1] at h
  have := ub_ofNat z.toNat (by omega)
  unfold byteOf at this
  rw [this]
  congr 1; omega
theorem rb_of {w : World} {A : Option Addr} {zs : List Int} {len : Nat} (hl : len ≤ zs.length) (hw : ∀ n ∈ zs, (Lit.int .u8 n).wf = true) (hc : ∀ a, A = some a → ∀ i, i < zs.length → w.cell? (a.add i) = some (.int .u8 (zs.getD i 0))) (hA : A = none → zs.length = 0) :
    RB w w.heap.size A ((zs.take len).map fun z => UInt8.ofNat z.toNat) := fun hn => by
  have hn' : 0 < zs.length := by simp at hn; omega
  rcases A with _ | a
  · have := hA rfl; omega
  · have h0 := hc a rfl 0 hn'
    refine ⟨a, rfl, by have := lt_of_cell h0; rwa [block_add] at this, fun j hj => ?_⟩
    have hj' : j < zs.length := by simp at hj; omega
    rw [hc a rfl j hj', List.getElem_map, List.getElem_take]
    have e : zs.getD j 0 = zs[j] := by simp [List.getD, hj']
    rw [e, ub_of (hw _ (List.getElem_mem hj'))]
/-- The slice value v reads as the bytes l. -/
def BArg (w : World) (v : Value) (l : List UInt8) : Prop := ∃ A c, v = .slice A l.length c ∧ RB w w.heap.size A l ∧ l.length ≤ c ∧ l.length ≤ maxLen
set_option maxRecDepth 100000 in
theorem row_bytes {H : Type} {enc : TypeId × Value → H} {W : World} {r : Reach} {b0 : Nat} {v : Value} {d : DataW H} {p : List MemPlace} (hv : Value.okWide Try.prog W r b0 32 v) (h : DataW.Trod enc Try.prog W 0 (fun _ => true) true 32 v d p) :
    ∃ l : List UInt8, BArg W v l := by
  obtain ⟨a0, len, cap, rfl⟩ := okWide_slice Try.underlying32 hv
  obtain ⟨fuel, hf⟩ := h
  rcases open_ints Try.underlying32 Try.underlying5 cells_byte hf with ⟨hcs, _⟩ | ⟨a, len', cap', zs, hcs, _, hl, hm, hz, _, hcell, hw⟩
  · refine ⟨[], none, 0, by simpa [Value.cells] using hcs, .nil, Nat.le_refl _, Nat.zero_le _⟩
  · simp [Value.cells] at hcs
    obtain ⟨rfl, rfl, rfl⟩ := hcs
    have hzl : zs.length = cap := by simpa using hz
    have hlen : ((zs.take len).map fun z => UInt8.ofNat z.toNat).length = len := by simp; omega
    refine ⟨_, some a, cap, by rw [hlen], rb_of (by omega) hw (fun a' e => by cases e; exact hcell) (fun e => by cases e), by rw [hlen]; omega, by rw [hlen]; omega⟩

/-- The slice value sv reads as the list zs. -/
def Row {α : Type} (enc : α → Value) (w : World) (sv : Value) (zs : List α) : Prop :=
  (sv = .slice none 0 0 ∧ zs = []) ∨ ∃ ad cap, sv = .slice (some ad) zs.length cap ∧ ∀ j (h : j < zs.length), w.cell? (ad.add j) = some (enc zs[j])
set_option maxRecDepth 100000 in
theorem row_ints {H : Type} {enc : TypeId × Value → H} {W : World} {r : Reach} {b0 : Nat} {v : Value} {d : DataW H} {p : List MemPlace} (hv : Value.okWide Try.prog W r b0 22 v) (h : DataW.Trod enc Try.prog W 0 (fun _ => true) true 22 v d p) :
    ∃ zs : List Int, Row (Value.int .i64) W v zs ∧ zs.length ≤ maxLen ∧ ∀ z ∈ zs, (Lit.int .i64 z).wf = true := by
  obtain ⟨a0, len, cap, rfl⟩ := okWide_slice Try.underlying22 hv
  obtain ⟨fuel, hf⟩ := h
  rcases open_ints Try.underlying22 Try.underlying3 cells_int hf with ⟨hcs, _⟩ | ⟨a, len', cap', zs, hcs, _, hl, hm, hz, _, hcell, hw⟩
  · exact ⟨[], .inl ⟨by simpa [Value.cells] using hcs, rfl⟩, by simp, by simp⟩
  · simp [Value.cells] at hcs
    obtain ⟨rfl, rfl, rfl⟩ := hcs
    have hlen : (zs.take len).length = len := by simp at hz ⊢; omega
    refine ⟨zs.take len, .inr ⟨a, cap, by rw [hlen], fun j hj => ?_⟩, by omega, fun z hz => hw z (List.mem_of_mem_take hz)⟩
    have hjz : j < zs.length := by simp at hz hj; omega
    rw [hcell j hjz]
    simp [List.getD, hjz]


/-- The slice value v reads as the lists of bytes ls. -/
def BRows (w : World) (v : Value) (ls : List (List UInt8)) : Prop :=
  (v = .slice none 0 0 ∧ ls = []) ∨ ∃ ad cap, v = .slice (some ad) ls.length cap ∧ ∀ r (h : r < ls.length), ∃ A c, w.cell? (ad.add r) = some (.slice A ls[r].length c) ∧ RB w w.heap.size A ls[r] ∧ ls[r].length ≤ c ∧ ls[r].length ≤ maxLen
set_option maxRecDepth 100000 in
theorem row_rows {H : Type} {enc : TypeId × Value → H} {W : World} {r : Reach} {b0 : Nat} {v : Value} {d : DataW H} {p : List MemPlace} (hv : Value.okWide Try.prog W r b0 36 v) (h : DataW.Trod enc Try.prog W 0 (fun _ => true) true 36 v d p) :
    ∃ ls : List (List UInt8), BRows W v ls ∧ ls.length ≤ maxLen := by
  obtain ⟨a0, len, cap, rfl⟩ := okWide_slice Try.underlying36 hv
  obtain ⟨fuel, hf⟩ := h
  rcases Deep.open_int_rows Try.underlying36 Try.underlying32 Try.underlying5 cells_bytes cells_byte hf with ⟨hcs, _⟩ | ⟨a, len', cap', A, L, C, Z, hcs, _, hl, hm, _, hx⟩
  · exact ⟨[], .inl ⟨by simpa [Value.cells] using hcs, rfl⟩, Nat.zero_le _⟩
  · simp [Value.cells] at hcs
    obtain ⟨rfl, rfl, rfl⟩ := hcs
    refine ⟨(List.range len).map fun r => ((Z r).take (L r)).map fun z => UInt8.ofNat z.toNat, .inr ⟨a, cap, by simp, fun r hr => ?_⟩, by simp; omega⟩
    have hr' : r < len := by simpa using hr
    obtain ⟨h1, h2, h3, h4, h5, h6, h7⟩ := hx r (by omega)
    have e : (((List.range len).map fun r => ((Z r).take (L r)).map fun z => UInt8.ofNat z.toNat)[r]'hr) = ((Z r).take (L r)).map fun z => UInt8.ofNat z.toNat := by simp
    have hlen : (((Z r).take (L r)).map fun z => UInt8.ofNat z.toNat).length = L r := by simp; omega
    rw [e, hlen]
    exact ⟨A r, C r, h1, rb_of (by omega) h5 (fun a' e' i hi => (h7 a' e').2 i (by omega)) (fun e' => by have := h6 e'; omega), h2, by omega⟩
theorem addr_plain {w : World} {ad : Addr} {v : Value} (h : w.cell? ad = some v) : ad = ⟨ad.block, ad.off, none⟩ ∧ ad.block < w.heap.size := by
  refine ⟨?_, World.block_lt_of_cell? w _ h⟩
  obtain ⟨b, o, s⟩ := ad
  cases s with
  | none => rfl
  | some x =>
    exfalso
    unfold World.cell? at h
    simp only [Option.isSome_some, if_true] at h
    split at h <;> cases h

end Go.Proofs.Ytchghdpfgamfpaa
