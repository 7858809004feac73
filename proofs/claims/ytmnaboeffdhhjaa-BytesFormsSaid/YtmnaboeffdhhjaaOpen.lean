/- Arguments opened: a slice of bytes, of slices of bytes, of ints, of pairs of ints, as a list. -/
import Derived.Deep.SlicePairs
import Derived.Deep.Matrix
import Derived.WideShapes
import Derived.ChangeSlices
import Derived.Test.YtmnaboeffdhhjaaSeq
namespace Go.Proofs.Ytmnaboeffdhhjaa
open Go.RowKit Go.ChangeShapes Go.WideShapes

theorem cells_int : Try.prog.cellsOf 3 = 1 := by kernel_rfl
theorem cells_byte : Try.prog.cellsOf 5 = 1 := by kernel_rfl
theorem cells_bytes : Try.prog.cellsOf 22 = 1 := by kernel_rfl
theorem lt_of_cell {w : World} {a : Addr} {v : Value} (h : w.cell? a = some v) : a.block < w.heap.size := by
  rcases Nat.lt_or_ge a.block w.heap.size with h' | h'
  · exact h'
  · simp [World.cell?, Array.getElem?_eq_none h'] at h
theorem ub_of {z : Int} (h : (Lit.int .u8 z).wf = true) : Value.int .u8 z = ub (UInt8.ofNat z.toNat) := by
  have h0 : IntKind.min .u8 = 0 := by decide
  have h1 : IntKind.max .u8 = 255 := by decide
  simp [Lit.wf, h0, h1] at h
  have := ub_ofNat z.toNat (by omega)
  unfold byteOf at this
  rw [this]
  congr 1; omega
theorem rb_of {w : World} {A : Option Addr} {zs : List Int} {len : Nat} (hl : len ≤ zs.length) (hw : ∀ n ∈ zs, (Lit.int .u8 n).wf = true) (hc : ∀ a, A = some a → ∀ i, i < zs.length → w.cell? (a.add i) = some (.int .u8 (zs.getD i 0))) (hA : A = none → zs.length = 0) :
    RB w w.heap.size A ((zs.take len).map fun z => UInt8.ofNat z.toNat) := fun hn => by
  have hn' : 0 < zs.length := by simp at hn; omega
  rcases A with _ | a
  · have := hA rfl; omega
  · have h0 := hc a rfl 0 hn'
    refine ⟨a, rfl, by have := lt_of_cell h0; rwa [block_add] at this, fun j hj => ?_⟩
    have hj' : j < zs.length := by simp at hj; omega
    rw [hc a rfl j hj', List.getElem_map, List.getElem_take]
    have e : zs.getD j 0 = zs[j] := by simp [List.getD, hj']
    rw [e, ub_of (hw _ (List.getElem_mem hj'))]
/-- The slice value v reads as the bytes l. -/
def BArg (w : World) (v : Value) (l : List UInt8) : Prop := ∃ A c, v = .slice A l.length c ∧ RB w w.heap.size A l ∧ l.length ≤ c ∧ l.length ≤ maxLen
set_option maxRecDepth 100000 in
theorem row_bytes {H : Type} {enc : TypeId × Value → H} {W : World} {r : Reach} {b0 : Nat} {v : Value} {d : DataW H} {p : List MemPlace} (hv : Value.okWide Try.prog W r b0 22 v) (h : DataW.Trod enc Try.prog W 0 (fun _ => true) true 22 v d p) :
    ∃ l : List UInt8, BArg W v l := by
  obtain ⟨a0, len, cap, rfl⟩ := okWide_slice Try.underlying22 hv
  obtain ⟨fuel, hf⟩ := h
  rcases open_ints Try.underlying22 Try.underlying5 cells_byte hf with ⟨hcs, _⟩ | ⟨a, len', cap', zs, hcs, _, hl, hm, hz, _, hcell, hw⟩
  · refine ⟨[], none, 0, by simpa [Value.cells] using hcs, .nil, Nat.le_refl _, Nat.zero_le _⟩
  · simp [Value.cells] at hcs
    obtain ⟨rfl, rfl, rfl⟩ := hcs
    have hzl : zs.length = cap := by simpa using hz
    have hlen : ((zs.take len).map fun z => UInt8.ofNat z.toNat).length = len := by simp; omega
    refine ⟨_, some a, cap, by rw [hlen], rb_of (by omega) hw (fun a' e => by cases e; exact hcell) (fun e => by cases e), by rw [hlen]; omega, by rw [hlen]; omega⟩

/-- The slice value sv reads as the list zs. -/
def Row {α : Type} (enc : α → Value) (w : World) (sv : Value) (zs : List α) : Prop :=
  (sv = .slice none 0 0 ∧ zs = []) ∨ ∃ ad cap, sv = .slice (some ad) zs.length cap ∧ ∀ j (h : j < zs.length), w.cell? (ad.add j) = some (enc zs[j])
set_option maxRecDepth 100000 in
theorem row_ints {H : Type} {enc : TypeId × Value → H} {W : World} {r : Reach} {b0 : Nat} {v : Value} {d : DataW H} {p : List MemPlace} (hv : Value.okWide Try.prog W r b0 41 v) (h : DataW.Trod enc Try.prog W 0 (fun _ => true) true 41 v d p) :
    ∃ zs : List Int, Row (Value.int .i64) W v zs ∧ zs.length ≤ maxLen ∧ ∀ z ∈ zs, (Lit.int .i64 z).wf = true := by
  obtain ⟨a0, len, cap, rfl⟩ := okWide_slice Try.underlying41 hv
  obtain ⟨fuel, hf⟩ := h
  rcases open_ints Try.underlying41 Try.underlying3 cells_int hf with ⟨hcs, _⟩ | ⟨a, len', cap', zs, hcs, _, hl, hm, hz, _, hcell, hw⟩
  · exact ⟨[], .inl ⟨by simpa [Value.cells] using hcs, rfl⟩, by simp, by simp⟩
  · simp [Value.cells] at hcs
    obtain ⟨rfl, rfl, rfl⟩ := hcs
    have hlen : (zs.take len).length = len := by simp at hz ⊢; omega
    refine ⟨zs.take len, .inr ⟨a, cap, by rw [hlen], fun j hj => ?_⟩, by omega, fun z hz => hw z (List.mem_of_mem_take hz)⟩
    have hjz : j < zs.length := by simp at hz hj; omega
    rw [hcell j hjz]
    simp [List.getD, hjz]

/-- The slice value sv reads as the list l of pairs. -/
def PRow (w : World) (sv : Value) (l : List (Int × Int)) : Prop :=
  (sv = .slice none 0 0 ∧ l = []) ∨ ∃ ad cap, sv = .slice (some ad) l.length cap ∧ ∀ j (h : j < l.length), w.cell? (ad.add (j * 2)) = some (.int .i64 l[j].1) ∧ w.cell? (ad.add (j * 2 + 1)) = some (.int .i64 l[j].2)
def PWf (l : List (Int × Int)) : Prop := ∀ x ∈ l, (Lit.int .i64 x.1).wf = true ∧ (Lit.int .i64 x.2).wf = true

theorem cells_pair : Try.prog.cellsOf 35 = 2 := by kernel_rfl
set_option maxRecDepth 100000 in
theorem row_pairs {H : Type} {enc : TypeId × Value → H} {W : World} {r : Reach} {b0 : Nat} {v : Value} {d : DataW H} {p : List MemPlace} (hv : Value.okWide Try.prog W r b0 27 v) (h : DataW.Trod enc Try.prog W 0 (fun _ => true) true 27 v d p) :
    ∃ l : List (Int × Int), PRow W v l ∧ l.length ≤ maxLen ∧ PWf l := by
  obtain ⟨a0, len, cap, rfl⟩ := okWide_slice Try.underlying27 hv
  obtain ⟨fuel, hf⟩ := h
  rcases Deep.open_slice_pairs Try.underlying27 Try.underlying35 cells_pair rfl rfl cells_int cells_int hf with ⟨hcs, _⟩ | ⟨a, len', cap', m, n, V0, V1, D0, D1, P0, P1, hcs, _, hl, hm, hmm, _, hcell⟩
  · exact ⟨[], .inl ⟨by simpa [Value.cells] using hcs, rfl⟩, by simp, by intro x hx; simp at hx⟩
  · simp [Value.cells] at hcs
    obtain ⟨rfl, rfl, rfl⟩ := hcs
    have hml : len ≤ m := by simp at hmm; omega
    have each : ∀ i, i < len → ∃ x y, V0 i = .int .i64 x ∧ V1 i = .int .i64 y ∧ (Lit.int .i64 x).wf = true ∧ (Lit.int .i64 y).wf = true := fun i hi => by
      obtain ⟨_, _, h0, h1⟩ := hcell i (by omega)
      obtain ⟨x, hx, _, wx⟩ := DataW.trod_int Try.underlying3 h0
      obtain ⟨y, hy, _, wy⟩ := DataW.trod_int Try.underlying3 h1
      exact ⟨x, y, by simpa using hx, by simpa using hy, wx, wy⟩
    refine ⟨(List.range len).map fun i => (intOf (V0 i), intOf (V1 i)), .inr ⟨a, cap, by simp, fun j hj => ?_⟩, by simp; omega, fun x hx => ?_⟩
    · simp at hj
      obtain ⟨x, y, e0, e1, _, _⟩ := each j hj
      obtain ⟨c0, c1, _, _⟩ := hcell j (by omega)
      rw [c0, c1, e0, e1]
      simp [intOf, e0, e1]
    · obtain ⟨i, hi, rfl⟩ := List.mem_map.1 hx
      obtain ⟨x, y, e0, e1, w0, w1⟩ := each i (by simpa using hi)
      simp only [e0, e1, intOf]
      exact ⟨w0, w1⟩
/-- The slice value v reads as the lists of bytes ls. -/
def BRows (w : World) (v : Value) (ls : List (List UInt8)) : Prop :=
  (v = .slice none 0 0 ∧ ls = []) ∨ ∃ ad cap, v = .slice (some ad) ls.length cap ∧ ∀ r (h : r < ls.length), ∃ A c, w.cell? (ad.add r) = some (.slice A ls[r].length c) ∧ RB w w.heap.size A ls[r] ∧ ls[r].length ≤ c ∧ ls[r].length ≤ maxLen
set_option maxRecDepth 100000 in
theorem row_rows {H : Type} {enc : TypeId × Value → H} {W : World} {r : Reach} {b0 : Nat} {v : Value} {d : DataW H} {p : List MemPlace} (hv : Value.okWide Try.prog W r b0 42 v) (h : DataW.Trod enc Try.prog W 0 (fun _ => true) true 42 v d p) :
    ∃ ls : List (List UInt8), BRows W v ls ∧ ls.length ≤ maxLen := by
  obtain ⟨a0, len, cap, rfl⟩ := okWide_slice Try.underlying42 hv
  obtain ⟨fuel, hf⟩ := h
  rcases Deep.open_int_rows Try.underlying42 Try.underlying22 Try.underlying5 cells_bytes cells_byte hf with ⟨hcs, _⟩ | ⟨a, len', cap', A, L, C, Z, hcs, _, hl, hm, _, hx⟩
  · exact ⟨[], .inl ⟨by simpa [Value.cells] using hcs, rfl⟩, Nat.zero_le _⟩
  · simp [Value.cells] at hcs
    obtain ⟨rfl, rfl, rfl⟩ := hcs
    refine ⟨(List.range len).map fun r => ((Z r).take (L r)).map fun z => UInt8.ofNat z.toNat, .inr ⟨a, cap, by simp, fun r hr => ?_⟩, by simp; omega⟩
    have hr' : r < len := by simpa using hr
    obtain ⟨h1, h2, h3, h4, h5, h6, h7⟩ := hx r (by omega)
    have e : (((List.range len).map fun r => ((Z r).take (L r)).map fun z => UInt8.ofNat z.toNat)[r]'hr) = ((Z r).take (L r)).map fun z => UInt8.ofNat z.toNat := by simp
    have hlen : (((Z r).take (L r)).map fun z => UInt8.ofNat z.toNat).length = L r := by simp; omega
    rw [e, hlen]
    exact ⟨A r, C r, h1, rb_of (by omega) h5 (fun a' e' i hi => (h7 a' e').2 i (by omega)) (fun e' => by have := h6 e'; omega), h2, by omega⟩
theorem addr_plain {w : World} {ad : Addr} {v : Value} (h : w.cell? ad = some v) : ad = ⟨ad.block, ad.off, none⟩ ∧ ad.block < w.heap.size := by
  refine ⟨?_, World.block_lt_of_cell? w _ h⟩
  obtain ⟨b, o, s⟩ := ad
  cases s with
  | none => rfl
  | some x =>
    exfalso
    unfold World.cell? at h
    simp only [Option.isSome_some, if_true] at h
    split at h <;> cases h
theorem prow_form {w : World} {sv : Value} {l : List (Int × Int)} (h : PRow w sv l) : ∃ A cap, sv = .slice A l.length cap ∧ ∀ j (h : j < l.length), ∃ b off, A = some ⟨b, off, none⟩ ∧ b < w.heap.size ∧ w.cell? ⟨b, off + j * 2, none⟩ = some (.int .i64 l[j].1) ∧ w.cell? ⟨b, off + j * 2 + 1, none⟩ = some (.int .i64 l[j].2) := by
  rcases h with ⟨rfl, rfl⟩ | ⟨ad, cap, rfl, hc⟩
  · exact ⟨_, _, rfl, fun j h => by simp at h⟩
  · refine ⟨_, _, rfl, fun j h => ?_⟩
    obtain ⟨e, hb⟩ := addr_plain (w := w) (ad := ad) (v := .int .i64 l[0].1) (by simpa [Addr.add] using (hc 0 (by omega)).1)
    obtain ⟨b, off, s⟩ := ad
    obtain rfl : s = none := by simpa using e
    refine ⟨b, off, rfl, hb, ?_, ?_⟩
    · have := (hc j h).1
      by_cases hj : j = 0
      · subst hj; simpa [Addr.add] using this
      · have hj2 : ¬ j * 2 = 0 := by omega
        simpa only [Addr.add, hj2, if_false] using this
    · have := (hc j h).2
      simpa [Addr.add, Nat.add_assoc] using this

end Go.Proofs.Ytmnaboeffdhhjaa
