/- A slice of blocks as an argument, opened: each block's bool, two ints, its pages as they are. -/
import Derived.Deep.Grids
import Derived.WideShapes
import Derived.ChangeSlices
import Derived.Deep.SlicePairs
import Derived.Test.YteghegojhhoppaaBlk
namespace Go.Proofs.Yteghegojhhoppaa
open Go.RowKit Go.ChangeShapes Go.WideShapes

theorem cells_block : Try.prog.cellsOf 27 = 4 := by kernel_rfl
theorem cells_int : Try.prog.cellsOf 3 = 1 := by kernel_rfl
theorem cells_bool : Try.prog.cellsOf 4 = 1 := by kernel_rfl
theorem cells_pages : Try.prog.cellsOf 25 = 1 := by kernel_rfl
theorem addr_plain {w : World} {ad : Addr} {v : Value} (h : w.cell? ad = some v) : ad = ⟨ad.block, ad.off, none⟩ ∧ ad.block < w.heap.size := by
  refine ⟨?_, World.block_lt_of_cell? w _ h⟩
  have hs := World.cell?_spot h
  obtain ⟨b, o, s⟩ := ad
  have : s = none := hs
  subst this
  rfl
instance : Inhabited Bk := ⟨⟨false, 0, 0, []⟩⟩
set_option maxRecDepth 100000 in
theorem open_lbk {H : Type} {enc : TypeId × Value → H} {W : World} {r : Reach} {b0 : Nat} {v : Value} {d : DataW H} {p : List MemPlace} (hv : Value.okWide Try.prog W r b0 22 v) (h : DataW.Trod enc Try.prog W 0 (fun _ => true) true 22 v d p) :
    ∃ (A : Option Addr) (cap : Nat) (l : List Bk), v = .slice A l.length cap ∧ l.length ≤ maxLen ∧ BLies W A l ∧ BWf l ∧ (A = none → cap = 0) ∧ l.length ≤ cap := by
  obtain ⟨a0, len0, cap0, rfl⟩ := okWide_slice Try.underlying22 hv
  obtain ⟨fuel, hf⟩ := h
  rcases Deep.open_slice Try.underlying22 hf with ⟨hcs, _⟩ | ⟨a, len, cap, m, k, D, Pl, hcs, _, hl, hm, hmm, _, hx⟩
  · simp [Value.cells] at hcs
    obtain ⟨rfl, rfl, rfl⟩ := hcs
    exact ⟨none, 0, [], rfl, by simp, (fun h => absurd h (by simp)), (fun _ h => by cases h), fun _ => rfl, Nat.le_refl _⟩
  · simp [Value.cells] at hcs
    obtain ⟨rfl, rfl, rfl⟩ := hcs
    have hml : len0 ≤ m := by simp at hmm; omega
    have hplain : 0 < len0 → a.spot = none := fun h0 => by
      obtain ⟨cs', h1, _⟩ := hx 0 (by omega)
      rw [cells_block] at h1
      obtain ⟨_, hlen, hcell⟩ := World.cells?_some h1
      have h9 := hcell 0 (by omega)
      rw [Nat.zero_mul, show (a.add 0).add 0 = a from rfl] at h9
      match cs', hlen with
      | [v0, v1, v2, v3], _ => exact congrArg Addr.spot (addr_plain (w := W) (v := v0) (by simpa using h9)).1
    have each : ∀ i, i < len0 → ∃ q : Bk, a.block < W.heap.size ∧ BkC W a.block (a.off + i * 4) q ∧ (Lit.int .i64 q.next).wf = true := fun i hi => by
      obtain ⟨cs', h1, h2⟩ := hx i (by omega)
      rw [cells_block] at h1
      obtain ⟨_, hlen, hcell⟩ := World.cells?_some h1
      obtain ⟨xs, n, _, _, _, hxl, hfl⟩ := DataW.trod_struct Try.underlying27 h2
      match cs', hlen with
      | [v0, v1, v2, v3], _ =>
        have get : ∀ i, i < 4 → ∃ y, xs[i]? = some y := fun i hi => ⟨xs[i]'(by rw [hxl]; exact hi), List.getElem?_eq_getElem _⟩
        have h0 := hfl 0 _ rfl
        have h1 := hfl 1 _ rfl
        have h2 := hfl 2 _ rfl
        have h3 := hfl 3 _ rfl
        obtain ⟨y0, g0⟩ := get 0 (by omega)
        obtain ⟨y1, g1⟩ := get 1 (by omega)
        obtain ⟨y2, g2⟩ := get 2 (by omega)
        obtain ⟨y3, g3⟩ := get 3 (by omega)
        rw [g0] at h0
        rw [g1] at h1
        rw [g2] at h2
        rw [g3] at h3
        obtain ⟨x0, e0, _⟩ := DataW.trod_bool Try.underlying4 h0
        obtain ⟨x1, e1, _, w1⟩ := DataW.trod_int Try.underlying3 h1
        obtain ⟨x2, e2, _, w2⟩ := DataW.trod_int Try.underlying3 h2
        simp [cells_int, cells_bool] at e0 e1 e2
        subst e0 e1 e2
        have c0 := hcell 0 (by omega)
        have c1 := hcell 1 (by omega)
        have c2 := hcell 2 (by omega)
        have c3 := hcell 3 (by omega)
        rw [add_add] at c0 c1 c2 c3
        simp only [List.getElem?_cons_zero, List.getElem?_cons_succ, Nat.add_zero] at c0 c1 c2 c3
        obtain ⟨ea, hab⟩ := addr_plain c0
        have hsp : a.spot = none := hplain (by omega)
        obtain ⟨ab, ao, sp⟩ := a
        obtain rfl : sp = none := hsp
        have hadd : ∀ j, (⟨ab, ao, none⟩ : Addr).add j = ⟨ab, ao + j, none⟩ := fun j => addr_at ab ao j
        rw [hadd] at c0 c1 c2 c3
        rw [block_add] at hab
        have hv3 : ∃ A n c, v3 = .slice A n c := by
          rcases Deep.open_slice Try.underlying25 h3 with ⟨hcs, _⟩ | ⟨a', len', cap', m', k', D', Pl', hcs, _⟩
          · simp [cells_pages] at hcs
            exact ⟨_, _, _, hcs⟩
          · simp [cells_pages] at hcs
            exact ⟨_, _, _, hcs⟩
        obtain ⟨A3, n3, c3', rfl⟩ := hv3
        exact ⟨⟨x0, x1, x2, []⟩, hab, ⟨c0, c1, c2, A3, n3, c3', c3⟩, w1⟩
    obtain ⟨q, hq⟩ := Deep.choose_lt each
    refine ⟨some a, cap0, (List.range len0).map q, by simp, by simp; omega, fun hn => ?_, fun b hb => ?_, (fun e => by cases e), by simp; omega⟩
    · have hn0 : 0 < len0 := by simpa using hn
      have hsp := hplain hn0
      refine ⟨a.block, a.off, ?_, (hq 0 hn0).1, fun j hj => ?_⟩
      · obtain ⟨ab, ao, sp⟩ := a
        obtain rfl : sp = none := hsp
        rfl
      · have hj' : j < len0 := by simpa using hj
        simpa using (hq j hj').2.1
    · obtain ⟨i, hi, rfl⟩ := List.mem_map.1 hb
      exact (hq i (by simpa using hi)).2.2
end Go.Proofs.Yteghegojhhoppaa
