/- A ref, a spot, a call, a slice of calls as an argument, opened: their ints. -/
import Derived.ChangeArms
import Derived.WideShapes
import Derived.WalkKit
import Derived.ProofKit
import Derived.OpenShut
import Derived.Deep.Grids
import Derived.ChangeSlices
import Derived.Deep.SlicePairs
import Derived.Test.YtbebbnkolpgndaaPlcPerm
namespace Go.Proofs.Ytbebbnkolpgndaa
open Go.RowKit Go.ChangeShapes Go.WideShapes

theorem cells_int : Try.prog.cellsOf 3 = 1 := by kernel_rfl
theorem cells_ref : Try.prog.cellsOf 30 = 2 := by kernel_rfl
theorem cells_spot : Try.prog.cellsOf 24 = 2 := by kernel_rfl
theorem cells_call : Try.prog.cellsOf 32 = 5 := by kernel_rfl
theorem addr_plain {w : World} {ad : Addr} {v : Value} (h : w.cell? ad = some v) : ad = ⟨ad.block, ad.off, none⟩ ∧ ad.block < w.heap.size := by
  refine ⟨?_, World.block_lt_of_cell? w _ h⟩
  have hs := World.cell?_spot h
  obtain ⟨b, o, s⟩ := ad
  have : s = none := hs
  subst this
  rfl
set_option maxRecDepth 100000 in
theorem trod_ref {H : Type} {enc : TypeId × Value → H} {W : World} {base : Nat} {spare : Nat → Bool} {held : Bool} {fuel : Nat} {cs : List Value} {x : DataW H × List MemPlace} (h : DataW.trod enc Try.prog W base spare held fuel 30 cs = some x) :
    ∃ r : P2, cs = [.int .i64 r.1, .int .i64 r.2] ∧ WfP r := by
  obtain ⟨xs, n, _, _, hlen, hxl, hx⟩ := DataW.trod_struct Try.underlying30 h
  rw [cells_ref] at hlen
  match cs, hlen with
  | [a, b], _ =>
    have get : ∀ i, i < 2 → ∃ y, xs[i]? = some y := fun i hi => ⟨xs[i]'(by rw [hxl]; exact hi), List.getElem?_eq_getElem _⟩
    have h0 := hx 0 _ rfl
    have h1 := hx 1 _ rfl
    obtain ⟨y0, g0⟩ := get 0 (by omega)
    obtain ⟨y1, g1⟩ := get 1 (by omega)
    rw [g0] at h0
    rw [g1] at h1
    obtain ⟨x0, e0, _, w0⟩ := DataW.trod_int Try.underlying3 h0
    obtain ⟨x1, e1, _, w1⟩ := DataW.trod_int Try.underlying3 h1
    simp [cells_int] at e0 e1
    subst e0 e1
    exact ⟨(x0, x1), rfl, w0, w1⟩
set_option maxRecDepth 100000 in
theorem open_ref {H : Type} {enc : TypeId × Value → H} {W : World} {r : Reach} {b0 : Nat} {v : Value} {d : DataW H} {p : List MemPlace} (hv : Value.okWide Try.prog W r b0 30 v) (h : DataW.Trod enc Try.prog W 0 (fun _ => true) true 30 v d p) :
    ∃ a : P2, v = P2V a ∧ WfP a := by
  obtain ⟨cs, rfl, hsz⟩ := okWide_struct Try.underlying30 hv
  obtain ⟨fuel, hf⟩ := h
  obtain ⟨l, rfl⟩ : ∃ l : List Value, cs = l.toArray := ⟨cs.toList, by simp⟩
  obtain ⟨a, e, hw⟩ := trod_ref hf
  simp [Value.cells] at e
  subst e
  exact ⟨a, rfl, hw⟩
set_option maxRecDepth 100000 in
theorem trod_spot {H : Type} {enc : TypeId × Value → H} {W : World} {base : Nat} {spare : Nat → Bool} {held : Bool} {fuel : Nat} {cs : List Value} {x : DataW H × List MemPlace} (h : DataW.trod enc Try.prog W base spare held fuel 24 cs = some x) :
    ∃ r : P2, cs = [.int .i64 r.1, .int .i64 r.2] ∧ WfP r := by
  obtain ⟨xs, n, _, _, hlen, hxl, hx⟩ := DataW.trod_struct Try.underlying24 h
  rw [cells_spot] at hlen
  match cs, hlen with
  | [a, b], _ =>
    have get : ∀ i, i < 2 → ∃ y, xs[i]? = some y := fun i hi => ⟨xs[i]'(by rw [hxl]; exact hi), List.getElem?_eq_getElem _⟩
    have h0 := hx 0 _ rfl
    have h1 := hx 1 _ rfl
    obtain ⟨y0, g0⟩ := get 0 (by omega)
    obtain ⟨y1, g1⟩ := get 1 (by omega)
    rw [g0] at h0
    rw [g1] at h1
    obtain ⟨x0, e0, _, w0⟩ := DataW.trod_int Try.underlying3 h0
    obtain ⟨x1, e1, _, w1⟩ := DataW.trod_int Try.underlying3 h1
    simp [cells_int] at e0 e1
    subst e0 e1
    exact ⟨(x0, x1), rfl, w0, w1⟩
set_option maxRecDepth 100000 in
theorem open_spot {H : Type} {enc : TypeId × Value → H} {W : World} {r : Reach} {b0 : Nat} {v : Value} {d : DataW H} {p : List MemPlace} (hv : Value.okWide Try.prog W r b0 24 v) (h : DataW.Trod enc Try.prog W 0 (fun _ => true) true 24 v d p) :
    ∃ a : P2, v = P2V a ∧ WfP a := by
  obtain ⟨cs, rfl, hsz⟩ := okWide_struct Try.underlying24 hv
  obtain ⟨fuel, hf⟩ := h
  obtain ⟨l, rfl⟩ : ∃ l : List Value, cs = l.toArray := ⟨cs.toList, by simp⟩
  obtain ⟨a, e, hw⟩ := trod_spot hf
  simp [Value.cells] at e
  subst e
  exact ⟨a, rfl, hw⟩
abbrev clV (c : Cl) : List Value := [.int .i64 c.1, .int .i64 c.2.1.1, .int .i64 c.2.1.2, .int .i64 c.2.2.1, .int .i64 c.2.2.2]
set_option maxRecDepth 100000 in
theorem trod_call {H : Type} {enc : TypeId × Value → H} {W : World} {base : Nat} {spare : Nat → Bool} {held : Bool} {fuel : Nat} {cs : List Value} {x : DataW H × List MemPlace} (h : DataW.trod enc Try.prog W base spare held fuel 32 cs = some x) :
    ∃ c : Cl, cs = clV c ∧ (Lit.int .i64 c.1).wf = true ∧ WfP c.2.1 ∧ WfP c.2.2 := by
  obtain ⟨xs, n, _, _, hlen, hxl, hx⟩ := DataW.trod_struct Try.underlying32 h
  rw [cells_call] at hlen
  match cs, hlen with
  | [a, b, c, e, f], _ =>
    have get : ∀ i, i < 3 → ∃ y, xs[i]? = some y := fun i hi => ⟨xs[i]'(by rw [hxl]; exact hi), List.getElem?_eq_getElem _⟩
    have h0 := hx 0 _ rfl
    have h1 := hx 1 _ rfl
    have h2 := hx 2 _ rfl
    obtain ⟨y0, g0⟩ := get 0 (by omega)
    obtain ⟨y1, g1⟩ := get 1 (by omega)
    obtain ⟨y2, g2⟩ := get 2 (by omega)
    rw [g0] at h0
    rw [g1] at h1
    rw [g2] at h2
    obtain ⟨x0, e0, _, w0⟩ := DataW.trod_int Try.underlying3 h0
    obtain ⟨r, e1, w1⟩ := trod_ref h1
    obtain ⟨s, e2, w2⟩ := trod_spot h2
    simp [cells_int, cells_ref, cells_spot] at e0 e1 e2
    obtain ⟨rfl, rfl⟩ := e1
    obtain ⟨rfl, rfl⟩ := e2
    subst e0
    exact ⟨(x0, r, s), rfl, w0, w1, w2⟩
set_option maxRecDepth 100000 in
theorem open_call {H : Type} {enc : TypeId × Value → H} {W : World} {r : Reach} {b0 : Nat} {v : Value} {d : DataW H} {p : List MemPlace} (hv : Value.okWide Try.prog W r b0 32 v) (h : DataW.Trod enc Try.prog W 0 (fun _ => true) true 32 v d p) :
    ∃ c : Cl, v = .agg #[.int .i64 c.1, .int .i64 c.2.1.1, .int .i64 c.2.1.2, .int .i64 c.2.2.1, .int .i64 c.2.2.2] ∧ (Lit.int .i64 c.1).wf = true ∧ WfP c.2.1 ∧ WfP c.2.2 := by
  obtain ⟨cs, rfl, hsz⟩ := okWide_struct Try.underlying32 hv
  obtain ⟨fuel, hf⟩ := h
  obtain ⟨l, rfl⟩ : ∃ l : List Value, cs = l.toArray := ⟨cs.toList, by simp⟩
  obtain ⟨a, e, hw⟩ := trod_call hf
  simp [Value.cells] at e
  subst e
  exact ⟨a, rfl, hw⟩
set_option maxRecDepth 100000 in
theorem open_lcall {H : Type} {enc : TypeId × Value → H} {W : World} {r : Reach} {b0 : Nat} {v : Value} {d : DataW H} {p : List MemPlace} (hv : Value.okWide Try.prog W r b0 22 v) (h : DataW.Trod enc Try.prog W 0 (fun _ => true) true 22 v d p) :
    ∃ (A : Option Addr) (cap : Nat) (l : List Cl), v = .slice A l.length cap ∧ l.length ≤ maxLen ∧ CLies W A l ∧ CWf l := by
  obtain ⟨a0, len0, cap0, rfl⟩ := okWide_slice Try.underlying22 hv
  obtain ⟨fuel, hf⟩ := h
  rcases Deep.open_slice Try.underlying22 hf with ⟨hcs, _⟩ | ⟨a, len, cap, m, k, D, Pl, hcs, _, hl, hm, hmm, _, hx⟩
  · simp [Value.cells] at hcs
    obtain ⟨rfl, rfl, rfl⟩ := hcs
    exact ⟨none, 0, [], rfl, by simp, (fun h => absurd h (by simp)), (fun _ h => by cases h)⟩
  · simp [Value.cells] at hcs
    obtain ⟨rfl, rfl, rfl⟩ := hcs
    have hml : len0 ≤ m := by simp at hmm; omega
    have hplain : 0 < len0 → a.spot = none := fun h0 => by
      obtain ⟨cs', h1, h2⟩ := hx 0 (by omega)
      rw [cells_call] at h1
      obtain ⟨_, hlen, hcell⟩ := World.cells?_some h1
      have h9 := hcell 0 (by omega)
      rw [Nat.zero_mul, show (a.add 0).add 0 = a from rfl] at h9
      obtain ⟨c, rfl, _⟩ := trod_call h2
      exact congrArg Addr.spot (addr_plain (w := W) (by simpa using h9)).1
    have each : ∀ i, i < len0 → ∃ c : Cl, a.block < W.heap.size ∧ (W.cell? ⟨a.block, a.off + i * 5, none⟩ = some (.int .i64 c.1) ∧ W.cell? ⟨a.block, a.off + i * 5 + 1, none⟩ = some (.int .i64 c.2.1.1) ∧ W.cell? ⟨a.block, a.off + i * 5 + 2, none⟩ = some (.int .i64 c.2.1.2) ∧ W.cell? ⟨a.block, a.off + i * 5 + 3, none⟩ = some (.int .i64 c.2.2.1) ∧ W.cell? ⟨a.block, a.off + i * 5 + 4, none⟩ = some (.int .i64 c.2.2.2)) ∧ ((Lit.int .i64 c.1).wf = true ∧ WfP c.2.1 ∧ WfP c.2.2) := fun i hi => by
      obtain ⟨cs', h1, h2⟩ := hx i (by omega)
      rw [cells_call] at h1
      obtain ⟨_, hlen, hcell⟩ := World.cells?_some h1
      obtain ⟨c, rfl, hw⟩ := trod_call h2
      have c0 := hcell 0 (by omega)
      have c1 := hcell 1 (by omega)
      have c2 := hcell 2 (by omega)
      have c3 := hcell 3 (by omega)
      have c4 := hcell 4 (by omega)
      rw [add_add] at c0 c1 c2 c3 c4
      simp only [List.getElem?_cons_zero, List.getElem?_cons_succ, Nat.add_zero] at c0 c1 c2 c3 c4
      obtain ⟨ea, hab⟩ := addr_plain c0
      have hsp : a.spot = none := hplain (by omega)
      obtain ⟨ab, ao, sp⟩ := a
      obtain rfl : sp = none := hsp
      have hadd : ∀ j, (⟨ab, ao, none⟩ : Addr).add j = ⟨ab, ao + j, none⟩ := fun j => addr_at ab ao j
      rw [hadd] at c0 c1 c2 c3 c4
      rw [block_add] at hab
      exact ⟨c, hab, ⟨c0, c1, c2, c3, c4⟩, hw⟩
    obtain ⟨q, hq⟩ := Deep.choose_lt each
    refine ⟨some a, cap0, (List.range len0).map q, by simp, by simp; omega, fun hn => ?_, fun b hb => ?_⟩
    · have hn0 : 0 < len0 := by simpa using hn
      have hsp := hplain hn0
      refine ⟨a.block, a.off, ?_, (hq 0 hn0).1, fun j hj => ?_⟩
      · obtain ⟨ab, ao, sp⟩ := a
        obtain rfl : sp = none := hsp
        rfl
      · have hj' : j < len0 := by simpa using hj
        simpa using (hq j hj').2.1
    · obtain ⟨i, hi, rfl⟩ := List.mem_map.1 hb
      exact (hq i (by simpa using hi)).2.2
end Go.Proofs.Ytbebbnkolpgndaa
