/- A call as an argument, opened: five ints and a slice of bytes. -/
import Derived.ChangeArms
import Derived.Deep.Slices
import Derived.Test.YtchghdpfgamfpaaOpen
namespace Go.Proofs.Ytchghdpfgamfpaa
open Go.RowKit Go.ChangeShapes Go.WideShapes

theorem cells_do : Try.prog.cellsOf 34 = 6 := by kernel_rfl
theorem cells_spot : Try.prog.cellsOf 31 = 2 := by kernel_rfl
set_option maxRecDepth 100000 in
theorem open_do {H : Type} {enc : TypeId × Value → H} {W : World} {r : Reach} {b0 : Nat} {v : Value} {d : DataW H} {p : List MemPlace} (hv : Value.okWide Try.prog W r b0 34 v) (h : DataW.Trod enc Try.prog W 0 (fun _ => true) true 34 v d p) :
    ∃ (x : Int × Int × Int × Int × Int) (A : Option Addr) (m c : Nat), v = .agg #[.int .i64 x.1, .int .i64 x.2.1, .int .i64 x.2.2.1, .int .i64 x.2.2.2.1, .int .i64 x.2.2.2.2, .slice A m c] := by
  obtain ⟨cs, rfl, hsz⟩ := okWide_struct Try.underlying34 hv
  rw [cells_do] at hsz
  obtain ⟨fuel, hf⟩ := h
  obtain ⟨l, rfl⟩ : ∃ l : List Value, cs = l.toArray := ⟨cs.toList, by simp⟩
  match l, hsz with
  | [a, b, c, e, f, g], _ =>
    obtain ⟨xs, n, _, _, _, hlen, hx⟩ := DataW.trod_struct Try.underlying34 hf
    have get : ∀ i, i < 5 → ∃ y, xs[i]? = some y := fun i hi => ⟨xs[i]'(by rw [hlen]; exact hi), List.getElem?_eq_getElem _⟩
    have h0 := hx 0 _ rfl
    have h1 := hx 1 _ rfl
    have h2 := hx 2 _ rfl
    have h3 := hx 3 _ rfl
    have h4 := hx 4 _ rfl
    obtain ⟨y0, g0⟩ := get 0 (by omega)
    obtain ⟨y1, g1⟩ := get 1 (by omega)
    obtain ⟨y2, g2⟩ := get 2 (by omega)
    obtain ⟨y3, g3⟩ := get 3 (by omega)
    obtain ⟨y4, g4⟩ := get 4 (by omega)
    rw [g0] at h0
    rw [g1] at h1
    rw [g2] at h2
    rw [g3] at h3
    rw [g4] at h4
    obtain ⟨x0, e0, _, _⟩ := DataW.trod_int Try.underlying3 h0
    obtain ⟨x1, e1, _, _⟩ := DataW.trod_int Try.underlying3 h1
    obtain ⟨x2, e2, _, _⟩ := DataW.trod_int Try.underlying3 h2
    obtain ⟨ys, n', _, _, _, hlen', hy⟩ := DataW.trod_struct Try.underlying31 h3
    have k0 := hy 0 _ rfl
    have k1 := hy 1 _ rfl
    rw [List.getElem?_eq_getElem (show 0 < ys.length by rw [hlen']; decide)] at k0
    rw [List.getElem?_eq_getElem (show 1 < ys.length by rw [hlen']; decide)] at k1
    obtain ⟨x3, e3, _, _⟩ := DataW.trod_int Try.underlying3 k0
    obtain ⟨x4, e4, _, _⟩ := DataW.trod_int Try.underlying3 k1
    simp [cells_int, cells_spot, Value.cells] at e0 e1 e2 e3 e4
    subst e0 e1 e2 e3 e4
    rcases Deep.open_slice1 (t := 32) Try.underlying32 cells_byte h4 with ⟨hc, _⟩ | ⟨a0, len, cap, m, n2, V, D, Pl, hc, _⟩
    · simp [cells_bytes, Value.cells] at hc
      subst hc
      exact ⟨(x0, x1, x2, x3, x4), none, 0, 0, rfl⟩
    · simp [cells_bytes, Value.cells] at hc
      subst hc
      exact ⟨(x0, x1, x2, x3, x4), some a0, len, cap, rfl⟩
end Go.Proofs.Ytchghdpfgamfpaa
