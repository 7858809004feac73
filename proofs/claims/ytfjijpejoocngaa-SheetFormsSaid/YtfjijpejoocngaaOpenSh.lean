/- A sheet as an argument, opened: two ints and a slice of bytes, read. -/
import Derived.ChangeArms
import Derived.Deep.Slices
import Derived.Test.YtfjijpejoocngaaOpen
namespace Go.Proofs.Ytfjijpejoocngaa
open Go.RowKit Go.ChangeShapes Go.WideShapes

theorem cells_sh : Try.prog.cellsOf 24 = 3 := by kernel_rfl
set_option maxRecDepth 100000 in
theorem open_sh {H : Type} {enc : TypeId × Value → H} {W : World} {r : Reach} {b0 : Nat} {v : Value} {d : DataW H} {p : List MemPlace} (hv : Value.okWide Try.prog W r b0 24 v) (h : DataW.Trod enc Try.prog W 0 (fun _ => true) true 24 v d p) :
    ∃ (x y : Int) (A : Option Addr) (c : Nat) (l : List UInt8), v = .agg #[.int .i64 x, .int .i64 y, .slice A l.length c] ∧ RB W W.heap.size A l ∧ l.length ≤ c ∧ l.length ≤ maxLen := by
  obtain ⟨cs, rfl, hsz⟩ := okWide_struct Try.underlying24 hv
  rw [cells_sh] at hsz
  obtain ⟨fuel, hf⟩ := h
  obtain ⟨l, rfl⟩ : ∃ l : List Value, cs = l.toArray := ⟨cs.toList, by simp⟩
  match l, hsz with
  | [a, b, c], _ =>
    obtain ⟨xs, n, _, _, _, hlen, hx⟩ := DataW.trod_struct Try.underlying24 hf
    have get : ∀ i, i < 3 → ∃ y, xs[i]? = some y := fun i hi => ⟨xs[i]'(by rw [hlen]; exact hi), List.getElem?_eq_getElem _⟩
    have h0 := hx 0 _ rfl
    have h1 := hx 1 _ rfl
    have h2 := hx 2 _ rfl
    obtain ⟨y0, g0⟩ := get 0 (by omega)
    obtain ⟨y1, g1⟩ := get 1 (by omega)
    obtain ⟨y2, g2⟩ := get 2 (by omega)
    rw [g0] at h0
    rw [g1] at h1
    rw [g2] at h2
    obtain ⟨x0, e0, _, _⟩ := DataW.trod_int Try.underlying3 h0
    obtain ⟨x1, e1, _, _⟩ := DataW.trod_int Try.underlying3 h1
    simp [cells_int, Value.cells] at e0 e1
    subst e0 e1
    rcases open_ints Try.underlying22 Try.underlying5 cells_byte h2 with ⟨hcs, _⟩ | ⟨a, len', cap', zs, hcs, _, hl, hm, hz, _, hcell, hw⟩
    · simp [cells_bytes, Value.cells] at hcs
      subst hcs
      exact ⟨x0, x1, none, 0, [], rfl, .nil, Nat.le_refl _, Nat.zero_le _⟩
    · simp [cells_bytes, Value.cells] at hcs
      subst hcs
      have hzl : zs.length = cap' := by simpa using hz
      have hlen : ((zs.take len').map fun z => UInt8.ofNat z.toNat).length = len' := by simp; omega
      exact ⟨x0, x1, some a, cap', _, by rw [hlen], rb_of (by omega) hw (fun a' e => by cases e; exact hcell) (fun e => by cases e), by rw [hlen]; omega, by rw [hlen]; omega⟩
end Go.Proofs.Ytfjijpejoocngaa
