/- Slices of entries and of texts as arguments, opened. -/
import Derived.ChangeArms
import Derived.Deep.Slices
import Derived.OpenShut
import Derived.SliceStrings
import Derived.Test.YtnmcnnackokhcaaEnN
namespace Go.Proofs.Ytnmcnnackokhcaa
open Go.RowKit Go.ChangeShapes Go.WideShapes

theorem cells_ent : Try.prog.cellsOf 32 = 2 := by kernel_rfl
theorem cells_str : Try.prog.cellsOf 9 = 1 := by kernel_rfl
theorem cells_int : Try.prog.cellsOf 3 = 1 := by kernel_rfl
theorem addr_plainE {w : World} {ad : Addr} {v : Value} (h : w.cell? ad = some v) : ad = ⟨ad.block, ad.off, none⟩ ∧ ad.block < w.heap.size := by
  refine ⟨?_, World.block_lt_of_cell? w _ h⟩
  obtain ⟨b, o, s⟩ := ad
  cases s with
  | none => rfl
  | some x =>
    exfalso
    unfold World.cell? at h
    simp only [Option.isSome_some, if_true] at h
    split at h <;> cases h
set_option maxRecDepth 100000 in
theorem open_lent {H : Type} {enc : TypeId × Value → H} {W : World} {r : Reach} {b0 : Nat} {v : Value} {d : DataW H} {p : List MemPlace} (hv : Value.okWide Try.prog W r b0 22 v) (h : DataW.Trod enc Try.prog W 0 (fun _ => true) true 22 v d p) :
    ∃ (A : Option Addr) (cap : Nat) (l : List Ent), v = .slice A l.length cap ∧ l.length ≤ maxLen ∧ l.length ≤ cap ∧ (A = none → l = [] ∧ cap = 0) ∧ ELies W A l := by
  obtain ⟨a0, len0, cap0, rfl⟩ := okWide_slice Try.underlying22 hv
  obtain ⟨fuel, hf⟩ := h
  rcases Deep.open_slice Try.underlying22 hf with ⟨hcs, _⟩ | ⟨a, len, cap, m, k, D, Pl, hcs, _, hl, hm, hmm, _, hx⟩
  · simp [Value.cells] at hcs
    obtain ⟨rfl, rfl, rfl⟩ := hcs
    exact ⟨none, 0, [], rfl, by simp, by simp, fun _ => ⟨rfl, rfl⟩, .nil _ _⟩
  · simp [Value.cells] at hcs
    obtain ⟨rfl, rfl, rfl⟩ := hcs
    have hml : len0 ≤ m := by simp at hmm; omega
    have hplain : 0 < len0 → ∃ ab ao, a = ⟨ab, ao, none⟩ ∧ ab < W.heap.size := fun h0 => by
      obtain ⟨cs', h1, _⟩ := hx 0 (by omega)
      rw [cells_ent] at h1
      obtain ⟨_, hlen, hcell⟩ := World.cells?_some h1
      have h9 := hcell 0 (by omega)
      rw [Nat.zero_mul, show (a.add 0).add 0 = a from rfl] at h9
      match cs', hlen with
      | [v0, v1], _ =>
        have hp := addr_plainE (w := W) (v := v0) (by simpa using h9)
        exact ⟨a.block, a.off, hp.1, hp.2⟩
    have each : ∀ i, i < len0 → ∃ q : Ent, W.cell? (a.add (i * 2)) = some (.string q.1) ∧ W.cell? (a.add (i * 2 + 1)) = some (.int .i64 q.2) := fun i hi => by
      obtain ⟨cs', h1, h2⟩ := hx i (by omega)
      rw [cells_ent] at h1
      obtain ⟨_, hlen, hcell⟩ := World.cells?_some h1
      obtain ⟨xs, n, _, _, _, hxl, hfl⟩ := DataW.trod_struct Try.underlying32 h2
      match cs', hlen with
      | [v0, v1], _ =>
        have get : ∀ i, i < 2 → ∃ y, xs[i]? = some y := fun i hi => ⟨xs[i]'(by rw [hxl]; exact hi), List.getElem?_eq_getElem _⟩
        have h0 := hfl 0 _ rfl
        have h1 := hfl 1 _ rfl
        obtain ⟨y0, g0⟩ := get 0 (by omega)
        obtain ⟨y1, g1⟩ := get 1 (by omega)
        rw [g0] at h0
        rw [g1] at h1
        obtain ⟨s0, e0, _, w0⟩ := DataW.trod_string Try.underlying9 h0
        obtain ⟨x1, e1, _, w1⟩ := DataW.trod_int Try.underlying3 h1
        simp [cells_int, cells_str] at e0 e1
        subst e0 e1
        have c0 := hcell 0 (by omega)
        have c1 := hcell 1 (by omega)
        rw [add_add] at c0 c1
        simp only [List.getElem?_cons_zero, List.getElem?_cons_succ, Nat.add_zero] at c0 c1
        exact ⟨(s0, x1), c0, c1⟩
    obtain ⟨q, hq⟩ := Deep.choose_lt each
    refine ⟨some a, cap0, (List.range len0).map q, by simp, by simp; omega, by simp; omega, fun e => (by cases e), fun hn => ?_⟩
    simp only [List.length_map, List.length_range] at hn
    obtain ⟨ab, ao, rfl, hab⟩ := hplain hn
    refine ⟨ab, ao, rfl, hab, fun j hj => ?_⟩
    simp only [List.length_map, List.length_range] at hj
    simp only [List.getElem_map, List.getElem_range]
    have hadd : ∀ j, (⟨ab, ao, none⟩ : Addr).add j = ⟨ab, ao + j, none⟩ := fun j => by
      unfold Addr.add; split
      · next e => rw [e]; rfl
      · rfl
    have := hq j hj
    rw [hadd, hadd] at this
    exact this
set_option maxRecDepth 100000 in
theorem open_lstr {H : Type} {enc : TypeId × Value → H} {W : World} {r : Reach} {b0 : Nat} {v : Value} {d : DataW H} {p : List MemPlace} (hv : Value.okWide Try.prog W r b0 29 v) (h : DataW.Trod enc Try.prog W 0 (fun _ => true) true 29 v d p) :
    ∃ (A : Option Addr) (cap : Nat) (l : List ByteArray), v = .slice A l.length cap ∧ l.length ≤ maxLen ∧ l.length ≤ cap ∧ (A = none → l = [] ∧ cap = 0) ∧ TLies W A l := by
  obtain ⟨a0, len0, cap0, rfl⟩ := okWide_slice Try.underlying29 hv
  obtain ⟨fuel, hf⟩ := h
  rcases open_strings Try.underlying29 Try.underlying9 cells_str hf with ⟨hcs, _⟩ | ⟨a, len, cap, ss, hcs, _, hl, hm, hmm, _, hcell, _⟩
  · simp [Value.cells] at hcs
    obtain ⟨rfl, rfl, rfl⟩ := hcs
    exact ⟨none, 0, [], rfl, by simp, by simp, fun _ => ⟨rfl, rfl⟩, fun hn => absurd hn (by simp)⟩
  · simp [Value.cells] at hcs
    obtain ⟨rfl, rfl, rfl⟩ := hcs
    have hml : len0 ≤ ss.length := by simp at hmm; omega
    have hlen : (ss.take len0).length = len0 := by rw [List.length_take]; omega
    refine ⟨some a, cap0, ss.take len0, by rw [hlen], by rw [hlen]; omega, by rw [hlen]; omega, fun e => (by cases e), fun hn => ?_⟩
    rw [hlen] at hn
    have h9 := hcell 0 (by omega)
    obtain ⟨hp, hlt⟩ := addr_plainE h9
    have ha : a.spot = none := by
      have : (a.add 0) = a := rfl
      rw [this] at hp
      rw [hp]
    obtain ⟨ab, ao, sp⟩ := a
    obtain rfl : sp = none := ha
    refine ⟨ab, ao, rfl, hlt, fun j hj => ?_⟩
    rw [hlen] at hj
    have h8 := hcell j (by omega)
    have hadd : (⟨ab, ao, none⟩ : Addr).add j = ⟨ab, ao + j, none⟩ := by
      unfold Addr.add; split
      · next e => rw [e]; rfl
      · rfl
    rw [hadd] at h8
    rw [h8, List.getElem_take]
    simp [List.getD, List.getElem?_eq_getElem (show j < ss.length by omega)]
end Go.Proofs.Ytnmcnnackokhcaa
