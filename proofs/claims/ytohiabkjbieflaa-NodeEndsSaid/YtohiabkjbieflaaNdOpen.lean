/- A node as an argument, opened: three ints, a row of ints, a row of entries. -/
import Derived.ChangeArms
import Derived.ChangeSlices
import Derived.Deep.Slices
import Derived.OpenShut
import Derived.Test.YtohiabkjbieflaaNdR
namespace Go.Proofs.Ytohiabkjbieflaa
open Go.RowKit Go.ChangeShapes Go.WideShapes

theorem cells_ent : Try.prog.cellsOf 38 = 2 := by kernel_rfl
theorem cells_str : Try.prog.cellsOf 9 = 1 := by kernel_rfl
theorem cells_int : Try.prog.cellsOf 3 = 1 := by kernel_rfl
theorem addr_plainE {w : World} {ad : Addr} {v : Value} (h : w.cell? ad = some v) : ad = ⟨ad.block, ad.off, none⟩ ∧ ad.block < w.heap.size := by
  refine ⟨?_, World.block_lt_of_cell? w _ h⟩
  obtain ⟨b, o, s⟩ := ad
  cases s with
  | none => rfl
  | some x =>
    exfalso
    unfold World.cell? at h
    simp only [Option.isSome_some, if_true] at h
    split at h <;> cases h
theorem cells_node : Try.prog.cellsOf 25 = 5 := by kernel_rfl
theorem cells_lint : Try.prog.cellsOf 22 = 1 := by kernel_rfl
theorem cells_lent : Try.prog.cellsOf 23 = 1 := by kernel_rfl
set_option maxRecDepth 100000 in
theorem trod_lent {H : Type} {enc : TypeId × Value → H} {W : World} {fuel : Nat} {cs : List Value} {x : DataW H × List MemPlace} (hf : DataW.trod enc Try.prog W 0 (fun _ => true) true fuel 23 cs = some x) :
    ∃ (A : Option Addr) (cap : Nat) (l : List Ent), cs = [.slice A l.length cap] ∧ l.length ≤ maxLen ∧ l.length ≤ cap ∧ (A = none → l = [] ∧ cap = 0) ∧ ELies W A l := by
  rcases Deep.open_slice Try.underlying23 hf with ⟨hcs, _⟩ | ⟨a, len, cap, m, k, D, Pl, hcs, _, hl, hm, hmm, _, hx⟩
  · subst hcs
    exact ⟨none, 0, [], rfl, by simp, by simp, fun _ => ⟨rfl, rfl⟩, .nil _ _⟩
  · subst hcs
    have hml : len ≤ m := by simp at hmm; omega
    have hplain : 0 < len → ∃ ab ao, a = ⟨ab, ao, none⟩ ∧ ab < W.heap.size := fun h0 => by
      obtain ⟨cs', h1, _⟩ := hx 0 (by omega)
      rw [cells_ent] at h1
      obtain ⟨_, hlen, hcell⟩ := World.cells?_some h1
      have h9 := hcell 0 (by omega)
      rw [Nat.zero_mul, show (a.add 0).add 0 = a from rfl] at h9
      match cs', hlen with
      | [v0, v1], _ =>
        have hp := addr_plainE (w := W) (v := v0) (by simpa using h9)
        exact ⟨a.block, a.off, hp.1, hp.2⟩
    have each : ∀ i, i < len → ∃ q : Ent, W.cell? (a.add (i * 2)) = some (.string q.1) ∧ W.cell? (a.add (i * 2 + 1)) = some (.int .i64 q.2) := fun i hi => by
      obtain ⟨cs', h1, h2⟩ := hx i (by omega)
      rw [cells_ent] at h1
      obtain ⟨_, hlen, hcell⟩ := World.cells?_some h1
      obtain ⟨xs, n, _, _, _, hxl, hfl⟩ := DataW.trod_struct Try.underlying38 h2
      match cs', hlen with
      | [v0, v1], _ =>
        have get : ∀ i, i < 2 → ∃ y, xs[i]? = some y := fun i hi => ⟨xs[i]'(by rw [hxl]; exact hi), List.getElem?_eq_getElem _⟩
        have h0 := hfl 0 _ rfl
        have h1 := hfl 1 _ rfl
        obtain ⟨y0, g0⟩ := get 0 (by omega)
        obtain ⟨y1, g1⟩ := get 1 (by omega)
        rw [g0] at h0
        rw [g1] at h1
        obtain ⟨s0, e0, _, w0⟩ := DataW.trod_string Try.underlying9 h0
        obtain ⟨x1, e1, _, w1⟩ := DataW.trod_int Try.underlying3 h1
        simp [cells_int, cells_str] at e0 e1
        subst e0 e1
        have c0 := hcell 0 (by omega)
        have c1 := hcell 1 (by omega)
        rw [add_add] at c0 c1
        simp only [List.getElem?_cons_zero, List.getElem?_cons_succ, Nat.add_zero] at c0 c1
        exact ⟨(s0, x1), c0, c1⟩
    obtain ⟨q, hq⟩ := Deep.choose_lt each
    refine ⟨some a, cap, (List.range len).map q, by simp, by simp; omega, by simp; omega, fun e => (by cases e), fun hn => ?_⟩
    simp only [List.length_map, List.length_range] at hn
    obtain ⟨ab, ao, rfl, hab⟩ := hplain hn
    refine ⟨ab, ao, rfl, hab, fun j hj => ?_⟩
    simp only [List.length_map, List.length_range] at hj
    simp only [List.getElem_map, List.getElem_range]
    have hadd : ∀ j, (⟨ab, ao, none⟩ : Addr).add j = ⟨ab, ao + j, none⟩ := fun j => by
      unfold Addr.add; split
      · next e => rw [e]; rfl
      · rfl
    have := hq j hj
    rw [hadd, hadd] at this
    exact this
set_option maxRecDepth 100000 in
theorem trod_lint {H : Type} {enc : TypeId × Value → H} {W : World} {fuel : Nat} {cs : List Value} {x : DataW H × List MemPlace} (hf : DataW.trod enc Try.prog W 0 (fun _ => true) true fuel 22 cs = some x) :
    ∃ (A : Option Addr) (cap : Nat) (l : List Int), cs = [.slice A l.length cap] ∧ l.length ≤ maxLen ∧ l.length ≤ cap ∧ (A = none → l = [] ∧ cap = 0) ∧ ILies W A l ∧ ∀ z ∈ l, (Lit.int .i64 z).wf = true := by
  rcases open_ints Try.underlying22 Try.underlying3 cells_int hf with ⟨hcs, _⟩ | ⟨a, len, cap, zs, hcs, _, hl, hm, hz, _, hcell, hw⟩
  · subst hcs
    exact ⟨none, 0, [], rfl, by simp, by simp, fun _ => ⟨rfl, rfl⟩, .nil _ _, by simp⟩
  · subst hcs
    have hml : len ≤ zs.length := by simp at hz; omega
    have hlen : (zs.take len).length = len := by rw [List.length_take]; omega
    refine ⟨some a, cap, zs.take len, by rw [hlen], by rw [hlen]; omega, by rw [hlen]; omega, fun e => (by cases e), fun hn => ?_, fun z hz => hw z (List.mem_of_mem_take hz)⟩
    rw [hlen] at hn
    have h9 := hcell 0 (by omega)
    obtain ⟨hp, hlt⟩ := addr_plainE h9
    have ha : a.spot = none := by
      have : (a.add 0) = a := rfl
      rw [this] at hp
      rw [hp]
    obtain ⟨ab, ao, sp⟩ := a
    obtain rfl : sp = none := ha
    refine ⟨ab, ao, rfl, hlt, fun j hj => ?_⟩
    rw [hlen] at hj
    have h8 := hcell j (by omega)
    have hadd : (⟨ab, ao, none⟩ : Addr).add j = ⟨ab, ao + j, none⟩ := by
      unfold Addr.add; split
      · next e => rw [e]; rfl
      · rfl
    rw [hadd] at h8
    rw [h8, List.getElem_take]
    simp [List.getD, List.getElem?_eq_getElem (show j < zs.length by omega)]
set_option maxRecDepth 100000 in
theorem open_node {H : Type} {enc : TypeId × Value → H} {W : World} {r : Reach} {b0 : Nat} {v : Value} {d : DataW H} {p : List MemPlace} (hv : Value.okWide Try.prog W r b0 25 v) (h : DataW.Trod enc Try.prog W 0 (fun _ => true) true 25 v d p) :
    ∃ (n : Nd) (A B : Option Addr) (c e : Nat), v = ndV n A B c e ∧ NLies W n A B c e ∧ NWf n := by
  obtain ⟨cs, rfl, hsz⟩ := okWide_struct Try.underlying25 hv
  rw [cells_node] at hsz
  obtain ⟨fuel, hf⟩ := h
  obtain ⟨l, rfl⟩ : ∃ l : List Value, cs = l.toArray := ⟨cs.toList, by simp⟩
  match l, hsz with
  | [a, b, c, s, t], _ =>
    obtain ⟨xs, n, _, _, _, hlen, hx⟩ := DataW.trod_struct Try.underlying25 hf
    have get : ∀ i, i < 5 → ∃ y, xs[i]? = some y := fun i hi => ⟨xs[i]'(by rw [hlen]; exact hi), List.getElem?_eq_getElem _⟩
    have h0 := hx 0 _ rfl
    have h1 := hx 1 _ rfl
    have h2 := hx 2 _ rfl
    have h3 := hx 3 _ rfl
    have h4 := hx 4 _ rfl
    obtain ⟨y0, g0⟩ := get 0 (by omega)
    obtain ⟨y1, g1⟩ := get 1 (by omega)
    obtain ⟨y2, g2⟩ := get 2 (by omega)
    obtain ⟨y3, g3⟩ := get 3 (by omega)
    obtain ⟨y4, g4⟩ := get 4 (by omega)
    rw [g0] at h0
    rw [g1] at h1
    rw [g2] at h2
    rw [g3] at h3
    rw [g4] at h4
    obtain ⟨x0, e0, _, w0⟩ := DataW.trod_int Try.underlying3 h0
    obtain ⟨x1, e1, _, w1⟩ := DataW.trod_int Try.underlying3 h1
    obtain ⟨x2, e2, _, w2⟩ := DataW.trod_int Try.underlying3 h2
    obtain ⟨A, ca, ls, e3, s1, s2, s3, s4, s5⟩ := trod_lint h3
    obtain ⟨B, cb, le, e4, t1, t2, t3, t4⟩ := trod_lent h4
    simp [cells_int, cells_lint, cells_lent, Value.cells] at e0 e1 e2 e3 e4
    subst e0 e1 e2 e3 e4
    exact ⟨⟨x0, x1, x2, ls, le⟩, A, B, ca, cb, rfl, ⟨s4, t4, s3, t3, s2, t2, s1, t1⟩, ⟨w0, w1, w2, s5⟩⟩
end Go.Proofs.Ytohiabkjbieflaa
