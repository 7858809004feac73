/- A slice of calls as an argument, opened: each call's five ints and its bytes. -/
import Derived.Test.YtchghdpfgamfpaaLNil
import Derived.Test.YtchghdpfgamfpaaOpenDo
namespace Go.Proofs.Ytchghdpfgamfpaa
open Go.RowKit Go.ChangeShapes Go.WideShapes

/-- What a call holds. -/
structure Dos where
  x : Int × Int × Int × Int × Int
  A : Option Addr
  c : Nat
  l : List UInt8
/-- A call at number i of a slice at A. -/
structure DosAt (W : World) (A : Option Addr) (i : Nat) (d : Dos) : Prop where
  at_ : ∃ b o, A = some ⟨b, o, none⟩ ∧ b < W.heap.size ∧ DoAt W b (o + i * 6) d.x d.A d.l.length d.c
  rb : RB W W.heap.size d.A d.l
  le : d.l.length ≤ d.c
  wf : (Lit.int .i64 d.x.1).wf = true ∧ (Lit.int .i64 d.x.2.1).wf = true ∧ (Lit.int .i64 d.x.2.2.1).wf = true ∧ (Lit.int .i64 d.x.2.2.2.1).wf = true ∧ (Lit.int .i64 d.x.2.2.2.2).wf = true
instance : Inhabited Dos := ⟨⟨(0, 0, 0, 0, 0), none, 0, []⟩⟩
theorem wf_le {x : Int} (h : (Lit.int .i64 x).wf = true) : -9223372036854775808 ≤ x ∧ x ≤ 9223372036854775807 := by
  have h0 : IntKind.min .i64 = -9223372036854775808 := by decide
  have h1 : IntKind.max .i64 = 9223372036854775807 := by decide
  simp [Lit.wf, h0, h1] at h
  exact h
set_option maxRecDepth 100000 in
theorem open_ldo {H : Type} {enc : TypeId × Value → H} {W : World} {r : Reach} {b0 : Nat} {v : Value} {d : DataW H} {p : List MemPlace} (hv : Value.okWide Try.prog W r b0 23 v) (h : DataW.Trod enc Try.prog W 0 (fun _ => true) true 23 v d p) :
    ∃ (A : Option Addr) (n cap : Nat) (D : Nat → Dos), v = .slice A n cap ∧ n ≤ maxLen ∧ ∀ i, i < n → DosAt W A i (D i) := by
  obtain ⟨a0, len0, cap0, rfl⟩ := okWide_slice Try.underlying23 hv
  obtain ⟨fuel, hf⟩ := h
  rcases Deep.open_slice Try.underlying23 hf with ⟨hcs, _⟩ | ⟨a, len, cap, m, k, D, Pl, hcs, _, hl, hm, hmm, _, hx⟩
  · simp [Value.cells] at hcs
    obtain ⟨rfl, rfl, rfl⟩ := hcs
    exact ⟨none, 0, 0, fun _ => ⟨(0, 0, 0, 0, 0), none, 0, []⟩, rfl, by simp, fun i hi => by omega⟩
  · simp [Value.cells] at hcs
    obtain ⟨rfl, rfl, rfl⟩ := hcs
    have hml : len0 ≤ m := by simp at hmm; omega
    have hplain : 0 < len0 → a.spot = none := fun h0 => by
      obtain ⟨cs', h1, _⟩ := hx 0 (by omega)
      rw [cells_do] at h1
      obtain ⟨_, hlen, hcell⟩ := World.cells?_some h1
      have h9 := hcell 0 (by omega)
      rw [Nat.zero_mul, show (a.add 0).add 0 = a from rfl] at h9
      match cs', hlen with
      | [v0, v1, v2, v3, v4, v5], _ => exact congrArg Addr.spot (addr_plain (w := W) (v := v0) (by simpa using h9)).1
    have each : ∀ i, i < len0 → ∃ q : Dos, DosAt W (some a) i q := fun i hi => by
      obtain ⟨cs', h1, h2⟩ := hx i (by omega)
      rw [cells_do] at h1
      obtain ⟨_, hlen, hcell⟩ := World.cells?_some h1
      obtain ⟨xs, n, _, _, _, hxl, hfl⟩ := DataW.trod_struct Try.underlying34 h2
      match cs', hlen with
      | [v0, v1, v2, v3, v4, v5], _ =>
        have get : ∀ i, i < 5 → ∃ y, xs[i]? = some y := fun i hi => ⟨xs[i]'(by rw [hxl]; exact hi), List.getElem?_eq_getElem _⟩
        have h0 := hfl 0 _ rfl
        have h1 := hfl 1 _ rfl
        have h2 := hfl 2 _ rfl
        have h3 := hfl 3 _ rfl
        have h4 := hfl 4 _ rfl
        obtain ⟨y0, g0⟩ := get 0 (by omega)
        obtain ⟨y1, g1⟩ := get 1 (by omega)
        obtain ⟨y2, g2⟩ := get 2 (by omega)
        obtain ⟨y3, g3⟩ := get 3 (by omega)
        obtain ⟨y4, g4⟩ := get 4 (by omega)
        rw [g0] at h0
        rw [g1] at h1
        rw [g2] at h2
        rw [g3] at h3
        rw [g4] at h4
        obtain ⟨x0, e0, _, w0⟩ := DataW.trod_int Try.underlying3 h0
        obtain ⟨x1, e1, _, w1⟩ := DataW.trod_int Try.underlying3 h1
        obtain ⟨x2, e2, _, w2⟩ := DataW.trod_int Try.underlying3 h2
        obtain ⟨ys, n', _, _, _, hlen', hy⟩ := DataW.trod_struct Try.underlying31 h3
        have k0 := hy 0 _ rfl
        have k1 := hy 1 _ rfl
        rw [List.getElem?_eq_getElem (show 0 < ys.length by rw [hlen']; decide)] at k0
        rw [List.getElem?_eq_getElem (show 1 < ys.length by rw [hlen']; decide)] at k1
        obtain ⟨x3, e3, _, w3⟩ := DataW.trod_int Try.underlying3 k0
        obtain ⟨x4, e4, _, w4⟩ := DataW.trod_int Try.underlying3 k1
        simp [cells_int, cells_spot] at e0 e1 e2 e3 e4
        subst e0 e1 e2 e3 e4
        have c0 := hcell 0 (by omega)
        have c1 := hcell 1 (by omega)
        have c2 := hcell 2 (by omega)
        have c3 := hcell 3 (by omega)
        have c4 := hcell 4 (by omega)
        have c5 := hcell 5 (by omega)
        rw [add_add] at c0 c1 c2 c3 c4 c5
        simp only [List.getElem?_cons_zero, List.getElem?_cons_succ, Nat.add_zero] at c0 c1 c2 c3 c4 c5
        obtain ⟨ea, hab⟩ := addr_plain c0
        have hsp : a.spot = none := hplain (by omega)
        obtain ⟨ab, ao, sp⟩ := a
        obtain rfl : sp = none := hsp
        have hadd : ∀ j, (⟨ab, ao, none⟩ : Addr).add j = ⟨ab, ao + j, none⟩ := fun j => by
          unfold Addr.add; split
          · next e => rw [e]; rfl
          · rfl
        rw [hadd] at c0 c1 c2 c3 c4 c5
        rw [block_add] at hab
        rcases open_ints Try.underlying32 Try.underlying5 cells_byte h4 with ⟨hcs, _⟩ | ⟨a', len', cap', zs, hcs, _, hl', hm', hz, _, hcell', hw'⟩
        · simp [cells_bytes] at hcs
          subst hcs
          exact ⟨⟨(x0, x1, x2, x3, x4), none, 0, []⟩, ⟨ab, ao, rfl, hab, c0, c1, c2, c3, c4, c5⟩, .nil, Nat.le_refl _, w0, w1, w2, w3, w4⟩
        · simp [cells_bytes] at hcs
          subst hcs
          have hlen : ((zs.take len').map fun z => UInt8.ofNat z.toNat).length = len' := by simp at hz ⊢; omega
          have hzl : zs.length = cap' := by simpa using hz
          exact ⟨⟨(x0, x1, x2, x3, x4), some a', cap', _⟩, ⟨ab, ao, rfl, hab, c0, c1, c2, c3, c4, by rw [hlen]; exact c5⟩, rb_of (by omega) hw' (fun a'' e => by cases e; exact hcell') (fun e => by cases e), by rw [hlen]; omega, w0, w1, w2, w3, w4⟩
    obtain ⟨q, hq⟩ := Deep.choose_lt each
    exact ⟨some a, len0, cap0, q, rfl, by omega, hq⟩
end Go.Proofs.Ytchghdpfgamfpaa
