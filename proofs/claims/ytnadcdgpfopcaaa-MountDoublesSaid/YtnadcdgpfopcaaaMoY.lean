/- A slice of sheets as an argument, opened; light; in how many steps a chip is through at most. -/
import Derived.Test.YtnadcdgpfopcaaaOpenSh
import Derived.Test.YtnadcdgpfopcaaaMoX
namespace Go.Proofs.Ytnadcdgpfopcaaa
open Go.RowKit Go.ChangeShapes Go.WideShapes

/-- What a sheet of a slice holds. -/
structure Shs where
  p : Int
  s : Int
  A : Option Addr
  c : Nat
  l : List UInt8
instance : Inhabited Shs := ⟨⟨0, 0, none, 0, []⟩⟩
def Shs.sh (d : Shs) : Sh := (d.p, d.s, d.l)
/-- A sheet at number i of a slice at A. -/
structure ShsAt (W : World) (A : Option Addr) (i : Nat) (d : Shs) : Prop where
  at_ : ∃ b o, A = some ⟨b, o, none⟩ ∧ b < W.heap.size ∧ W.cell? ⟨b, o + i * 3, none⟩ = some (.int .i64 d.p) ∧ W.cell? ⟨b, o + i * 3 + 1, none⟩ = some (.int .i64 d.s) ∧ W.cell? ⟨b, o + i * 3 + 2, none⟩ = some (.slice d.A d.l.length d.c)
  rb : RB W W.heap.size d.A d.l
  le : d.l.length ≤ d.c
  lm : d.l.length ≤ maxLen
  wf : (Lit.int .i64 d.p).wf = true ∧ (Lit.int .i64 d.s).wf = true
/-- The sheets of a slice at A. -/
def ShLies (W : World) (A : Option Addr) (l : List Shs) : Prop := ∀ i (h : i < l.length), ShsAt W A i l[i]
theorem addr_plainY {w : World} {ad : Addr} {v : Value} (h : w.cell? ad = some v) : ad = ⟨ad.block, ad.off, none⟩ ∧ ad.block < w.heap.size := by
  refine ⟨?_, World.block_lt_of_cell? w _ h⟩
  obtain ⟨b, o, s⟩ := ad
  cases s with
  | none => rfl
  | some x =>
    exfalso
    unfold World.cell? at h
    simp only [Option.isSome_some, if_true] at h
    split at h <;> cases h
theorem add_addY (a : Addr) (i j : Nat) : (a.add i).add j = a.add (i + j) := by
  unfold Addr.add
  split
  · next h => subst h; simp
  · split
    · next h => subst h; simp_all
    · rw [if_neg (by omega), Nat.add_assoc]
set_option maxRecDepth 100000 in
theorem open_lsh {H : Type} {enc : TypeId × Value → H} {W : World} {r : Reach} {b0 : Nat} {v : Value} {d : DataW H} {p : List MemPlace} (hv : Value.okWide Try.prog W r b0 22 v) (h : DataW.Trod enc Try.prog W 0 (fun _ => true) true 22 v d p) :
    ∃ (A : Option Addr) (cap : Nat) (l : List Shs), v = .slice A l.length cap ∧ l.length ≤ maxLen ∧ l.length ≤ cap ∧ ShLies W A l := by
  obtain ⟨a0, len0, cap0, rfl⟩ := okWide_slice Try.underlying22 hv
  obtain ⟨fuel, hf⟩ := h
  rcases Deep.open_slice Try.underlying22 hf with ⟨hcs, _⟩ | ⟨a, len, cap, m, k, D, Pl, hcs, _, hl, hm, hmm, _, hx⟩
  · simp [Value.cells] at hcs
    obtain ⟨rfl, rfl, rfl⟩ := hcs
    exact ⟨none, 0, [], rfl, by simp, by simp, fun i hi => absurd hi (by simp)⟩
  · simp [Value.cells] at hcs
    obtain ⟨rfl, rfl, rfl⟩ := hcs
    have hml : len0 ≤ m := by simp at hmm; omega
    have hplain : 0 < len0 → a.spot = none := fun h0 => by
      obtain ⟨cs', h1, _⟩ := hx 0 (by omega)
      rw [cells_sh] at h1
      obtain ⟨_, hlen, hcell⟩ := World.cells?_some h1
      have h9 := hcell 0 (by omega)
      rw [Nat.zero_mul, show (a.add 0).add 0 = a from rfl] at h9
      match cs', hlen with
      | [v0, v1, v2], _ => exact congrArg Addr.spot (addr_plainY (w := W) (v := v0) (by simpa using h9)).1
    have each : ∀ i, i < len0 → ∃ q : Shs, ShsAt W (some a) i q := fun i hi => by
      obtain ⟨cs', h1, h2⟩ := hx i (by omega)
      rw [cells_sh] at h1
      obtain ⟨_, hlen, hcell⟩ := World.cells?_some h1
      obtain ⟨xs, n, _, _, _, hxl, hfl⟩ := DataW.trod_struct Try.underlying28 h2
      match cs', hlen with
      | [v0, v1, v2], _ =>
        have get : ∀ i, i < 3 → ∃ y, xs[i]? = some y := fun i hi => ⟨xs[i]'(by rw [hxl]; exact hi), List.getElem?_eq_getElem _⟩
        have h0 := hfl 0 _ rfl
        have h1 := hfl 1 _ rfl
        have h2 := hfl 2 _ rfl
        obtain ⟨y0, g0⟩ := get 0 (by omega)
        obtain ⟨y1, g1⟩ := get 1 (by omega)
        obtain ⟨y2, g2⟩ := get 2 (by omega)
        rw [g0] at h0
        rw [g1] at h1
        rw [g2] at h2
        obtain ⟨x0, e0, _, w0⟩ := DataW.trod_int Try.underlying3 h0
        obtain ⟨x1, e1, _, w1⟩ := DataW.trod_int Try.underlying3 h1
        simp [cells_int] at e0 e1
        subst e0 e1
        have c0 := hcell 0 (by omega)
        have c1 := hcell 1 (by omega)
        have c2 := hcell 2 (by omega)
        rw [add_addY] at c0 c1 c2
        simp only [List.getElem?_cons_zero, List.getElem?_cons_succ, Nat.add_zero] at c0 c1 c2
        obtain ⟨ea, hab⟩ := addr_plainY c0
        have hsp : a.spot = none := hplain (by omega)
        obtain ⟨ab, ao, sp⟩ := a
        obtain rfl : sp = none := hsp
        have hadd : ∀ j, (⟨ab, ao, none⟩ : Addr).add j = ⟨ab, ao + j, none⟩ := fun j => by
          unfold Addr.add; split
          · next e => rw [e]; rfl
          · rfl
        rw [hadd] at c0 c1 c2
        rw [block_add] at hab
        rcases open_ints Try.underlying26 Try.underlying5 cells_byte h2 with ⟨hcs, _⟩ | ⟨a', len', cap', zs, hcs, _, hl', hm', hz, _, hcell', hw'⟩
        · simp [cells_bytes] at hcs
          subst hcs
          exact ⟨⟨x0, x1, none, 0, []⟩, ⟨ab, ao, rfl, hab, c0, c1, c2⟩, .nil, Nat.le_refl _, Nat.zero_le _, w0, w1⟩
        · simp [cells_bytes] at hcs
          subst hcs
          have hlen : ((zs.take len').map fun z => UInt8.ofNat z.toNat).length = len' := by simp at hz ⊢; omega
          have hzl : zs.length = cap' := by simpa using hz
          exact ⟨⟨x0, x1, some a', cap', _⟩, ⟨ab, ao, rfl, hab, c0, c1, by rw [hlen]; exact c2⟩, rb_of (by omega) hw' (fun a'' e => by cases e; exact hcell') (fun e => by cases e), by rw [hlen]; omega, by rw [hlen]; omega, w0, w1⟩
    obtain ⟨q, hq⟩ := Deep.choose_lt each
    refine ⟨some a, cap0, (List.range len0).map q, by simp, by simp; omega, by simp; omega, fun i hi => ?_⟩
    simp only [List.length_map, List.length_range] at hi
    simp only [List.getElem_map, List.getElem_range]
    exact hq i hi
theorem ShsAt.below {w w' : World} {A : Option Addr} {i : Nat} {d : Shs} (h : ShsAt w A i d) (hb : Below w.heap.size w w') : ShsAt w' A i d := by
  obtain ⟨⟨b, o, e, hlt, k0, k1, k2⟩, h2, h3, h4, h5⟩ := h
  exact ⟨⟨b, o, e, Nat.lt_of_lt_of_le hlt hb.size, (hb.cell (p := ⟨b, o + i * 3, none⟩) hlt).trans k0, (hb.cell (p := ⟨b, o + i * 3 + 1, none⟩) hlt).trans k1, (hb.cell (p := ⟨b, o + i * 3 + 2, none⟩) hlt).trans k2⟩, (h2.below hb (Nat.le_refl _)).mono hb.size, h3, h4, h5⟩
theorem ShLies.below {w w' : World} {A : Option Addr} {l : List Shs} (h : ShLies w A l) (hb : Below w.heap.size w w') : ShLies w' A l := fun i hi => (h i hi).below hb

section
/-- Whether sheets are light. -/
def lightL (l : List Shs) : Bool := l.all (fun d => decide (d.l.length ≤ 100)) && decide (l.length ≤ 60)
theorem lightL_take {l : List Shs} {i : Nat} (h : i < l.length) (hd : ¬ l[i].l.length ≤ 100) : lightL l = false := by
  unfold lightL
  have : l.all (fun d => decide (d.l.length ≤ 100)) = false := by
    rw [List.all_eq_false]
    exact ⟨l[i], List.getElem_mem h, by simpa using hd⟩
  rw [this]; rfl
set_option maxRecDepth 100000 in
theorem heavy_none (w : World) : Calls Try.prog 24 #[.slice none 0 0] w fun e w' => e = .returned (.int .i64 0) ∧ Below w.heap.size w w' := by
  go_enter Try.func24, Try.ntmps24
  go_wp2
  refine wp_loop_rounds 1 ?_
  rw [rounds_succ]
  go_wp2
  go_ret
  exact ⟨rfl, Below.refl _ _⟩
set_option maxRecDepth 100000 in
theorem light_any (A : Option Addr) (c : Nat) (l : List Shs) (w : World) (h : ShLies w A l) (hl : l.length ≤ maxLen) :
    Calls Try.prog 8 #[.slice none 0 0, .slice A l.length c] w fun e w' => e = .returned (.bool (lightL l)) ∧ Below w.heap.size w w' := by
  have HL := Lib.hid h
  have hmx : maxLen = 9223372036854775807 := rfl
  obtain ⟨V, hV⟩ : ∃ V, lightL l = V := ⟨_, rfl⟩
  rw [hV]
  have HV := Lib.hid hV
  clear h hV
  go_enter Try.func8, Try.ntmps8
  go_wp2_with fail
  go_loopw [9] (fun v9 wr => ∃ j : Nat, j ≤ l.length ∧ v9 = .int .i64 j ∧ (∀ i, i < j → ∃ h : i < l.length, l[i].l.length ≤ 100) ∧ Below w.heap.size w wr) (fun v9 _ => l.length - (intOf v9).toNat)
  case atStart => exact ⟨0, Nat.zero_le _, rfl, fun i hi => absurd hi (by omega), Below.refl _ _⟩
  case round =>
    obtain ⟨j, hj, rfl, hall, hb⟩ := hrel
    have HB := Lib.hid hb
    have HA := Lib.hid hall
    have hs := hb.size
    clear hb hall
    by_cases hlt : j < l.length
    · obtain ⟨⟨b, o, rfl, hbl, k0, k1, k2⟩, -⟩ := (HL.out.below HB.out) j hlt
      obtain ⟨d, hd⟩ : ∃ d, l[j] = d := ⟨_, rfl⟩
      rw [hd] at k0 k1 k2
      have HD := Lib.hid hd
      obtain ⟨dn, hdn⟩ : ∃ dn, d.l.length = dn := ⟨_, rfl⟩
      rw [hdn] at k2
      have HDN := Lib.hid hdn
      clear hd hdn
      by_cases hh : 100 < dn
      · go_wp2_with fail
        go_ret
        have hV : V = false := by rw [← HV.out]; exact lightL_take hlt (by rw [HD.out, HDN.out]; omega)
        exact ⟨by rw [hV]; rfl, HB.out.alloc hs _⟩
      · go_wp2_with fail
        go_roundw
        case rel =>
          refine ⟨j + 1, by omega, by go_num, fun i hi => ?_, HB.out.alloc hs _⟩
          by_cases e : i = j
          · subst e; exact ⟨hlt, by rw [HD.out, HDN.out]; omega⟩
          · exact HA.out i (by omega)
        case measure => simp [intOf]; omega
    · obtain rfl : j = l.length := by omega
      have hall : l.all (fun d => decide (d.l.length ≤ 100)) = true := by
        rw [List.all_eq_true]
        intro d hd
        obtain ⟨i, hi, e⟩ := List.getElem_of_mem hd
        obtain ⟨h1, h2⟩ := HA.out i hi
        rw [← e]; simpa using h2
      have hL := Lib.hid (show V = decide (l.length ≤ 60) by rw [← HV.out]; unfold lightL; rw [hall]; rfl)
      clear hall
      go_wp2_with (go_at_call 24; refine (heavy_none _).mono ?_; rintro e w1 ⟨rfl, hb1⟩; have HB1 := Lib.hid hb1; clear hb1)
      go_ret
      refine ⟨?_, HB.out.trans (HB1.out.mono hs)⟩
      rw [hL.out]
      show Ending.returned (.bool (decide ((l.length : Int) ≤ 60))) = _
      rw [decide_eq_decide.2 (show (l.length : Int) ≤ 60 ↔ l.length ≤ 60 by omega)]
abbrev cfgV : Value := .agg #[.int .i64 64, .int .i64 32, .int .i64 0, .int .i64 1, .int .i64 2]
set_option maxRecDepth 100000 in
theorem mayplan_big (w : World) : Calls Try.prog 45 #[cfgV] w fun e w' => e = .returned (.bool true) ∧ Below w.heap.size w w' := by
  go_enter Try.func45, Try.ntmps45
  go_wp2
  go_ret
  exact ⟨rfl, (Below.refl _ _).alloc (Nat.le_refl _) _⟩
set_option maxRecDepth 100000 in
/-- So many steps of n pages. -/
theorem steps_big (n : Nat) (h : 1 ≤ n ∧ n ≤ 30) (w : World) : Calls Try.prog 23 #[cfgV, .int .i64 n] w fun e w' => e = .returned (.int .i64 (((2047 + n) / n : Nat) : Int)) ∧ Below w.heap.size w w' := by
  have X := Lib.hid (heap_alloc_new w (.cells #[.int .i64 64, .int .i64 32, .int .i64 0, .int .i64 1, .int .i64 2] 64))
  have HB0 := Lib.hid ((Below.refl w.heap.size w).alloc (Nat.le_refl _) (.cells #[.int .i64 64, .int .i64 32, .int .i64 0, .int .i64 1, .int .i64 2] 64))
  have hq : ((2048 : Int) + (n : Int) - 1) / (n : Int) = (((2047 + n) / n : Nat) : Int) := by
    have e1 : (2048 : Int) + (n : Int) - 1 = ((2047 + n : Nat) : Int) := by omega
    rw [e1]
    exact (Int.natCast_ediv _ _).symm
  have HQ := Lib.hid hq
  clear hq
  go_enter Try.func23, Try.ntmps23
  go_wp2_with (go_at_call 45; refine (mayplan_big _).mono ?_; rintro e w1 ⟨rfl, hb1⟩; have hx1 := (hb1.block w.heap.size (by simp)).trans X.out; have k0 : w1.cell? ⟨w.heap.size, 0, none⟩ = some (.int .i64 64) := (by simp [World.cell?, hx1]); have k1 : w1.cell? ⟨w.heap.size, 1, none⟩ = some (.int .i64 32) := (by simp [World.cell?, hx1]); have HB1 := Lib.hid (HB0.out.trans (hb1.mono HB0.out.size)); clear hb1 hx1)
  go_ret
  refine ⟨?_, HB1.out⟩
  exact congrArg (fun z => Ending.returned (.int .i64 z)) HQ.out
end
end Go.Proofs.Ytnadcdgpfopcaaa
