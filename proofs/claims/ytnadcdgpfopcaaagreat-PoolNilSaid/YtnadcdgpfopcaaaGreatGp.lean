/- Contracts of the packages below: Open, OpenCfg, Plan, Plan2. -/
import Derived.Deep.SlicePairs
import Derived.Deep.Matrix
import Derived.WideShapes
import Derived.ChangeSlices
import Derived.ChangeArms
import Derived.WalkKit
import Derived.ProofKit
import Derived.OpenShut
import Derived.Test.YtnadcdgpfopcaaaGreatProg
import Derived.WalkSpells
import Derived.WalkLawsBesides
import Derived.IntWalk
import Derived.Lib.Hide
import Derived.Outline
import Derived.Deep.QuietTactic
import Derived.BigQuiet
import Derived.Below
import Derived.Deep.RegionWith
import Derived.Test.YtnadcdgpfopcaaaGreatGa
namespace Go.Proofs.YtnadcdgpfopcaaaGreat
open Go.RowKit Go.ChangeShapes Go.WideShapes

theorem cells_int : Tryz.prog.cellsOf 3 = 1 := by kernel_rfl
theorem cells_byte : Tryz.prog.cellsOf 5 = 1 := by kernel_rfl
theorem cells_bytes : Tryz.prog.cellsOf 34 = 1 := by kernel_rfl
theorem lt_of_cell {w : World} {a : Addr} {v : Value} (h : w.cell? a = some v) : a.block < w.heap.size := by
  rcases Nat.lt_or_ge a.block w.heap.size with h' | h'
  · exact h'
  · simp [World.cell?, Array.getElem?_eq_none h'] at h
theorem ub_of {z : Int} (h : (Lit.int .u8 z).wf = true) : Value.int .u8 z = ub (UInt8.ofNat z.toNat) := by
  have h0 : IntKind.min .u8 = 0 := by decide
  have h1 : IntKind.max .u8 = 255 := by decide
  simp [Lit.wf, h0, h1] at h
  have := ub_ofNat z.toNat (by omega)
  unfold byteOf at this
  rw [this]
  congr 1; omega
theorem rb_of {w : World} {A : Option Addr} {zs : List Int} {len : Nat} (hl : len ≤ zs.length) (hw : ∀ n ∈ zs, (Lit.int .u8 n).wf = true) (hc : ∀ a, A = some a → ∀ i, i < zs.length → w.cell? (a.add i) = some (.int .u8 (zs.getD i 0))) (hA : A = none → zs.length = 0) :
    RB w w.heap.size A ((zs.take len).map fun z => UInt8.ofNat z.toNat) := fun hn => by
  have hn' : 0 < zs.length := by simp at hn; omega
  rcases A with _ | a
  · have := hA rfl; omega
  · have h0 := hc a rfl 0 hn'
    refine ⟨a, rfl, by have := lt_of_cell h0; rwa [block_add] at this, fun j hj => ?_⟩
    have hj' : j < zs.length := by simp at hj; omega
    rw [hc a rfl j hj', List.getElem_map, List.getElem_take]
    have e : zs.getD j 0 = zs[j] := by simp [List.getD, hj']
    rw [e, ub_of (hw _ (List.getElem_mem hj'))]
/-- The slice value v reads as the bytes l. -/
def BArg (w : World) (v : Value) (l : List UInt8) : Prop := ∃ A c, v = .slice A l.length c ∧ RB w w.heap.size A l ∧ l.length ≤ c ∧ l.length ≤ maxLen
set_option maxRecDepth 100000 in
theorem row_bytes {H : Type} {enc : TypeId × Value → H} {W : World} {r : Reach} {b0 : Nat} {v : Value} {d : DataW H} {p : List MemPlace} (hv : Value.okWide Tryz.prog W r b0 34 v) (h : DataW.Trod enc Tryz.prog W 0 (fun _ => true) true 34 v d p) :
    ∃ l : List UInt8, BArg W v l := by
  obtain ⟨a0, len, cap, rfl⟩ := okWide_slice Tryz.underlying34 hv
  obtain ⟨fuel, hf⟩ := h
  rcases open_ints Tryz.underlying34 Tryz.underlying5 cells_byte hf with ⟨hcs, _⟩ | ⟨a, len', cap', zs, hcs, _, hl, hm, hz, _, hcell, hw⟩
  · refine ⟨[], none, 0, by simpa [Value.cells] using hcs, .nil, Nat.le_refl _, Nat.zero_le _⟩
  · simp [Value.cells] at hcs
    obtain ⟨rfl, rfl, rfl⟩ := hcs
    have hzl : zs.length = cap := by simpa using hz
    have hlen : ((zs.take len).map fun z => UInt8.ofNat z.toNat).length = len := by simp; omega
    refine ⟨_, some a, cap, by rw [hlen], rb_of (by omega) hw (fun a' e => by cases e; exact hcell) (fun e => by cases e), by rw [hlen]; omega, by rw [hlen]; omega⟩

/-- The slice value sv reads as the list zs. -/
def Row {α : Type} (enc : α → Value) (w : World) (sv : Value) (zs : List α) : Prop :=
  (sv = .slice none 0 0 ∧ zs = []) ∨ ∃ ad cap, sv = .slice (some ad) zs.length cap ∧ ∀ j (h : j < zs.length), w.cell? (ad.add j) = some (enc zs[j])
set_option maxRecDepth 100000 in
theorem row_ints {H : Type} {enc : TypeId × Value → H} {W : World} {r : Reach} {b0 : Nat} {v : Value} {d : DataW H} {p : List MemPlace} (hv : Value.okWide Tryz.prog W r b0 24 v) (h : DataW.Trod enc Tryz.prog W 0 (fun _ => true) true 24 v d p) :
    ∃ zs : List Int, Row (Value.int .i64) W v zs ∧ zs.length ≤ maxLen ∧ ∀ z ∈ zs, (Lit.int .i64 z).wf = true := by
  obtain ⟨a0, len, cap, rfl⟩ := okWide_slice Tryz.underlying24 hv
  obtain ⟨fuel, hf⟩ := h
  rcases open_ints Tryz.underlying24 Tryz.underlying3 cells_int hf with ⟨hcs, _⟩ | ⟨a, len', cap', zs, hcs, _, hl, hm, hz, _, hcell, hw⟩
  · exact ⟨[], .inl ⟨by simpa [Value.cells] using hcs, rfl⟩, by simp, by simp⟩
  · simp [Value.cells] at hcs
    obtain ⟨rfl, rfl, rfl⟩ := hcs
    have hlen : (zs.take len).length = len := by simp at hz ⊢; omega
    refine ⟨zs.take len, .inr ⟨a, cap, by rw [hlen], fun j hj => ?_⟩, by omega, fun z hz => hw z (List.mem_of_mem_take hz)⟩
    have hjz : j < zs.length := by simp at hz hj; omega
    rw [hcell j hjz]
    simp [List.getD, hjz]


/-- The slice value v reads as the lists of bytes ls. -/
def BRows (w : World) (v : Value) (ls : List (List UInt8)) : Prop :=
  (v = .slice none 0 0 ∧ ls = []) ∨ ∃ ad cap, v = .slice (some ad) ls.length cap ∧ ∀ r (h : r < ls.length), ∃ A c, w.cell? (ad.add r) = some (.slice A ls[r].length c) ∧ RB w w.heap.size A ls[r] ∧ ls[r].length ≤ c ∧ ls[r].length ≤ maxLen
set_option maxRecDepth 100000 in
theorem row_rows {H : Type} {enc : TypeId × Value → H} {W : World} {r : Reach} {b0 : Nat} {v : Value} {d : DataW H} {p : List MemPlace} (hv : Value.okWide Tryz.prog W r b0 99 v) (h : DataW.Trod enc Tryz.prog W 0 (fun _ => true) true 99 v d p) :
    ∃ ls : List (List UInt8), BRows W v ls ∧ ls.length ≤ maxLen := by
  obtain ⟨a0, len, cap, rfl⟩ := okWide_slice Tryz.underlying99 hv
  obtain ⟨fuel, hf⟩ := h
  rcases Deep.open_int_rows Tryz.underlying99 Tryz.underlying34 Tryz.underlying5 cells_bytes cells_byte hf with ⟨hcs, _⟩ | ⟨a, len', cap', A, L, C, Z, hcs, _, hl, hm, _, hx⟩
  · exact ⟨[], .inl ⟨by simpa [Value.cells] using hcs, rfl⟩, Nat.zero_le _⟩
  · simp [Value.cells] at hcs
    obtain ⟨rfl, rfl, rfl⟩ := hcs
    refine ⟨(List.range len).map fun r => ((Z r).take (L r)).map fun z => UInt8.ofNat z.toNat, .inr ⟨a, cap, by simp, fun r hr => ?_⟩, by simp; omega⟩
    have hr' : r < len := by simpa using hr
    obtain ⟨h1, h2, h3, h4, h5, h6, h7⟩ := hx r (by omega)
    have e : (((List.range len).map fun r => ((Z r).take (L r)).map fun z => UInt8.ofNat z.toNat)[r]'hr) = ((Z r).take (L r)).map fun z => UInt8.ofNat z.toNat := by simp
    have hlen : (((Z r).take (L r)).map fun z => UInt8.ofNat z.toNat).length = L r := by simp; omega
    rw [e, hlen]
    exact ⟨A r, C r, h1, rb_of (by omega) h5 (fun a' e' i hi => (h7 a' e').2 i (by omega)) (fun e' => by have := h6 e'; omega), h2, by omega⟩
theorem addr_plain {w : World} {ad : Addr} {v : Value} (h : w.cell? ad = some v) : ad = ⟨ad.block, ad.off, none⟩ ∧ ad.block < w.heap.size := by
  refine ⟨?_, World.block_lt_of_cell? w _ h⟩
  obtain ⟨b, o, s⟩ := ad
  cases s with
  | none => rfl
  | some x =>
    exfalso
    unfold World.cell? at h
    simp only [Option.isSome_some, if_true] at h
    split at h <;> cases h

end Go.Proofs.YtnadcdgpfopcaaaGreat

namespace Go.Proofs.YtnadcdgpfopcaaaGreat
open Go.RowKit Go.ChangeShapes Go.WideShapes

theorem cells_cfg : Tryz.prog.cellsOf 23 = 5 := by kernel_rfl
set_option maxRecDepth 100000 in
theorem open_cfg {H : Type} {enc : TypeId × Value → H} {W : World} {r : Reach} {b0 : Nat} {v : Value} {d : DataW H} {p : List MemPlace} (hv : Value.okWide Tryz.prog W r b0 23 v) (h : DataW.Trod enc Tryz.prog W 0 (fun _ => true) true 23 v d p) :
    ∃ (B P S D U : Int), v = .agg #[.int .i64 B, .int .i64 P, .int .i64 S, .int .i64 D, .int .i64 U] ∧ (Lit.int .i64 B).wf = true ∧ (Lit.int .i64 P).wf = true ∧ (Lit.int .i64 S).wf = true ∧ (Lit.int .i64 D).wf = true ∧ (Lit.int .i64 U).wf = true := by
  obtain ⟨cs, rfl, hsz⟩ := okWide_struct Tryz.underlying23 hv
  rw [cells_cfg] at hsz
  obtain ⟨fuel, hf⟩ := h
  obtain ⟨l, rfl⟩ : ∃ l : List Value, cs = l.toArray := ⟨cs.toList, by simp⟩
  match l, hsz with
  | [a, b, c, e, f], _ =>
    obtain ⟨xs, n, _, _, _, hlen, hx⟩ := DataW.trod_struct Tryz.underlying23 hf
    have get : ∀ i, i < 5 → ∃ y, xs[i]? = some y := fun i hi => ⟨xs[i]'(by rw [hlen]; exact hi), List.getElem?_eq_getElem _⟩
    have h0 := hx 0 _ rfl
    have h1 := hx 1 _ rfl
    have h2 := hx 2 _ rfl
    have h3 := hx 3 _ rfl
    have h4 := hx 4 _ rfl
    obtain ⟨y0, g0⟩ := get 0 (by omega)
    obtain ⟨y1, g1⟩ := get 1 (by omega)
    obtain ⟨y2, g2⟩ := get 2 (by omega)
    obtain ⟨y3, g3⟩ := get 3 (by omega)
    obtain ⟨y4, g4⟩ := get 4 (by omega)
    rw [g0] at h0
    rw [g1] at h1
    rw [g2] at h2
    rw [g3] at h3
    rw [g4] at h4
    obtain ⟨x0, e0, _, w0⟩ := DataW.trod_int Tryz.underlying3 h0
    obtain ⟨x1, e1, _, w1⟩ := DataW.trod_int Tryz.underlying3 h1
    obtain ⟨x2, e2, _, w2⟩ := DataW.trod_int Tryz.underlying3 h2
    obtain ⟨x3, e3, _, w3⟩ := DataW.trod_int Tryz.underlying3 h3
    obtain ⟨x4, e4, _, w4⟩ := DataW.trod_int Tryz.underlying3 h4
    simp [cells_int, Value.cells] at e0 e1 e2 e3 e4
    subst e0 e1 e2 e3 e4
    exact ⟨x0, x1, x2, x3, x4, rfl, w0, w1, w2, w3, w4⟩
end Go.Proofs.YtnadcdgpfopcaaaGreat

namespace Go.Proofs.YtnadcdgpfopcaaaGreat
open Go.RowKit

/-- A config that may be. -/
def MayP (B P S D U : Int) : Prop := (3 ≤ B ∧ B ≤ 64) ∧ (2 ≤ P ∧ P ≤ 32) ∧ (0 ≤ S ∧ S ≤ 6) ∧ (1 ≤ D ∧ D ≤ 60) ∧ 2 ≤ U ∧ U ≤ 50
instance (B P S D U : Int) : Decidable (MayP B P S D U) := by unfold MayP; infer_instance
def needP (B P S D U : Int) : Int := if MayP B P S D U then D + 8 else 0
def roomP (B P S D U bad : Int) : Int := if MayP B P S D U ∧ 0 ≤ bad ∧ bad ≤ B then (if 0 < B - bad - S - 1 then (B - bad - S - 1) * P else 0) else 0
def FitsP (B P S D U bad : Int) : Prop := MayP B P S D U ∧ (0 ≤ bad ∧ bad ≤ B) ∧ needP B P S D U ≤ roomP B P S D U bad
instance (B P S D U bad : Int) : Decidable (FitsP B P S D U bad) := by unfold FitsP; infer_instance
def floorP (B P S D U b : Int) : Int := if MayP B P S D U ∧ 0 ≤ b then (if b ≤ S then S - b + 1 else 0) else 0
theorem cells5 {w : World} {q : Nat} {a b c d e : Value} {t : TypeId} (h : w.heap[q]? = some (.cells #[a, b, c, d, e] t (0, 0))) : w.cell? ⟨q, 0, none⟩ = some a ∧ w.cell? ⟨q, 1, none⟩ = some b ∧ w.cell? ⟨q, 2, none⟩ = some c ∧ w.cell? ⟨q, 3, none⟩ = some d ∧ w.cell? ⟨q, 4, none⟩ = some e := by
  simp [World.cell?, h]

theorem withinp_any (a b c : Int) (w : World) :
    Calls Tryz.prog 139 #[.int .i64 a, .int .i64 b, .int .i64 c] w fun e w' => e = .returned (.bool (decide (b ≤ a ∧ a ≤ c))) ∧ w = w' := by
  go_enter Tryz.func139, Tryz.ntmps139
  go_wp2
  · have h : b ≤ a := by assumption
    go_ret
    exact ⟨ret_bool (by simp [h]), rfl⟩
  · have h : a < b := by assumption
    go_ret
    exact ⟨ret_bool (by simp; omega), rfl⟩
set_option maxRecDepth 100000 in
set_option maxHeartbeats 1000000 in
theorem mayp_any (B P S D U : Int) (w : World) :
    Calls Tryz.prog 109 #[.agg #[.int .i64 B, .int .i64 P, .int .i64 S, .int .i64 D, .int .i64 U]] w fun e w' => e = .returned (.bool (decide (MayP B P S D U))) ∧ Below w.heap.size w w' := by
  have hb0 := (Below.refl w.heap.size w).alloc (Nat.le_refl _) (.cells #[.int .i64 B, .int .i64 P, .int .i64 S, .int .i64 D, .int .i64 U] 23)
  by_cases h1 : 3 ≤ B ∧ B ≤ 64
  case neg =>
    have H1 := Lib.hid h1
    clear h1
    go_enter Tryz.func109, Tryz.ntmps109
    go_wp2_with (go_at_call 139; refine (withinp_any _ _ _ _).mono ?_; rintro e w' ⟨rfl, rfl⟩; rw [decide_eq_false H1.out])
    go_ret
    exact ⟨ret_bool (decide_eq_false fun h => H1.out h.1).symm, hb0⟩
  by_cases h2 : 2 ≤ P ∧ P ≤ 32
  case neg =>
    have H1 := Lib.hid h1
    have H2 := Lib.hid h2
    clear h1 h2
    go_enter Tryz.func109, Tryz.ntmps109
    go_wp2_with (go_at_call 139; refine (withinp_any _ _ _ _).mono ?_; rintro e w' ⟨rfl, rfl⟩; first | rw [decide_eq_true H1.out] | rw [decide_eq_false H2.out])
    go_ret
    exact ⟨ret_bool (decide_eq_false fun h => H2.out h.2.1).symm, hb0⟩
  by_cases h3 : 0 ≤ S ∧ S ≤ 6
  case neg =>
    have H1 := Lib.hid h1
    have H2 := Lib.hid h2
    have H3 := Lib.hid h3
    clear h1 h2 h3
    go_enter Tryz.func109, Tryz.ntmps109
    go_wp2_with (go_at_call 139; refine (withinp_any _ _ _ _).mono ?_; rintro e w' ⟨rfl, rfl⟩; first | rw [decide_eq_true H1.out] | rw [decide_eq_true H2.out] | rw [decide_eq_false H3.out])
    go_ret
    exact ⟨ret_bool (decide_eq_false fun h => H3.out h.2.2.1).symm, hb0⟩
  by_cases h4 : 1 ≤ D ∧ D ≤ 60
  case neg =>
    have H1 := Lib.hid h1
    have H2 := Lib.hid h2
    have H3 := Lib.hid h3
    have H4 := Lib.hid h4
    clear h1 h2 h3 h4
    go_enter Tryz.func109, Tryz.ntmps109
    go_wp2_with (go_at_call 139; refine (withinp_any _ _ _ _).mono ?_; rintro e w' ⟨rfl, rfl⟩; first | rw [decide_eq_true H1.out] | rw [decide_eq_true H2.out] | rw [decide_eq_true H3.out] | rw [decide_eq_false H4.out])
    go_ret
    exact ⟨ret_bool (decide_eq_false fun h => H4.out h.2.2.2.1).symm, hb0⟩
  by_cases h5 : 2 ≤ U ∧ U ≤ 50
  all_goals
    have H1 := Lib.hid h1
    have H2 := Lib.hid h2
    have H3 := Lib.hid h3
    have H4 := Lib.hid h4
    have H5 := Lib.hid h5
    clear h1 h2 h3 h4 h5
    go_enter Tryz.func109, Tryz.ntmps109
    go_wp2_with (go_at_call 139; refine (withinp_any _ _ _ _).mono ?_; rintro e w' ⟨rfl, rfl⟩; first | rw [decide_eq_true H1.out] | rw [decide_eq_true H2.out] | rw [decide_eq_true H3.out] | rw [decide_eq_true H4.out] | rw [decide_eq_true H5.out] | rw [decide_eq_false H5.out])
    go_ret
    refine ⟨ret_bool ?_, hb0⟩
    symm
    simp [MayP, H1.out, H2.out, H3.out, H4.out, H5.out]
set_option maxRecDepth 100000 in
set_option maxHeartbeats 1000000 in
theorem mayr_any (B P S D U : Int) (w : World) :
    Calls Tryz.prog 38 #[.agg #[.int .i64 B, .int .i64 P, .int .i64 S, .int .i64 D, .int .i64 U]] w fun e w' => e = .returned (.bool (decide (MayP B P S D U))) ∧ Below w.heap.size w w' := by
  have hb0 := (Below.refl w.heap.size w).alloc (Nat.le_refl _) (.cells #[.int .i64 B, .int .i64 P, .int .i64 S, .int .i64 D, .int .i64 U] 23)
  go_enter Tryz.func38, Tryz.ntmps38
  go_wp2
  all_goals go_ret
  all_goals
    refine ⟨ret_bool ?_, hb0⟩
    by_cases hM : MayP B P S D U
    · rw [decide_eq_true hM]; obtain ⟨⟨_, _⟩, ⟨_, _⟩, ⟨_, _⟩, ⟨_, _⟩, _, _⟩ := hM; first | rfl | (exfalso; omega) | (rw [decide_eq_true]; assumption)
    · first | (rw [decide_eq_false hM]; done) | (rw [decide_eq_false hM]; rw [decide_eq_false]; exact fun h => hM ⟨⟨by assumption, by assumption⟩, ⟨by assumption, by assumption⟩, ⟨by assumption, by assumption⟩, ⟨by assumption, by assumption⟩, by assumption, h⟩)
theorem wf_le {x : Int} (h : (Lit.int .i64 x).wf = true) : -9223372036854775808 ≤ x ∧ x ≤ 9223372036854775807 := by
  have h0 : IntKind.min .i64 = -9223372036854775808 := by decide
  have h1 : IntKind.max .i64 = 9223372036854775807 := by decide
  simpa [Lit.wf, h0, h1] using h
end Go.Proofs.YtnadcdgpfopcaaaGreat

namespace Go.Proofs.YtnadcdgpfopcaaaGreat
open Go.RowKit

theorem wrap64_id (n : Int) (h : -9223372036854775808 ≤ n ∧ n ≤ 9223372036854775807) : wrap64 n = n := by unfold wrap64; omega
set_option maxRecDepth 100000 in
set_option maxHeartbeats 1000000 in
theorem needp_any (B P S D U : Int) (w : World) :
    Calls Tryz.prog 124 #[.agg #[.int .i64 B, .int .i64 P, .int .i64 S, .int .i64 D, .int .i64 U]] w fun e w' => e = .returned (.int .i64 (needP B P S D U)) ∧ Below w.heap.size w w' := by
  have hb0 := (Below.refl w.heap.size w).alloc (Nat.le_refl _) (.cells #[.int .i64 B, .int .i64 P, .int .i64 S, .int .i64 D, .int .i64 U] 23)
  by_cases hM : MayP B P S D U
  · have HM := Lib.hid hM
    have hd := hM.2.2.2.1
    clear hM
    go_enter Tryz.func124, Tryz.ntmps124
    go_wp2_with (go_at_call 109; refine (mayp_any _ _ _ _ _ _).mono ?_; rintro e w1 ⟨rfl, hb⟩; rw [decide_eq_true HM.out]; obtain ⟨_, _, _, k3, _⟩ := cells5 ((hb.block w.heap.size (by simp)).trans (heap_alloc_new w _)); have HB := Lib.hid (hb0.trans (hb.mono (by simp))); clear hb)
    go_ret
    exact ⟨ret_int (by unfold needP; rw [if_pos HM.out]; omega), HB.out⟩
  · have HM := Lib.hid hM
    clear hM
    go_enter Tryz.func124, Tryz.ntmps124
    go_wp2_with (go_at_call 109; refine (mayp_any _ _ _ _ _ _).mono ?_; rintro e w1 ⟨rfl, hb⟩; rw [decide_eq_false HM.out]; obtain ⟨_, _, _, _, _⟩ := cells5 ((hb.block w.heap.size (by simp)).trans (heap_alloc_new w _)); have HB := Lib.hid (hb0.trans (hb.mono (by simp))); clear hb)
    go_ret
    exact ⟨ret_int (by unfold needP; rw [if_neg HM.out]), HB.out⟩
set_option maxRecDepth 100000 in
set_option maxHeartbeats 1000000 in
theorem roomp_any (B P S D U bad : Int) (w : World) (hbd : (Lit.int .i64 bad).wf = true) :
    Calls Tryz.prog 123 #[.agg #[.int .i64 B, .int .i64 P, .int .i64 S, .int .i64 D, .int .i64 U], .int .i64 bad] w fun e w' => e = .returned (.int .i64 (roomP B P S D U bad)) ∧ Below w.heap.size w w' := by
  have hb0 := (Below.refl w.heap.size w).alloc (Nat.le_refl _) (.cells #[.int .i64 B, .int .i64 P, .int .i64 S, .int .i64 D, .int .i64 U] 23)
  have hbd1 := wf_le hbd
  have HR := Lib.hid (show roomP B P S D U bad = roomP B P S D U bad from rfl)
  by_cases hM : MayP B P S D U
  · have HM := Lib.hid hM
    have hB := hM.1
    have hP := hM.2.1
    have hS := hM.2.2.1
    clear hM
    by_cases h2 : 0 ≤ bad ∧ bad ≤ B
    · have H2 := Lib.hid h2
      by_cases h3 : 0 < B - bad - S - 1
      · have hp0 : 0 < (B - bad - S - 1) * P := Int.mul_pos (by omega) (by omega)
        have hp1 : (B - bad - S - 1) * P ≤ 64 * 32 := Int.mul_le_mul (by omega) (by omega) (by omega) (by omega)
        have e : roomP B P S D U bad = (B - bad - S - 1) * P := by unfold roomP; rw [if_pos ⟨HM.out, h2⟩, if_pos h3]
        have E := Lib.hid e
        clear e
        go_enter Tryz.func123, Tryz.ntmps123
        go_wp2_with (first | (go_at_call 109; refine (mayp_any _ _ _ _ _ _).mono ?_; rintro e w1 ⟨rfl, hb⟩; rw [decide_eq_true HM.out]; obtain ⟨k0, k1, k2, k3, k4⟩ := cells5 ((hb.block w.heap.size (by simp)).trans (heap_alloc_new w _)); have HB := Lib.hid (hb0.trans (hb.mono (by simp))); clear hb) | (go_at_call 139; refine (withinp_any _ _ _ _).mono ?_; rintro e w' ⟨rfl, rfl⟩; rw [decide_eq_true H2.out]))
        all_goals
          go_ret
          exact ⟨ret_int (by refine Eq.trans ?_ E.out.symm; have hw := wrap64_id ((B - bad - S - 1) * P) (by omega); first | rfl | exact wrap64_id 0 (by decide) | (rw [hw]; done) | (rw [hw]; omega) | omega | (obtain h0 | h0 : B - bad - S - 1 = 0 ∨ B - bad - S - 1 ≠ 0 := Decidable.em _ <;> first | exact (by rw [h0, Int.zero_mul] : (B - bad - S - 1) * P = 0) ▸ wrap64_id 0 (by decide) | (rw [show (B - bad - S - 1) * P = 0 by rw [h0, Int.zero_mul]]; exact wrap64_id 0 (by decide)) | omega)), HB.out⟩
      · have hp0 : (B - bad - S - 1) * P ≤ 0 := Int.mul_nonpos_of_nonpos_of_nonneg (by omega) (by omega)
        have hp1 : -(64 * 32) ≤ (B - bad - S - 1) * P := by
          have := Int.mul_le_mul (a := -(B - bad - S - 1)) (b := P) (c := 64) (d := 32) (by omega) (by omega) (by omega) (by omega)
          rw [Int.neg_mul] at this; omega
        have e : roomP B P S D U bad = 0 := by unfold roomP; rw [if_pos ⟨HM.out, h2⟩, if_neg h3]
        have E := Lib.hid e
        clear e
        go_enter Tryz.func123, Tryz.ntmps123
        go_wp2_with (first | (go_at_call 109; refine (mayp_any _ _ _ _ _ _).mono ?_; rintro e w1 ⟨rfl, hb⟩; rw [decide_eq_true HM.out]; obtain ⟨k0, k1, k2, k3, k4⟩ := cells5 ((hb.block w.heap.size (by simp)).trans (heap_alloc_new w _)); have HB := Lib.hid (hb0.trans (hb.mono (by simp))); clear hb) | (go_at_call 139; refine (withinp_any _ _ _ _).mono ?_; rintro e w' ⟨rfl, rfl⟩; rw [decide_eq_true H2.out]))
        all_goals
          go_ret
          exact ⟨ret_int (by refine Eq.trans ?_ E.out.symm; have hw := wrap64_id ((B - bad - S - 1) * P) (by omega); first | rfl | exact wrap64_id 0 (by decide) | (rw [hw]; done) | (rw [hw]; omega) | omega | (obtain h0 | h0 : B - bad - S - 1 = 0 ∨ B - bad - S - 1 ≠ 0 := Decidable.em _ <;> first | exact (by rw [h0, Int.zero_mul] : (B - bad - S - 1) * P = 0) ▸ wrap64_id 0 (by decide) | (rw [show (B - bad - S - 1) * P = 0 by rw [h0, Int.zero_mul]]; exact wrap64_id 0 (by decide)) | omega)), HB.out⟩
    · have H2 := Lib.hid h2
      have E := Lib.hid (show roomP B P S D U bad = 0 by unfold roomP; rw [if_neg (fun h => h2 h.2)])
      clear h2
      go_enter Tryz.func123, Tryz.ntmps123
      go_wp2_with (first | (go_at_call 109; refine (mayp_any _ _ _ _ _ _).mono ?_; rintro e w1 ⟨rfl, hb⟩; rw [decide_eq_true HM.out]; obtain ⟨k0, k1, k2, k3, k4⟩ := cells5 ((hb.block w.heap.size (by simp)).trans (heap_alloc_new w _)); have HB := Lib.hid (hb0.trans (hb.mono (by simp))); clear hb) | (go_at_call 139; refine (withinp_any _ _ _ _).mono ?_; rintro e w' ⟨rfl, rfl⟩; rw [decide_eq_false H2.out]))
      all_goals
        go_ret
        exact ⟨ret_int (by rw [E.out]), HB.out⟩
  · have HM := Lib.hid hM
    have E := Lib.hid (show roomP B P S D U bad = 0 by unfold roomP; rw [if_neg (fun h => hM h.1)])
    clear hM
    go_enter Tryz.func123, Tryz.ntmps123
    go_wp2_with (go_at_call 109; refine (mayp_any _ _ _ _ _ _).mono ?_; rintro e w1 ⟨rfl, hb⟩; rw [decide_eq_false HM.out]; obtain ⟨_, _, _, _, _⟩ := cells5 ((hb.block w.heap.size (by simp)).trans (heap_alloc_new w _)); have HB := Lib.hid (hb0.trans (hb.mono (by simp))); clear hb)
    go_ret
    exact ⟨ret_int (by rw [E.out]), HB.out⟩
set_option maxRecDepth 100000 in
set_option maxHeartbeats 1000000 in
theorem floorp_any (B P S D U bad : Int) (w : World) (hbd : (Lit.int .i64 bad).wf = true) :
    Calls Tryz.prog 76 #[.agg #[.int .i64 B, .int .i64 P, .int .i64 S, .int .i64 D, .int .i64 U], .int .i64 bad] w fun e w' => e = .returned (.int .i64 (floorP B P S D U bad)) ∧ Below w.heap.size w w' := by
  have hb0 := (Below.refl w.heap.size w).alloc (Nat.le_refl _) (.cells #[.int .i64 B, .int .i64 P, .int .i64 S, .int .i64 D, .int .i64 U] 23)
  have hbd1 := wf_le hbd
  by_cases hM : MayP B P S D U
  · have HM := Lib.hid hM
    have hS := hM.2.2.1
    clear hM
    by_cases h2 : 0 ≤ bad
    · by_cases h3 : bad ≤ S
      all_goals
        have e : floorP B P S D U bad = if bad ≤ S then S - bad + 1 else 0 := by unfold floorP; rw [if_pos ⟨HM.out, h2⟩]
        (first | rw [if_pos h3] at e | rw [if_neg h3] at e)
        have E := Lib.hid e
        clear e
        go_enter Tryz.func76, Tryz.ntmps76
        go_wp2_with (go_at_call 109; refine (mayp_any _ _ _ _ _ _).mono ?_; rintro e w1 ⟨rfl, hb⟩; rw [decide_eq_true HM.out]; obtain ⟨_, _, k2, _, _⟩ := cells5 ((hb.block w.heap.size (by simp)).trans (heap_alloc_new w _)); have HB := Lib.hid (hb0.trans (hb.mono (by simp))); clear hb)
        all_goals
          go_ret
          exact ⟨ret_int (by refine Eq.trans ?_ E.out.symm; first | rfl | omega), HB.out⟩
    · have E := Lib.hid (show floorP B P S D U bad = 0 by unfold floorP; rw [if_neg (fun h => h2 h.2)])
      go_enter Tryz.func76, Tryz.ntmps76
      go_wp2_with (go_at_call 109; refine (mayp_any _ _ _ _ _ _).mono ?_; rintro e w1 ⟨rfl, hb⟩; rw [decide_eq_true HM.out]; obtain ⟨_, _, k2, _, _⟩ := cells5 ((hb.block w.heap.size (by simp)).trans (heap_alloc_new w _)); have HB := Lib.hid (hb0.trans (hb.mono (by simp))); clear hb)
      go_ret
      exact ⟨ret_int (by rw [E.out]), HB.out⟩
  · have HM := Lib.hid hM
    have E := Lib.hid (show floorP B P S D U bad = 0 by unfold floorP; rw [if_neg (fun h => hM h.1)])
    clear hM
    go_enter Tryz.func76, Tryz.ntmps76
    go_wp2_with (go_at_call 109; refine (mayp_any _ _ _ _ _ _).mono ?_; rintro e w1 ⟨rfl, hb⟩; rw [decide_eq_false HM.out]; obtain ⟨_, _, _, _, _⟩ := cells5 ((hb.block w.heap.size (by simp)).trans (heap_alloc_new w _)); have HB := Lib.hid (hb0.trans (hb.mono (by simp))); clear hb)
    go_ret
    exact ⟨ret_int (by rw [E.out]), HB.out⟩
set_option maxRecDepth 100000 in
set_option maxHeartbeats 1000000 in
theorem needr_any (B P S D U : Int) (w : World) :
    Calls Tryz.prog 73 #[.agg #[.int .i64 B, .int .i64 P, .int .i64 S, .int .i64 D, .int .i64 U]] w fun e w' => e = .returned (.int .i64 (needP B P S D U)) ∧ Below w.heap.size w w' := by
  have hb0 := (Below.refl w.heap.size w).alloc (Nat.le_refl _) (.cells #[.int .i64 B, .int .i64 P, .int .i64 S, .int .i64 D, .int .i64 U] 23)
  by_cases hM : MayP B P S D U
  · have HM := Lib.hid hM
    have hd := hM.2.2.2.1
    clear hM
    go_enter Tryz.func73, Tryz.ntmps73
    go_wp2_with (go_at_call 38; refine (mayr_any _ _ _ _ _ _).mono ?_; rintro e w1 ⟨rfl, hb⟩; rw [decide_eq_true HM.out]; obtain ⟨_, _, _, k3, _⟩ := cells5 ((hb.block w.heap.size (by simp)).trans (heap_alloc_new w _)); have HB := Lib.hid (hb0.trans (hb.mono (by simp))); clear hb)
    go_ret
    exact ⟨ret_int (by unfold needP; rw [if_pos HM.out]; omega), HB.out⟩
  · have HM := Lib.hid hM
    clear hM
    go_enter Tryz.func73, Tryz.ntmps73
    go_wp2_with (go_at_call 38; refine (mayr_any _ _ _ _ _ _).mono ?_; rintro e w1 ⟨rfl, hb⟩; rw [decide_eq_false HM.out]; obtain ⟨_, _, _, _, _⟩ := cells5 ((hb.block w.heap.size (by simp)).trans (heap_alloc_new w _)); have HB := Lib.hid (hb0.trans (hb.mono (by simp))); clear hb)
    go_ret
    exact ⟨ret_int (by unfold needP; rw [if_neg HM.out]), HB.out⟩
set_option maxRecDepth 100000 in
set_option maxHeartbeats 1000000 in
theorem roomr_any (B P S D U bad : Int) (w : World) (hbd : (Lit.int .i64 bad).wf = true) :
    Calls Tryz.prog 72 #[.agg #[.int .i64 B, .int .i64 P, .int .i64 S, .int .i64 D, .int .i64 U], .int .i64 bad] w fun e w' => e = .returned (.int .i64 (roomP B P S D U bad)) ∧ Below w.heap.size w w' := by
  have hb0 := (Below.refl w.heap.size w).alloc (Nat.le_refl _) (.cells #[.int .i64 B, .int .i64 P, .int .i64 S, .int .i64 D, .int .i64 U] 23)
  have hbd1 := wf_le hbd
  have HR := Lib.hid (show roomP B P S D U bad = roomP B P S D U bad from rfl)
  by_cases hM : MayP B P S D U
  · have HM := Lib.hid hM
    have hB := hM.1
    have hP := hM.2.1
    have hS := hM.2.2.1
    clear hM
    by_cases h2 : 0 ≤ bad ∧ bad ≤ B
    · have H2 := Lib.hid h2
      by_cases h3 : 0 < B - bad - S - 1
      · have hp0 : 0 < (B - bad - S - 1) * P := Int.mul_pos (by omega) (by omega)
        have hp1 : (B - bad - S - 1) * P ≤ 64 * 32 := Int.mul_le_mul (by omega) (by omega) (by omega) (by omega)
        have e : roomP B P S D U bad = (B - bad - S - 1) * P := by unfold roomP; rw [if_pos ⟨HM.out, h2⟩, if_pos h3]
        have E := Lib.hid e
        clear e
        go_enter Tryz.func72, Tryz.ntmps72
        go_wp2_with (first | (go_at_call 38; refine (mayr_any _ _ _ _ _ _).mono ?_; rintro e w1 ⟨rfl, hb⟩; rw [decide_eq_true HM.out]; obtain ⟨k0, k1, k2, k3, k4⟩ := cells5 ((hb.block w.heap.size (by simp)).trans (heap_alloc_new w _)); have HB := Lib.hid (hb0.trans (hb.mono (by simp))); clear hb))
        all_goals
          go_ret
          exact ⟨ret_int (by refine Eq.trans ?_ E.out.symm; have hw := wrap64_id ((B - bad - S - 1) * P) (by omega); first | rfl | exact wrap64_id 0 (by decide) | (rw [hw]; done) | (rw [hw]; omega) | omega | (obtain h0 | h0 : B - bad - S - 1 = 0 ∨ B - bad - S - 1 ≠ 0 := Decidable.em _ <;> first | exact (by rw [h0, Int.zero_mul] : (B - bad - S - 1) * P = 0) ▸ wrap64_id 0 (by decide) | (rw [show (B - bad - S - 1) * P = 0 by rw [h0, Int.zero_mul]]; exact wrap64_id 0 (by decide)) | omega)), HB.out⟩
      · have hp0 : (B - bad - S - 1) * P ≤ 0 := Int.mul_nonpos_of_nonpos_of_nonneg (by omega) (by omega)
        have hp1 : -(64 * 32) ≤ (B - bad - S - 1) * P := by
          have := Int.mul_le_mul (a := -(B - bad - S - 1)) (b := P) (c := 64) (d := 32) (by omega) (by omega) (by omega) (by omega)
          rw [Int.neg_mul] at this; omega
        have e : roomP B P S D U bad = 0 := by unfold roomP; rw [if_pos ⟨HM.out, h2⟩, if_neg h3]
        have E := Lib.hid e
        clear e
        go_enter Tryz.func72, Tryz.ntmps72
        go_wp2_with (first | (go_at_call 38; refine (mayr_any _ _ _ _ _ _).mono ?_; rintro e w1 ⟨rfl, hb⟩; rw [decide_eq_true HM.out]; obtain ⟨k0, k1, k2, k3, k4⟩ := cells5 ((hb.block w.heap.size (by simp)).trans (heap_alloc_new w _)); have HB := Lib.hid (hb0.trans (hb.mono (by simp))); clear hb))
        all_goals
          go_ret
          exact ⟨ret_int (by refine Eq.trans ?_ E.out.symm; have hw := wrap64_id ((B - bad - S - 1) * P) (by omega); first | rfl | exact wrap64_id 0 (by decide) | (rw [hw]; done) | (rw [hw]; omega) | omega | (obtain h0 | h0 : B - bad - S - 1 = 0 ∨ B - bad - S - 1 ≠ 0 := Decidable.em _ <;> first | exact (by rw [h0, Int.zero_mul] : (B - bad - S - 1) * P = 0) ▸ wrap64_id 0 (by decide) | (rw [show (B - bad - S - 1) * P = 0 by rw [h0, Int.zero_mul]]; exact wrap64_id 0 (by decide)) | omega)), HB.out⟩
    · have H2 := Lib.hid h2
      have E := Lib.hid (show roomP B P S D U bad = 0 by unfold roomP; rw [if_neg (fun h => h2 h.2)])
      clear h2
      go_enter Tryz.func72, Tryz.ntmps72
      go_wp2_with (first | (go_at_call 38; refine (mayr_any _ _ _ _ _ _).mono ?_; rintro e w1 ⟨rfl, hb⟩; rw [decide_eq_true HM.out]; obtain ⟨k0, k1, k2, k3, k4⟩ := cells5 ((hb.block w.heap.size (by simp)).trans (heap_alloc_new w _)); have HB := Lib.hid (hb0.trans (hb.mono (by simp))); clear hb))
      all_goals
        go_ret
        exact ⟨ret_int (by rw [E.out]), HB.out⟩
  · have HM := Lib.hid hM
    have E := Lib.hid (show roomP B P S D U bad = 0 by unfold roomP; rw [if_neg (fun h => hM h.1)])
    clear hM
    go_enter Tryz.func72, Tryz.ntmps72
    go_wp2_with (go_at_call 38; refine (mayr_any _ _ _ _ _ _).mono ?_; rintro e w1 ⟨rfl, hb⟩; rw [decide_eq_false HM.out]; obtain ⟨_, _, _, _, _⟩ := cells5 ((hb.block w.heap.size (by simp)).trans (heap_alloc_new w _)); have HB := Lib.hid (hb0.trans (hb.mono (by simp))); clear hb)
    go_ret
    exact ⟨ret_int (by rw [E.out]), HB.out⟩
end Go.Proofs.YtnadcdgpfopcaaaGreat
