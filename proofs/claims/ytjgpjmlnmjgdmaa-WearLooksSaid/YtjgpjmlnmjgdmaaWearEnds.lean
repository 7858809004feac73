/- WearEnds: who raises the coldest one by one, as long as it is due, comes to an end: the law's walk. -/
import Derived.Test.YtjgpjmlnmjgdmaaWearLaw
namespace Go.Proofs.Ytjgpjmlnmjgdmaa
open Go.RowKit

theorem u64_rng (x : Int) : 0 ≤ IntKind.u64.wrap x ∧ IntKind.u64.wrap x ≤ 18446744073709551615 := by
  have e : IntKind.u64.wrap x = x % 18446744073709551616 := by unfold IntKind.wrap; rfl
  rw [e]; omega
theorem wf_of {x : Int} (h : -9223372036854775808 ≤ x ∧ x ≤ 9223372036854775807) : (Lit.int .i64 x).wf = true := by
  have h0 : IntKind.min .i64 = -9223372036854775808 := by decide
  have h1 : IntKind.max .i64 = 9223372036854775807 := by decide
  simpa [Lit.wf, h0, h1] using h
/-- Small counts. -/
def Small (m : Int) (C : List Int) : Prop := ∀ x ∈ C, 0 ≤ x ∧ x ≤ m
theorem Small.set {m : Int} {C : List Int} (h : Small m C) (i : Nat) {v : Int} (h0 : 0 ≤ v) (h1 : v ≤ m) : Small m (C.set i v) := fun x hx => by
  rcases List.mem_or_eq_of_mem_set hx with h' | h'
  · exact h x h'
  · omega
theorem Small.zeros {m : Int} (h : 0 ≤ m) (n : Nat) : Small m (List.replicate n 0) := fun x hx => by
  have := List.eq_of_mem_replicate hx
  omega
theorem Small.wf {m : Int} {C : List Int} (h : Small m C) (hm : m ≤ 100000) : ∀ x ∈ C, (Lit.int .i64 x).wf = true := fun x hx => wf_of (by have := h x hx; omega)
theorem Small.zip {m : Int} {C : List Int} (h : Small m C) (b : List Bool) : ∀ x, (x, true) ∈ C.zip b → 0 ≤ x ∧ x ≤ m := fun x hx => h x (List.of_mem_zip hx).1
theorem Small.ends {m : Int} {C : List Int} (h : Small m C) (b : List Bool) (hm : 0 ≤ m) : 0 ≤ loP (C.zip b) ∧ hiP (C.zip b) ≤ m := by
  rcases ends_fold (C.zip b) with ⟨h1, _⟩ | ⟨lo, hi, _, h2⟩
  · have := ends_none h1; omega
  · have e := ends_of h2
    have a1 := h.zip b lo h2.1
    have a2 := h.zip b hi h2.2.1
    omega
/-- How the loop of WearEnds stands. -/
structure Going (H : Int) (b : List Bool) (n k : Nat) (C : List Int) : Prop where
  len : C.length = n
  small : Small 39 C
  hi : hiP (C.zip b) = H
  left : k + roomL (C.zip b) ≤ 2340
theorem Going.step {H : Int} {b : List Bool} {n k i : Nat} {C : List Int} (h : Going H b n k C) (hi : i < (C.zip b).length) (he : (C.zip b)[i] = (loP (C.zip b), true)) (hlt : loP (C.zip b) < H) :
    ∃ (hc : i < C.length) (hb : i < b.length), C[i] = loP (C.zip b) ∧ b[i] = true ∧ Going H b n (k + 1) (C.set i (loP (C.zip b) + 1)) := by
  have hc : i < C.length := by simp at hi; omega
  have hb : i < b.length := by simp at hi; omega
  rw [List.getElem_zip] at he
  have e1 := congrArg Prod.fst he
  have e2 := congrArg Prod.snd he
  simp only at e1 e2
  have hH := (h.small.ends b (by decide)).2
  have hlo := (h.small.ends b (by decide)).1
  rw [h.hi] at hH
  have hz : (C.zip b)[i] = (loP (C.zip b), true) := by rw [List.getElem_zip]; exact he
  refine ⟨hc, hb, e1, e2, ⟨by simp [h.len], h.small.set i (by omega) (by omega), ?_, ?_⟩⟩
  · rw [zip_set C b i _ hb, e2, raise_cold hi hz (by rw [h.hi]; exact hlt)]
    exact h.hi
  · rw [zip_set C b i _ hb, e2]
    have := roomL_set (C.zip b) i _ hi hz (by omega)
    have := h.left
    omega
theorem going_start (b : List Bool) (C : List Int) (hs : Small 39 C) (hl : C.length ≤ 60) : Going (hiP (C.zip b)) b C.length 0 C := by
  refine ⟨rfl, hs, rfl, ?_⟩
  have h1 := roomL_le (C.zip b) fun x hx => (hs.zip b x hx).1
  have h2 : (C.zip b).length ≤ C.length := by simp; omega
  have h3 : (C.zip b).length * 39 ≤ 60 * 39 := Nat.mul_le_mul_right 39 (by omega)
  omega
set_option maxRecDepth 100000 in
set_option maxHeartbeats 4000000 in
theorem wears_any (A A' : Option Addr) (c c' : Nat) (l : List Int) (b : List Bool) (most : Int) (w : World) (_hc : l.length ≤ maxLen) (_hc' : b.length ≤ maxLen) (hA : IA w A l) (hA' : BA w A' b) (hR : Roomy A' c' b.length) :
    Calls Try.prog 4 #[.slice A l.length c, .slice A' b.length c', .int .i64 most] w (Holds w) := by
  unfold maxLen at _hc _hc'
  by_cases hl : l.length ≤ 60
  case neg =>
    go_enter Try.func4, Try.ntmps4
    go_wp2_with (go_at_call 8; (with_reducible refine (awake_any _).mono ?_); rintro e w9 ⟨rfl, hb9⟩)
    go_ret
    exact ⟨rfl, hb9⟩
  by_cases hb : b.length ≤ 60
  case neg =>
    go_enter Try.func4, Try.ntmps4
    go_wp2_with (go_at_call 8; (with_reducible refine (awake_any _).mono ?_); rintro e w9 ⟨rfl, hb9⟩)
    go_ret
    exact ⟨rfl, hb9⟩
  have HA := Lib.hid hA
  have HA' := Lib.hid hA'
  have HRm := Lib.hid hR
  clear hA hA' hR
  have hmk := fun w => make_ints l.length (by omega) w
  have HE := Lib.hid (made_ints l.length)
  have HX0 := Lib.hid (heap_alloc_new w (.cells (madeCells #[Value.int .i64 0] l.length) 3))
  have HB0 := Lib.hid ((Below.refl w.heap.size w).alloc (Nat.le_refl _) (.cells (madeCells #[Value.int .i64 0] l.length) 3))
  go_enter Try.func4, Try.ntmps4
  go_wp2_with fail
  rw [HE.out] at HX0 HB0 ⊢
  obtain ⟨g, hg⟩ : ∃ g, g = w.heap.size := ⟨_, rfl⟩
  have HG := Lib.hid hg
  rw [← hg] at HX0 ⊢
  generalize w.alloc (.cells ((List.replicate l.length (0 : Int)).map (Value.int .i64)).toArray 3) = w5 at HX0 HB0 ⊢
  clear hg hmk
  go_loopw [29] (fun v wr => ∃ (j : Nat) (C : List Int), j ≤ l.length ∧ v = .int .i64 j ∧ C.length = l.length ∧ Small 39 C ∧ wr.heap[g]? = some (.cells (C.map (Value.int .i64)).toArray 3 (0, 0)) ∧ Below w.heap.size w wr) (fun v _ => l.length - (intOf v).toNat)
  case atStart => exact ⟨0, _, Nat.zero_le _, rfl, by simp, Small.zeros (by decide) _, HX0.out, HB0.out⟩
  case round =>
    obtain ⟨j, C, hj, rfl, hC, hS, hx, hB⟩ := hrel
    have HX := Lib.hid hx
    have HB := Lib.hid hB
    have HC := Lib.hid hC
    clear hB
    by_cases hj1 : j < l.length
    · obtain ⟨G, o, rfl, hG, hc⟩ := HA.out (by omega)
      have k1 := (HB.out.cell (p := ⟨G, o + j, none⟩) hG).trans (hc j hj1)
      generalize l[j] = x at k1
      have r0 := u64_rng x
      have q0 := row_cell hx j (by omega)
      have q1 := row_frozen hx j
      have HXN := Lib.hid (row_set hx j (IntKind.u64.wrap x % 40))
      have HSN := Lib.hid (hS.set j (v := IntKind.u64.wrap x % 40) (by omega) (by omega))
      generalize C[j] = y at q0
      clear hx hS hC hc
      go_wp2_with fail
      go_roundw
      case rel => exact ⟨j + 1, _, by omega, by go_num, by simp [HC.out], HSN.out, HXN.out, HB.out.setCell (p := ⟨g, j, none⟩) (by rw [HG.out]; exact Nat.le_refl _) _⟩
      case measure => simp [intOf]; omega
    · obtain rfl : j = l.length := by omega
      clear hx hC hj1 hj
      have hcl : C.length ≤ 60 := by rw [HC.out]; exact hl
      have HS := Lib.hid hS
      have HIA := Lib.hid (rowB_arr HX.out : IA wr (some ⟨g, 0, none⟩) C)
      have HBA := Lib.hid (HA'.out.below HB.out)
      have r1 := u64_rng most
      have HEn := Lib.hid (ends_any (some ⟨g, 0, none⟩) A' C.length c' C b wr (by omega) (by omega) HIA.out HBA.out (hS.wf (by decide)) HRm.out)
      rw [HC.out] at HEn
      clear hS
      go_wp2_with (go_at_call 9; (refine HEn.out.mono ?_); rintro e w6 ⟨rfl, hb6⟩)
      have hK0 : 0 ≤ IntKind.u64.wrap most % 30 ∧ IntKind.u64.wrap most % 30 < 30 := by omega
      have HB6 := Lib.hid (HB.out.trans (hb6.mono HB.out.size))
      have HX6 := Lib.hid ((hb6.block g (Array.getElem?_eq_some_iff.1 HX.out).1).trans HX.out)
      have HG0 := Lib.hid (going_start b C HS.out hcl)
      rw [HC.out] at HG0
      generalize IntKind.u64.wrap most % 30 = K at hK0 ⊢
      generalize hiP (C.zip b) = H at HG0 ⊢
      clear hb6 r1 HX HB HIA HBA HEn HS hcl HX0 HB0 HE HC
      go_loopw [52] (fun v wr => ∃ (k : Nat) (C : List Int), v = .int .i64 k ∧ Going H b l.length k C ∧ wr.heap[g]? = some (.cells (C.map (Value.int .i64)).toArray 3 (0, 0)) ∧ Below w.heap.size w wr) (fun v _ => 2401 - (intOf v).toNat)
      case atStart => exact ⟨0, C, rfl, HG0.out, HX6.out, HB6.out⟩
      case round =>
        obtain ⟨k, C, rfl, hgo, hx, hB⟩ := hrel
        have HX := Lib.hid hx
        have HB := Lib.hid hB
        have HGo := Lib.hid hgo
        have hcl : C.length ≤ 60 := by rw [hgo.len]; exact hl
        have HIA := Lib.hid (rowB_arr hx : IA wr (some ⟨g, 0, none⟩) C)
        have HBA := Lib.hid (HA'.out.below hB)
        have HWf := Lib.hid (hgo.small.wf (by decide))
        have hends := hgo.small.ends b (by decide)
        have hk : k ≤ 2340 := by have := hgo.left; omega
        have HD := Lib.hid (due_any (some ⟨g, 0, none⟩) A' C.length c' C b wr (by omega) (by omega) HIA.out HBA.out HWf.out HRm.out K (wf_of (by omega)))
        have hdc := due_cases (C.zip b) K hK0.1 (by omega)
        have hlen := hgo.len
        rw [hlen] at HD
        clear hx hB HX6 HB6 HG0
        rcases hdc with ⟨d1, d2⟩ | ⟨i, hi, d1, d2, d3⟩
        · have HD1 := Lib.hid d1
          have HE1 := Lib.hid hgo.hi
          generalize loP (C.zip b) = lo at hends
          clear hgo d1
          go_wp2_with (go_at_call 17; (refine HD.out.mono ?_); rintro e w7 ⟨rfl, h7⟩; rw [HD1.out]; have HB7 := Lib.hid h7; clear h7)
          have HEn := Lib.hid (ends_any (some ⟨g, 0, none⟩) A' C.length c' C b w7 (by omega) (by omega) (HIA.out.below HB7.out) (HBA.out.below HB7.out) HWf.out HRm.out)
          rw [hlen] at HEn
          refine HEn.out.mono ?_
          rintro e w8 ⟨rfl, h8⟩
          rw [HE1.out]
          have HB8 := Lib.hid (HB7.out.trans (h8.mono HB7.out.size))
          have HAp := Lib.hid (apart_any (some ⟨g, 0, none⟩) A' C.length c' C b w8 (by omega) (by omega) (HIA.out.below HB8.out) (HBA.out.below HB8.out) HWf.out HRm.out)
          rw [hlen] at HAp
          clear h8 HEn
          go_wp2_with (first
            | (go_at_call 11; (refine HAp.out.mono ?_); rintro e w9 ⟨rfl, h9⟩; have HB9 := Lib.hid (HB8.out.trans (h9.mono HB8.out.size)); clear h9)
            | (go_at_call 8; (with_reducible refine (awake_any _).mono ?_); rintro e wz ⟨rfl, hz⟩))
          go_ret
          exact ⟨rfl, (HB.out.trans (HB9.out.mono HB.out.size)).trans (hz.mono (by have := HB.out.size; have := HB9.out.size; omega))⟩
        · have HD1 := Lib.hid d1
          obtain ⟨hc, hbi, e1, e2, hgs⟩ := hgo.step hi d2 (by have := hgo.hi; omega)
          have HGs := Lib.hid hgs
          have hH := hgo.hi
          have q0 := row_cell HX.out i hc
          rw [e1] at q0
          obtain ⟨G', o', rfl, hG', hc'⟩ := HBA.out (by omega)
          have q2 := hc' i hbi
          rw [e2] at q2
          have hil : i < l.length := by omega
          have HXN := Lib.hid (row_set HX.out i (loP (C.zip b) + 1))
          have q1 := row_frozen HX.out i
          rw [hH] at d3 hends
          have HGg : Hid (g < wr.heap.size) := (Array.getElem?_eq_some_iff.1 HX.out).1
          generalize loP (C.zip b) = lo at q0 HGs HXN hends d3
          clear hgo d1 d2 hc' e1 e2 hgs hi hc
          go_wp2_with (go_at_call 17; (refine HD.out.mono ?_); rintro e w7 ⟨rfl, h7⟩; rw [HD1.out]; have HB7 := Lib.hid h7; have q3 := (h7.cell (p := ⟨g, i, none⟩) HGg.out).trans q0; have q4 := (h7.cell (p := ⟨G', o' + i, none⟩) hG').trans q2; have q5 := (h7.frozen (p := ⟨g, i, none⟩) HGg.out).trans q1; have HXM := Lib.hid (row_set ((h7.block g HGg.out).trans HX.out) i (lo + 1)); clear h7)
          go_roundw
          case rel => exact ⟨k + 1, _, by go_num, HGs.out, HXM.out, (HB.out.trans (HB7.out.mono HB.out.size)).setCell (p := ⟨g, i, none⟩) (by rw [HG.out]; exact Nat.le_refl _) _⟩
          case measure => simp [intOf]; omega
end Go.Proofs.Ytjgpjmlnmjgdmaa
