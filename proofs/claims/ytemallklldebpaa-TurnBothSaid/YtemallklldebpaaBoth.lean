/- TurnBoth: for every list of bools the law answers true, and nothing that was there has turned. -/
import Derived.Maps.Own
import Derived.Maps.OwnOps
import Derived.Maps.Views
import Derived.Test.YtemallklldebpaaShift
namespace Go.Proofs.Ytemallklldebpaa
open Go.RowKit Go.Shelf Go.Maps

/-! ### plain facts -/
theorem whereTo_length_le (bs : List Bool) (k : Nat) : (whereTo bs k).length ≤ k := by
  unfold whereTo
  rw [List.length_map]
  exact Nat.le_trans (List.length_filter_le _ _) (by simp)
theorem whereTo_count (bs : List Bool) (k i : Nat) : (whereTo bs k).count (i : Int) = if i < k ∧ bs[i]?.getD false = true then 1 else 0 := by
  induction k with
  | zero => simp [whereTo]
  | succ k ih =>
    cases h : bs[k]?.getD false with
    | true =>
      rw [whereTo_hit h, List.count_append, ih]
      by_cases e : i = k
      · subst e; simp [h]
      · have : ¬ (k : Int) = i := by omega
        simp [this]
        by_cases hi : i < k
        · simp [hi, show i < k + 1 by omega]
        · simp [hi, show ¬ i < k + 1 by omega]
    | false =>
      rw [whereTo_miss h, ih]
      by_cases e : i = k
      · subst e; simp [h]
      · by_cases hi : i < k
        · simp [hi, show i < k + 1 by omega]
        · simp [hi, show ¬ i < k + 1 by omega]
theorem getD_map_not (bs : List Bool) {i : Nat} (h : i < bs.length) : (bs.map (! ·))[i]?.getD false = !(bs[i]?.getD false) := by simp [h]
theorem whereTo_both (bs : List Bool) {k : Nat} (h : k ≤ bs.length) : (whereTo bs k).length + (whereTo (bs.map (! ·)) k).length = k := by
  induction k with
  | zero => simp [whereTo]
  | succ k ih =>
    have hn := getD_map_not bs (show k < bs.length by omega)
    cases hb : bs[k]?.getD false with
    | true =>
      rw [hb] at hn
      rw [whereTo_hit hb, whereTo_miss hn, List.length_append]
      have := ih (by omega)
      simp; omega
    | false =>
      rw [hb] at hn
      rw [whereTo_miss hb, whereTo_hit hn, List.length_append]
      have := ih (by omega)
      simp; omega
theorem whereTo_mem {bs : List Bool} {k : Nat} {x : Int} (h : x ∈ whereTo bs k) : 0 ≤ x ∧ x < k := by
  unfold whereTo at h
  obtain ⟨i, hi, rfl⟩ := List.mem_map.1 h
  have := List.mem_range.1 (List.mem_filter.1 hi).1
  omega

/-- The first k places are turned, the others are false yet. -/
def notL (bs : List Bool) (k : Nat) : List Value := (List.range bs.length).map fun j => Value.bool (if j < k then !(bs[j]?.getD false) else false)
theorem notL_length (bs : List Bool) (k : Nat) : (notL bs k).length = bs.length := by simp [notL]
theorem notL_zero (bs : List Bool) : notL bs 0 = List.replicate bs.length (Value.bool false) := by
  apply List.ext_getElem
  · simp [notL]
  · intro i h1 h2; simp [notL]
theorem notL_step (bs : List Bool) (k : Nat) : (notL bs k).set k (.bool (!(bs[k]?.getD false))) = notL bs (k + 1) := by
  apply List.ext_getElem
  · simp [notL]
  · intro i h1 h2
    rw [List.getElem_set]
    by_cases e : k = i
    · subst e; simp [notL]
    · rw [if_neg e]
      by_cases hi : i < k
      · simp [notL, hi, show i < k + 1 by omega]
      · simp [notL, hi, show ¬ i < k + 1 by omega]
theorem notL_all (bs : List Bool) : notL bs bs.length = (bs.map (! ·)).map Value.bool := by
  apply List.ext_getElem
  · simp [notL]
  · intro i h1 h2
    have : i < bs.length := by simpa [notL] using h1
    simp [notL, this]

/-! ### the list that came in -/
theorem lt_of_cell {W : World} {a : Addr} {v : Value} (h : W.cell? a = some v) : a.block < W.heap.size := by
  obtain ⟨o, ho, _⟩ := cells_of_cell h
  exact (Array.getElem?_eq_some_iff.1 ho).1
theorem BoolsIn.later {W W' : World} {sv : Value} {bs : List Bool} (h : BoolsIn W sv bs) (hb : Below W.heap.size W W') : BoolsIn W' sv bs := by
  rcases h with h | ⟨ad, cap, e, hc⟩
  · exact .inl h
  · exact .inr ⟨ad, cap, e, fun j hj => (hb.cell (lt_of_cell (hc j hj))).trans (hc j hj)⟩
/-- As the walks want it: a slice value whose cells are known where there are any. -/
theorem BoolsIn.shape {W : World} {sv : Value} {bs : List Bool} (h : BoolsIn W sv bs) : ∃ p cap, sv = .slice p bs.length cap ∧
    (0 < bs.length → ∃ b off, p = some ⟨b, off, none⟩ ∧ b < W.heap.size ∧ ∀ j, j < bs.length → W.cell? ⟨b, off + j, none⟩ = some (.bool (bs[j]?.getD false))) := by
  rcases h with ⟨rfl, rfl⟩ | ⟨ad, cap, rfl, hc⟩
  · exact ⟨none, 0, rfl, fun h => by simp at h⟩
  · refine ⟨some ad, cap, rfl, fun h0 => ?_⟩
    obtain ⟨b, off, spot⟩ := ad
    have hs : spot = none := by simpa [Addr.add] using World.cell?_spot (hc 0 h0)
    subst hs
    refine ⟨b, off, rfl, lt_of_cell (hc 0 h0), fun j hj => ?_⟩
    have := hc j hj
    rw [show (⟨b, off, none⟩ : Addr).add j = ⟨b, off + j, none⟩ from by unfold Addr.add; split <;> simp_all] at this
    exact this
theorem boolsIn_of_owns {W : World} {base g cap : Nat} {bs : List Bool} (h : W.ownsRow base 4 1 (.slice (some ⟨g, 0, none⟩) bs.length cap) bs.length (bs.map Value.bool)) : BoolsIn W (.slice (some ⟨g, 0, none⟩) bs.length cap) bs := by
  refine .inr ⟨_, cap, rfl, fun j hj => ?_⟩
  rw [show (⟨g, 0, none⟩ : Addr).add j = ⟨g, j, none⟩ from by unfold Addr.add; split <;> simp_all, h.cellAt j (by omega)]
  simp [hj]

/-- The slice at p holds the ints xs, from its first cell on. -/
def SliceInts (W : World) (p : Option Addr) (xs : List Int) : Prop := ∀ (j : Nat) (x : Int), xs[j]? = some x → ∃ g, p = some ⟨g, 0, none⟩ ∧ g < W.heap.size ∧ W.cell? ⟨g, j, none⟩ = some (.int .i64 x)
theorem SliceInts.later {W W' : World} {p : Option Addr} {xs : List Int} (h : SliceInts W p xs) (hb : Below W.heap.size W W') : SliceInts W' p xs := fun j x hx => by
  obtain ⟨g, e, hg, hc⟩ := h j x hx
  exact ⟨g, e, Nat.lt_of_lt_of_le hg hb.size, (hb.cell (p := ⟨g, j, none⟩) hg).trans hc⟩
theorem sliceInts_of_owns {W : World} {base n cap : Nat} {p : Option Addr} {xs : List Int} (h : W.ownsRow base 3 1 (.slice p n cap) n (xs.map (Value.int .i64))) : SliceInts W p xs := fun j x hx => by
  have hl := h.1
  have hj : j < xs.length := (List.getElem?_eq_some_iff.1 hx).1
  rw [List.length_map] at hl
  obtain ⟨g, cap', e⟩ := ownsRow_pos h (show 1 ≤ n by omega)
  simp only [Value.slice.injEq] at e
  obtain ⟨rfl, _, rfl⟩ := e
  exact ⟨g, rfl, (h.lt g rfl).2, by rw [h.cellAt j (by omega), List.getElem?_map, hx]; rfl⟩

/-! ### the map that counts -/
def CountIs (D : DataW Unit) (l : List Int) : Prop := IsMap D ∧ ∀ q : Int, D.atKey (.int .i64 q) (.lit (.int .i64 0)) = .lit (.int .i64 (l.count q))
theorem countIs_nil : CountIs (.map []) [] := ⟨⟨_, rfl⟩, fun _ => rfl⟩
theorem countIs_step {D : DataW Unit} {l : List Int} (h : CountIs D l) (x : Int) : CountIs (D.put (.int .i64 x) (.lit (.int .i64 ((l.count x : Int) + 1)))) (l ++ [x]) := by
  obtain ⟨⟨es, rfl⟩, hc⟩ := h
  refine ⟨⟨_, rfl⟩, fun q => ?_⟩
  by_cases e : q = x
  · subst e
    rw [atKey_put_same (k := .int .i64 q) ⟨es, rfl⟩ trivial]
    simp
  · rw [atKey_put_other (by simpa using e), hc q, List.count_append]
    simp [Ne.symm e]
theorem take_snoc' {l : List Int} {k : Nat} {x : Int} (h : l[k]? = some x) : l.take (k + 1) = l.take k ++ [x] := by rw [List.take_add_one, h]; rfl
theorem count_take_le (l : List Int) (k : Nat) (x : Int) : (l.take k).count x ≤ l.length := Nat.le_trans List.count_le_length (by simp; omega)
theorem law3 : Keyed Try.prog 3 := int_keyed Try.underlying3
theorem zero3 (w : World) : (zeroValue 3).run Try.prog w = .ok (.int .i64 0) w := by kernel_rfl

theorem both_big (p : Option Addr) (len cap : Nat) (w : World) (h : 300 < len) (hm : len ≤ 9223372036854775807) : Calls Try.prog 8 #[.slice p len cap] w (Holds w) := by
  go_enter Try.func8, Try.ntmps8
  go_wp2_with (go_at_call 10; refine (awake_any _).mono ?_; rintro e w' ⟨rfl, hb⟩)
  go_ret
  exact ⟨rfl, hb⟩

set_option maxRecDepth 100000 in
set_option maxHeartbeats 2000000 in
theorem both_in (sv : Value) (bs : List Bool) (hlen : bs.length ≤ 300) (w : World) (h : BoolsIn w sv bs) : Calls Try.prog 8 #[sv] w (Holds w) := by
  obtain ⟨i0, hi, hz0, hz1, hz2⟩ := info_parts info4
  have hmm := @run_makeMap Try.prog
  have hW := fun w' (hb : Below w.heap.size w w') => where_any sv bs (by omega) w' (h.later hb)
  obtain ⟨p, cap, rfl, hsh⟩ := h.shape
  go_enter Try.func8, Try.ntmps8
  go_wp2_with (refine wpList_make_full _ rfl _ _ 29 rfl w.heap.size 4 i0 (.bool false) 1 Try.underlying29 hi hz0 hz1 .i64 .i64 _ _ bs.length rfl rfl rfl rfl (by rw [hz2]; omega) (by unfold maxLen; omega) (Nat.le_refl _) ?_; intro w1 hown1 hgrow1)
  have hsz1 := hgrow1.size
  have hb1 : Below w.heap.size w w1 := (Below.refl _ w).grown hgrow1 (Nat.le_refl _) (fun k e => by cases e)
  rw [show (madeCells (Value.bool false).cells (bs.length * 1)).toList = notL bs 0 from by rw [notL_zero, Nat.mul_one]; exact toList_madeCells_one (.bool false) bs.length] at hown1
  have hlt1 := (hown1.lt w.heap.size rfl).2
  clear hgrow1
  go_loopw [23] (fun i wr => ∃ k : Nat, k ≤ bs.length ∧ i = .int .i64 k ∧ wr.ownsRow w.heap.size 4 1 (.slice (some ⟨w.heap.size, 0, none⟩) bs.length bs.length) bs.length (notL bs k) ∧ Below w.heap.size w wr) (fun i _ => bs.length - (intOf i).toNat)
  case atStart => exact ⟨0, Nat.zero_le _, rfl, hown1, hb1⟩
  case round =>
    clear hown1 hb1 hlt1 hsz1
    obtain ⟨k, hk, rfl, hown, hb⟩ := hrel
    by_cases hkl : k < bs.length
    · obtain ⟨b, off, rfl, hbl, hcs⟩ := hsh (by omega)
      have c1 : wr.cell? ⟨b, off + k, none⟩ = some (.bool (bs[k]?.getD false)) := (hb.cell (p := ⟨b, off + k, none⟩) hbl).trans (hcs k hkl)
      have c2 := hown.cellAt k (by omega)
      rw [show (notL bs k)[k]? = some (.bool false) from by simp [notL, hkl]] at c2
      have f2 := hown.frozenAt k
      have hst := (hown.stored k (.bool (!(bs[k]?.getD false)))).1
      rw [notL_step] at hst
      have hb2 := hb.setCell (p := ⟨w.heap.size, k, none⟩) (Nat.le_refl _) (.bool (!(bs[k]?.getD false)))
      clear hcs hsh hW hown h hmm
      generalize bs[k]?.getD false = x at *
      go_wp2
      go_roundw
      case rel => exact ⟨k + 1, by omega, by go_num, hst, hb2⟩
      case measure => simp [intOf]; omega
    · obtain rfl : bs.length = k := by omega
      rw [notL_all] at hown
      have hlt1 := (hown.lt w.heap.size rfl).2
      have k1 := hW wr hb
      clear hW hsh h
      generalize hnb : bs.map (! ·) = nb at *
      have hnl : nb.length = bs.length := by rw [← hnb]; simp
      have Hnb := Lib.hid hnb
      clear hnb
      have kn : BoolsIn wr (.slice (some ⟨w.heap.size, 0, none⟩) bs.length bs.length) nb := by
        have := boolsIn_of_owns (bs := nb) (g := w.heap.size) (cap := bs.length) (base := w.heap.size) (W := wr) (by rw [hnl]; exact hown)
        rw [hnl] at this; exact this
      have Hnl := Lib.hid hnl
      clear hnl hown
      go_wp2_with (first
        | (go_at_call 13; refine k1.mono ?_; clear k1; rintro e w2 ⟨B, b, rfl, _, hbw, hseq, hb2⟩)
        | (go_at_call 11; refine (first_any 20 _ _ 400 (by have := whereTo_length_le bs bs.length; omega) w2 (where_gives hseq hbw)).mono ?_; clear hseq hbw; rintro e w3 ⟨v, rfl, hr, hb3⟩; rw [List.take_of_length_le (by have := whereTo_length_le bs bs.length; simp; omega)] at hr; obtain ⟨p3, cap3, rfl⟩ := ownsRow_slice hr; have hA := sliceInts_of_owns hr; clear hr)
        | (go_at_call 13; refine (where_any _ nb (by have := Hnl.out; omega) w3 ((kn.later hb2).later hb3)).mono ?_; clear kn; rintro e w4 ⟨B4, b4, rfl, _, hbw, hseq, hb4⟩; have hA4 := hA.later hb4; clear hA)
        | (go_at_call 11; refine (first_any 20 _ _ 400 (by have := whereTo_length_le nb nb.length; have := Hnl.out; omega) w4 (where_gives hseq hbw)).mono ?_; clear hseq hbw; rintro e w5 ⟨v, rfl, hr, hb5⟩; rw [List.take_of_length_le (by have := whereTo_length_le nb nb.length; have := Hnl.out; simp; omega)] at hr; obtain ⟨p5, cap5, rfl⟩ := ownsRow_slice hr; have hB5 := sliceInts_of_owns hr; have hA5 := hA4.later hb5; clear hr hA4))
      have F1 : ∀ x ∈ whereTo bs bs.length, 0 ≤ x ∧ x < 300 := fun x hx => by have := whereTo_mem hx; omega
      have F2 : ∀ x ∈ whereTo nb nb.length, 0 ≤ x ∧ x < 300 := fun x hx => by have := whereTo_mem hx; have := Hnl.out; omega
      have F3 : ∀ i : Nat, i < bs.length → (whereTo bs bs.length ++ whereTo nb nb.length).count (i : Int) = 1 := fun i hi => by
        have hn := getD_map_not bs hi
        rw [List.count_append, whereTo_count, whereTo_count, Hnl.out, ← Hnb.out, hn]
        cases bs[i]?.getD false <;> simp [hi]
      have F4 : (whereTo bs bs.length).length + (whereTo nb nb.length).length = bs.length := by
        rw [Hnl.out, ← Hnb.out]; exact whereTo_both bs (Nat.le_refl _)
      generalize whereTo bs bs.length = A at *
      generalize whereTo nb nb.length = Bl at *
      have H1 := Lib.hid F1
      have H2 := Lib.hid F2
      have H3 := Lib.hid F3
      have H4 := Lib.hid F4
      have hAl : A.length ≤ 300 := by omega
      have hBl : Bl.length ≤ 300 := by omega
      clear F1 F2 F3 F4 Hnb Hnl hmm
      go_loopw [43] (fun i wr => ∃ k : Nat, k ≤ A.length ∧ i = .int .i64 k ∧ (∃ D : DataW Unit, wr.ownsMap Try.prog 3 (plainElem Try.prog 3) w5.heap.size k D ∧ CountIs D (A.take k)) ∧ Below w5.heap.size w5 wr) (fun i _ => A.length - (intOf i).toNat)
      case atStart => exact ⟨0, Nat.zero_le _, rfl, ⟨_, World.ownsMap_made _ _ _ _, countIs_nil⟩, (Below.refl _ _).alloc (Nat.le_refl _) _⟩
      case round =>
        obtain ⟨k, hk, rfl, ⟨D, hown, hcnt⟩, hbr⟩ := hrel
        by_cases hkA : k < A.length
        · obtain ⟨x, hx⟩ : ∃ x, A[k]? = some x := ⟨A[k], by simp [hkA]⟩
          obtain ⟨g, rfl, hg, hc⟩ := hA5 k x hx
          have hc1 := (hbr.cell (p := ⟨g, k, none⟩) hg).trans hc
          have hxb := H1.out x (List.mem_of_getElem? hx)
          have hkey : keyOf Try.prog 3 (.int .i64 x) = some (.int .i64 x) := keyOf_int_mk Try.underlying3 (WalkArith.wf_i64 (by omega))
          have hcb := count_take_le A k x
          have Hx := Lib.hid hx
          have Hc := Lib.hid hcnt
          clear hc hx hcnt
          go_wp2_with (first
            | (at_lookup; refine wpList_lookup_own_int _ rfl _ _ 39 rfl 3 3 .i64 law3 Try.underlying39 Try.underlying3 (zero3 _) w5.heap.size k _ rfl hown _ _ rfl hkey ?_; intro c hat hwc; rw [Hc.out.2 x] at hat; obtain rfl : ((A.take k).count x : Int) = c := (by simpa using hat); clear hat hwc)
            | (at_mapUpdate; refine wpList_mapUpdate_own _ rfl _ _ _ 39 rfl 3 3 law3 Try.underlying39 _ w5.heap.size k _ rfl hown (by unfold maxLen; omega) _ _ _ rfl rfl hkey _ [] (plainElem_int Try.underlying3 (WalkArith.wf_i64 (by omega))) ?_; intro w1 hown1 hgrow1)
            | go_in)
          go_roundw
          case rel => exact ⟨k + 1, by omega, by go_num, ⟨_, hown1, by rw [take_snoc' Hx.out]; exact countIs_step Hc.out x⟩, hbr.grown hgrow1 hbr.size (fun j hj => by cases hj; exact Nat.le_refl _)⟩
          case measure => simp [intOf]; omega
        · obtain rfl : A.length = k := by omega
          rw [List.take_length] at hcnt
          go_wp2
          obtain ⟨w6, rfl⟩ : ∃ w6 : World, w6 = wr := ⟨_, rfl⟩
          go_loopw [54] (fun i wr => ∃ k : Nat, k ≤ Bl.length ∧ i = .int .i64 k ∧ (∃ D : DataW Unit, wr.ownsMap Try.prog 3 (plainElem Try.prog 3) w5.heap.size (A.length + k) D ∧ CountIs D (A ++ Bl.take k)) ∧ Below w5.heap.size w5 wr) (fun i _ => Bl.length - (intOf i).toNat)
          case atStart => exact ⟨0, Nat.zero_le _, rfl, ⟨_, hown, by simpa using hcnt⟩, hbr⟩
          case round =>
            clear hown hcnt hbr
            obtain ⟨k, hk, rfl, ⟨D, hown, hcnt⟩, hbr⟩ := hrel
            by_cases hkB : k < Bl.length
            · obtain ⟨x, hx⟩ : ∃ x, Bl[k]? = some x := ⟨Bl[k], by simp [hkB]⟩
              obtain ⟨g, rfl, hg, hc⟩ := hB5 k x hx
              have hc1 := (hbr.cell (p := ⟨g, k, none⟩) hg).trans hc
              have hxb := H2.out x (List.mem_of_getElem? hx)
              have hkey : keyOf Try.prog 3 (.int .i64 x) = some (.int .i64 x) := keyOf_int_mk Try.underlying3 (WalkArith.wf_i64 (by omega))
              have hcb : (A ++ Bl.take k).count x ≤ 600 := Nat.le_trans List.count_le_length (by simp; omega)
              have Hx := Lib.hid hx
              have Hc := Lib.hid hcnt
              clear hc hx hcnt
              generalize hcv : (A ++ Bl.take k).count x = cv at *
              have Hcv := Lib.hid hcv
              clear hcv
              go_wp2_with (first
                | (at_lookup; refine wpList_lookup_own_int _ rfl _ _ 39 rfl 3 3 .i64 law3 Try.underlying39 Try.underlying3 (zero3 _) w5.heap.size (A.length + k) _ rfl hown _ _ rfl hkey ?_; intro c hat hwc; rw [Hc.out.2 x, Hcv.out] at hat; obtain rfl : (cv : Int) = c := (by simpa using hat); clear hat hwc)
                | (at_mapUpdate; refine wpList_mapUpdate_own _ rfl _ _ _ 39 rfl 3 3 law3 Try.underlying39 _ w5.heap.size (A.length + k) _ rfl hown (by unfold maxLen; omega) _ _ _ rfl rfl hkey _ [] (plainElem_int Try.underlying3 (WalkArith.wf_i64 (by omega))) ?_; intro w1 hown1 hgrow1)
                | go_in)
              go_roundw
              case rel => exact ⟨k + 1, by omega, by go_num, ⟨_, hown1, by rw [take_snoc' Hx.out, ← List.append_assoc, ← Hcv.out]; exact countIs_step Hc.out x⟩, hbr.grown hgrow1 hbr.size (fun j hj => by cases hj; exact Nat.le_refl _)⟩
              case measure => simp [intOf]; omega
            · obtain rfl : Bl.length = k := by omega
              rw [List.take_length] at hcnt
              have Hc := Lib.hid hcnt
              clear hcnt
              go_wp2
              obtain ⟨w7, rfl⟩ : ∃ w7 : World, w7 = wr := ⟨_, rfl⟩
              go_loopw [65] (fun i wr => ∃ k : Nat, k ≤ bs.length ∧ i = .int .i64 k ∧ wr = w7) (fun i _ => bs.length - (intOf i).toNat)
              case atStart => exact ⟨0, Nat.zero_le _, rfl, rfl⟩
              case round =>
                obtain ⟨k, hk, rfl, rfl⟩ := hrel
                by_cases hkl : k < bs.length
                · have hkey : keyOf Try.prog 3 (.int .i64 (k : Int)) = some (.int .i64 (k : Int)) := keyOf_int_mk Try.underlying3 (WalkArith.wf_i64 (by omega))
                  go_wp2_with (first
                    | (at_lookup; refine wpList_lookup_own_int _ rfl _ _ 39 rfl 3 3 .i64 law3 Try.underlying39 Try.underlying3 (zero3 _) w5.heap.size _ _ rfl hown _ _ rfl hkey ?_; intro c hat hwc; rw [Hc.out.2 (k : Int), H3.out k hkl] at hat; obtain rfl : (1 : Int) = c := (by simpa using hat); clear hat hwc)
                    | go_in)
                  go_roundw
                  case rel => exact ⟨k + 1, by omega, by go_num, trivial⟩
                  case measure => simp [intOf]; omega
                · obtain rfl : bs.length = k := by omega
                  have hsum : ((A.length : Int) + Bl.length == bs.length) = true := beq_iff_eq.2 (by have := H4.out; omega)
                  go_wp2_with (go_at_call 10; refine (awake_any _).mono ?_; rintro e w8 ⟨rfl, hb8⟩)
                  go_ret
                  exact ⟨rfl, below_on (below_on (below_on (below_on (below_on (below_on hb hb2) hb3) hb4) hb5) hbr) hb8⟩

/-- A list of bools as a call is handed it: nil, or its cells hold bools. -/
def BoolsArg (W : World) (a0 : Option Addr) (len cap : Nat) : Prop :=
  (a0 = none ∧ len = 0 ∧ cap = 0) ∨ ∃ (ad : Addr) (B : Nat → Bool), a0 = some ad ∧ len ≤ maxLen ∧ ∀ i, i < len → W.cell? (ad.add i) = some (.bool (B i))
theorem BoolsArg.list {W : World} {a0 : Option Addr} {len cap : Nat} (h : BoolsArg W a0 len cap) : len ≤ maxLen ∧ ∃ bs : List Bool, bs.length = len ∧ BoolsIn W (.slice a0 len cap) bs := by
  rcases h with ⟨rfl, rfl, rfl⟩ | ⟨ad, B, rfl, hm, hc⟩
  · exact ⟨Nat.zero_le _, [], rfl, .inl ⟨rfl, rfl⟩⟩
  · refine ⟨hm, (List.range len).map B, by simp, .inr ⟨ad, cap, by simp, fun j hj => ?_⟩⟩
    have hj' : j < len := by simpa using hj
    rw [hc j hj']
    simp [hj']

theorem both_any (a0 : Option Addr) (len cap : Nat) (w : World) (h : BoolsArg w a0 len cap) : Calls Try.prog 8 #[.slice a0 len cap] w (Holds w) := by
  obtain ⟨hm, bs, rfl, hb⟩ := h.list
  unfold maxLen at hm
  by_cases h3 : 300 < bs.length
  · exact both_big a0 _ cap w h3 (by omega)
  · exact both_in _ bs (by omega) w hb
end Go.Proofs.Ytemallklldebpaa
