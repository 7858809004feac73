/- SheetTorn: a beginning of a sheet, that is not all of it, is none; nor is one with a byte more; all of it is read as it was: the law's walk. -/
import Derived.Test.YtfjijpejoocngaaRefSheet
import Derived.Test.YtfjijpejoocngaaOpen
namespace Go.Proofs.Ytfjijpejoocngaa
open Go.RowKit

/-- No sheet's bytes begin another's. -/
theorem sheet_prefix {p s p' s' : Int} {d d' r : List UInt8} (h : MayS p s d) (h' : MayS p' s' d') (e : sheetL p.toNat s.toNat d = sheetL p'.toNat s'.toNat d' ++ r) : r = [] := by
  obtain ⟨⟨a1, a2⟩, ⟨b1, b2⟩, c1, _⟩ := id h
  obtain ⟨⟨a1', a2'⟩, ⟨b1', b2'⟩, c1', _⟩ := id h'
  obtain ⟨x1, x2, x3⟩ := steps_sheet p.toNat s.toNat d [90] (by omega) (by omega) c1
  obtain ⟨y1, y2, y3⟩ := steps_sheet p'.toNat s'.toNat d' ([90] ++ r) (by omega) (by omega) c1'
  unfold sheetL at e
  rw [e, List.append_assoc _ [90] r, y1] at x1
  injection x1 with e1 e2
  rw [← e2, y2] at x2
  injection x2 with e3 e4
  rw [← e4, y3] at x3
  injection x3 with e5 e6
  injection e6 with e7
  simpa using e7
theorem torn_none {p s : Int} {d : List UInt8} {k : Nat} (h : MayS p s d) (hk : k < (sheetL p.toNat s.toNat d).length) : NoSheet ((sheetL p.toNat s.toNat d).take k) := fun p' s' d' h' e => by
  have := sheet_prefix h h' (r := (sheetL p.toNat s.toNat d).drop k) (by rw [← e, List.take_append_drop])
  have h2 := congrArg List.length this
  simp at h2; omega
theorem more_none {p s : Int} {d : List UInt8} (x : UInt8) (h : MayS p s d) : NoSheet (sheetL p.toNat s.toNat d ++ [x]) := fun p' s' d' h' e => by
  have := sheet_prefix h' h (r := [x]) e.symm
  cases this
theorem small_len (x : Int) (n : Nat) (hn : 0 < n) (h : n ≤ 2000) : ∃ N : Nat, (IntKind.u64.wrap x).tmod (n : Int) = (N : Int) ∧ N < n := u64_tmod x n hn (by omega)
theorem grown_below {w w' : World} {r : Option Nat} {B : Nat} (hg : w.grownBy w' r) (hr : r = none ∨ ∀ g, r = some g → B ≤ g) (hB : B ≤ w.heap.size) : Below B w w' :=
  (Below.refl B w).grown hg hB fun k e => by
    rcases hr with h | h
    · rw [h] at e; cases e
    · exact h k e
theorem parse_len (B : Nat) (A : Option Addr) (c m : Nat) (l : List UInt8) (w : World) (hm : m = l.length) (h : RB w B A l) (hB : B ≤ w.heap.size) (hl : l.length ≤ 70368744177664) :
    Calls Try.prog 13 #[.slice A m c] w (ParsePost l w) := by
  subst hm
  exact parse_sheet B A c l w h hB hl
set_option maxRecDepth 100000 in
set_option maxHeartbeats 4000000 in
theorem torn_any (p s : Int) (A : Option Addr) (c : Nat) (d : List UInt8) (keep : Int) (more : UInt8) (w : World) (hr : RB w w.heap.size A d) :
    Calls Try.prog 4 #[.agg #[.int .i64 p, .int .i64 s, .slice A d.length c], .int .i64 keep, .int .u8 more.toNat] w (Holds w) := by
  obtain ⟨W0, hW0⟩ : ∃ W0, W0 = w.alloc (.cells #[.int .i64 p, .int .i64 s, .slice A d.length c] 24) := ⟨_, rfl⟩
  have HB0 : Hid (Below w.heap.size w W0) := by rw [hW0]; exact (Below.refl _ _).alloc (Nat.le_refl _) _
  have C0 : Hid (W0.heap[w.heap.size]? = some (.cells #[.int .i64 p, .int .i64 s, .slice A d.length c] 24 (0, 0))) := by rw [hW0]; exact heap_alloc_new w _
  have hz0 : W0.heap.size = w.heap.size + 1 := by rw [hW0]; simp
  have D0 := Lib.hid (hr.below HB0.out (Nat.le_refl _))
  clear hr
  by_cases hM : MayS p s d
  · have HM := Lib.hid hM
    have hl : d.length ≤ 3000 := by have := hM.2.2.1; omega
    have HL := Lib.hid hl
    have hsl := hM.2.2.2
    obtain ⟨L, hL⟩ : ∃ L, L = sheetL p.toNat s.toNat d := ⟨_, rfl⟩
    have hl1 : 1 ≤ L.length := by rw [hL]; unfold sheetL; simp; omega
    rw [← hL] at hsl
    obtain ⟨N, hN, hN1⟩ := small_len keep L.length hl1 hsl
    have ru := u64_rng keep
    have NT := Lib.hid (torn_none hM (k := N) (by rw [← hL]; exact hN1))
    have NM := Lib.hid (more_none more hM)
    have HLs := Lib.hid hL
    rw [← hL] at NT NM
    obtain ⟨i0, hi, hz0', hz1, hz2⟩ := info_parts info_byte
    clear hM hl hL
    go_enter Try.func4, Try.ntmps4
    go_wp2_with fail
    rw [← hW0, show w.heap.size + 1 = W0.heap.size by omega]
    refine (light1_any W0.heap.size 1 p s A d.length c _ (heap_alloc_new W0 _)).mono ?_
    rintro e w1 ⟨rfl, hb1⟩
    rw [decide_eq_true HL.out]
    have HB1 := Lib.hid (((Below.refl W0.heap.size W0).alloc (Nat.le_refl _) _).trans (hb1.mono (by simp)))
    clear hb1
    obtain ⟨k0, k1, k2⟩ := cells3 ((HB1.out.block w.heap.size (lt_size C0.out)).trans C0.out)
    go_wp2_with fail
    refine (may_any w.heap.size p s A c d _ (D0.out.below HB1.out (by omega)) (by have := HB1.out.size; omega)).mono ?_
    rintro e w2 ⟨rfl, hb2⟩
    rw [decide_eq_true HM.out]
    have HB2 := Lib.hid (HB1.out.trans (hb2.mono HB1.out.size))
    clear hb2 k0 k1 k2
    obtain ⟨k0, k1, k2⟩ := cells3 ((HB2.out.block w.heap.size (lt_size C0.out)).trans C0.out)
    go_wp2_with fail
    refine (maysheet_any w.heap.size p s A c d _ (D0.out.below HB2.out (by omega)) (by have := HB2.out.size; omega)).mono ?_
    rintro e w3 ⟨rfl, hb3⟩
    rw [decide_eq_true HM.out]
    have HB3 := Lib.hid (HB2.out.trans (hb3.mono HB2.out.size))
    clear hb3 k0 k1 k2
    obtain ⟨k0, k1, k2⟩ := cells3 ((HB3.out.block w.heap.size (lt_size C0.out)).trans C0.out)
    go_wp2_with fail
    refine (bytes_any w.heap.size p s A c d _ (D0.out.below HB3.out (by omega)) (by have := HB3.out.size; omega)).mono ?_
    rintro e w4 ⟨A4, c4, L4, er, rfl, hL4, her, hc4, hr4, _, hb4⟩
    rw [if_pos HM.out] at her
    subst her
    obtain rfl : L4 = L := hL4.out.trans ((if_pos HM.out).trans HLs.out.symm)
    have HB4 := Lib.hid (HB3.out.trans (hb4.mono HB3.out.size))
    have R4 := Lib.hid hr4
    clear hL4 hr4 hb4 k0 k1 k2
    have hne : ((L4.length : Int) == 0) = false := by
      have : (L4.length : Int) ≠ 0 := by omega
      simpa using this
    go_wp2_with fail
    refine (parse_sheet w4.heap.size A4 c4 L4 _ R4.out (Nat.le_refl _) (by omega)).mono ?_
    rintro e w5 ⟨hb5, ⟨p', s', A5, c5, d', hl5, hM5, hr5, rfl⟩ | ⟨hn, rfl⟩⟩
    · obtain ⟨rfl, rfl, rfl⟩ := sheet_inj HM.out hM5.out (by rw [← HLs.out, ← hl5.out])
      have HB5 := Lib.hid ((HB4.out.trans (hb5.mono HB4.out.size)).alloc (by have := HB4.out.size; have := hb5.size; omega) (.cells #[.int .i64 p, .int .i64 s, .slice A5 d.length c5] 24))
      have R5 := Lib.hid ((R4.out.below hb5 (Nat.le_refl _)).alloc hb5.size (.cells #[.int .i64 p, .int .i64 s, .slice A5 d.length c5] 24))
      have Q5 := Lib.hid (hr5.alloc (Nat.le_refl _) (.cells #[.int .i64 p, .int .i64 s, .slice A5 d.length c5] 24))
      have T5 := Lib.hid (heap_alloc_new w5 (.cells #[.int .i64 p, .int .i64 s, .slice A5 d.length c5] 24))
      have s5 := hb5.size
      clear hb5 hr5 hl5 hM5
      obtain ⟨ad, hAd, hadb, _⟩ := R4.out (by omega)
      subst hAd
      have hNc : N ≤ c4 := by omega
      go_wp2_with fail
      refine (parse_len w4.heap.size (some ad) c4 N (L4.take N) _ (by rw [List.length_take]; omega) (R5.out.take N) (by simp; omega) (by rw [List.length_take]; omega)).mono ?_
      rintro e w6 ⟨hb6, ⟨p', s', A6, c6, d', hl6, hM6, hr6, rfl⟩ | ⟨hn6, rfl⟩⟩
      · exact absurd hl6.out (NT.out p' s' d' hM6.out)
      have HB6 := Lib.hid ((HB5.out.trans (hb6.mono HB5.out.size)).alloc (by have := HB5.out.size; have := hb6.size; omega) (.cells #[.int .i64 0, .int .i64 0, .slice none 0 0] 24))
      have R6 := Lib.hid ((R5.out.below hb6 (by simp; omega)).alloc (by have := hb6.size; simp at this; omega) (.cells #[.int .i64 0, .int .i64 0, .slice none 0 0] 24))
      have Q6 := Lib.hid ((Q5.out.below hb6 (by simp)).alloc (by have := hb6.size; simp at this; omega) (.cells #[.int .i64 0, .int .i64 0, .slice none 0 0] 24))
      have s6 : w5.heap.size + 1 ≤ w6.heap.size := by have := hb6.size; simpa using this
      have T6 := Lib.hid ((Below.heap_alloc w6 (.cells #[.int .i64 0, .int .i64 0, .slice none 0 0] 24) w5.heap.size (by omega)).trans ((hb6.block w5.heap.size (by simp)).trans T5.out))
      clear hb6 hn6
      have hs60 : W0.heap.size ≤ w6.heap.size := by have := HB5.out.size; simp at this; omega
      obtain ⟨W6, hW6⟩ : ∃ W6, W6 = (w6.alloc (.cells #[.int .i64 0, .int .i64 0, .slice none 0 0] 24)) := ⟨_, rfl⟩
      have hz6 : W6.heap.size = w6.heap.size + 1 := by rw [hW6]; simp
      rw [← hW6] at HB6 R6 Q6 T6
      go_wp2_with (first
        | (at_builtin; refine wpList_append_onto' _ W6 none rfl _ _ _ rfl i0 _ Try.underlying22 hi hz0' hz1 hz2 rfl _ L4 rfl (hon7.alloc _) (by simp; omega) (w7.heap.size + 1) _ 1 [more] rfl (rb_new1 w7 more 5 (0, 0)) (by simp; omega) ?_; intro p8 cap8 w8 r8 hon8 hg8 hwr8 hrr8 hob8; have HB8 := Lib.hid ((HB7.out.alloc (by omega) (.cells #[.int .u8 more.toNat] 5)).trans (grown_below hg8 hwr8 (by simp; omega))); have HO8 := Lib.hid hon8; clear hg8 hwr8 hob8 hrr8 hon8)
        | (at_builtin; rw [← hW6]; refine wpList_append_onto' _ W6 none rfl _ _ _ rfl i0 _ Try.underlying22 hi hz0' hz1 hz2 rfl (.slice (some ⟨w6.heap.size + 1, 0, none⟩) 0 0) [] rfl (.inr ⟨rfl, _, rfl⟩) (by simp) w4.heap.size (some ad) c4 L4 rfl (R6.out.alloc (by omega) (.cells #[] 5)) (by simp; omega) ?_; intro p7 cap7 w7 r7 hon7 hg7 hwr7 hrr7 hob7; rw [List.nil_append] at hon7; have hs7 : W6.heap.size ≤ w7.heap.size := (by have := hg7.size; simp at this; omega); have HB7 := Lib.hid (((Below.refl W6.heap.size W6).alloc (Nat.le_refl _) (.cells #[] 5)).trans (grown_below hg7 hwr7 (by simp))); clear hg7 hwr7 hob7 hrr7)
        | fail)
      have hs8 := HB8.out.size
      refine (parse_len w8.heap.size p8 cap8 (L4.length + 1) (L4 ++ [more]) _ (by simp) HO8.out.rb (Nat.le_refl _) (by simp; omega)).mono ?_
      rintro e w9 ⟨hb9, ⟨p', s', A9, c9, d', hl9, hM9, hr9, rfl⟩ | ⟨hn9, rfl⟩⟩
      · exact absurd hl9.out (NM.out p' s' d' hM9.out)
      have hs9 := hb9.size
      have HB9 := Lib.hid (((HB8.out.trans (hb9.mono (by omega))).alloc (by omega) (.cells #[.int .i64 0, .int .i64 0, .slice none 0 0] 24)))
      have HT9 := Lib.hid (HB6.out.trans (HB9.out.mono (by omega)))
      have T9 := Lib.hid ((HB9.out.block w5.heap.size (by omega)).trans T6.out)
      have Q9 := Lib.hid (Q6.out.below HB9.out (by omega))
      obtain ⟨k0, k1, k2⟩ := cells3 ((HT9.out.block w.heap.size (lt_size C0.out)).trans C0.out)
      obtain ⟨j0, j1, j2⟩ := cells3 T9.out
      have D9 := Lib.hid (D0.out.below HT9.out (by omega))
      have hs9' : w5.heap.size ≤ (w9.alloc (.cells #[.int .i64 0, .int .i64 0, .slice none 0 0] 24)).heap.size := by simp; omega
      clear hb9 hn9
      go_wp2_with fail
      refine (same_any w.heap.size w5.heap.size p s p s A A5 c c5 d d _ D9.out (by simp; omega) Q9.out hs9').mono ?_
      rintro e w10 ⟨rfl, hb10⟩
      rw [decide_eq_true (by simp)]
      have HB10 := Lib.hid (HT9.out.trans (hb10.mono (by simp; omega)))
      have hs10 := hb10.size
      clear hb10 k0 k1 k2 j0 j1 j2
      go_wp2_with (first | (go_at_call 10; refine (awake_any _).mono ?_; rintro e w11 ⟨rfl, hb11⟩))
      go_ret
      exact ⟨rfl, (HB0.out.trans (HB10.out.mono (by omega))).trans (hb11.mono (by have := HB10.out.size; omega))⟩
    · exact absurd HLs.out (hn.out p s d HM.out)
  · have HM := Lib.hid hM
    clear hM
    go_enter Try.func4, Try.ntmps4
    go_wp2_with fail
    rw [← hW0, show w.heap.size + 1 = W0.heap.size by omega]
    refine (light1_any W0.heap.size 1 p s A d.length c _ (heap_alloc_new W0 _)).mono ?_
    rintro e w1 ⟨rfl, hb1⟩
    have HB1 := Lib.hid (((Below.refl W0.heap.size W0).alloc (Nat.le_refl _) _).trans (hb1.mono (by simp)))
    clear hb1
    by_cases hl : d.length ≤ 3000
    · rw [decide_eq_true hl]
      clear hl
      obtain ⟨k0, k1, k2⟩ := cells3 ((HB1.out.block w.heap.size (lt_size C0.out)).trans C0.out)
      go_wp2_with fail
      refine (may_any w.heap.size p s A c d _ (D0.out.below HB1.out (by omega)) (by have := HB1.out.size; omega)).mono ?_
      rintro e w2 ⟨rfl, hb2⟩
      rw [decide_eq_false HM.out]
      have HB2 := Lib.hid (HB1.out.trans (hb2.mono HB1.out.size))
      clear hb2 k0 k1 k2
      go_wp2_with (first | (go_at_call 10; refine (awake_any _).mono ?_; rintro e w4 ⟨rfl, hb4⟩))
      go_ret
      exact ⟨rfl, (HB0.out.trans (HB2.out.mono (by omega))).trans (hb4.mono (by have := HB2.out.size; omega))⟩
    · rw [decide_eq_false hl]
      clear hl
      go_wp2_with (first | (go_at_call 10; refine (awake_any _).mono ?_; rintro e w4 ⟨rfl, hb4⟩))
      go_ret
      exact ⟨rfl, (HB0.out.trans (HB1.out.mono (by omega))).trans (hb4.mono (by have := HB1.out.size; omega))⟩
theorem torn_row (p s : Int) (A : Option Addr) (c : Nat) (d : List UInt8) (keep x : Int) (hx : (Lit.int .u8 x).wf = true) (w : World) (hr : RB w w.heap.size A d) :
    Calls Try.prog 4 #[.agg #[.int .i64 p, .int .i64 s, .slice A d.length c], .int .i64 keep, .int .u8 x] w (Holds w) := by
  rw [ub_of hx]
  exact torn_any p s A c d keep _ w hr
end Go.Proofs.Ytfjijpejoocngaa
