/- SheetTurned: with its last byte, or one anywhere, turned, it is none, or another one: the law's walk. -/
import Derived.Test.YtfjijpejoocngaaTorn
import Derived.Test.YtfjijpejoocngaaXor
namespace Go.Proofs.Ytfjijpejoocngaa
open Go.RowKit

theorem sheet_last {p s : Int} {d l : List UInt8} {k : Nat} (h : l = sheetL p.toNat s.toNat d) (hk : k + 1 = l.length) : l[k]? = some 90 := by
  subst h
  unfold sheetL at hk ⊢
  have : k = (numL p.toNat ++ numL s.toNat ++ numL d.length ++ d).length := by simp at hk ⊢; omega
  rw [this]; simp
theorem last_none {p s : Int} {d : List UInt8} {k : Nat} {y : UInt8} (hk : k + 1 = (sheetL p.toNat s.toNat d).length) (hy : y ≠ 90) : NoSheet ((sheetL p.toNat s.toNat d).set k y) := fun p' s' d' h' e => by
  have h1 := sheet_last (k := k) (l := sheetL p'.toNat s'.toNat d') rfl (by rw [← e]; simpa using hk)
  rw [← e, List.getElem?_set_self (by omega)] at h1
  exact hy (by simpa using h1)
/-- An owned row of bytes, one of them turned. -/
theorem own_turn {w : World} {base g cap n : Nat} {e : TypeId} {l : List UInt8} (h : w.ownsRow base e 1 (.slice (some ⟨g, 0, none⟩) n cap) n (l.map ub)) (k : Nat) (y : UInt8) : (w.setCell ⟨g, k, none⟩ (.int .u8 y.toNat)).ownsRow base e 1 (.slice (some ⟨g, 0, none⟩) n cap) n ((l.set k y).map ub) := by
  have := (h.stored k (.int .u8 y.toNat)).1
  rw [List.map_set]
  exact this
theorem onto_own {W w : World} {p : Option Addr} {cap : Nat} {l : List UInt8} (h : Onto W none w (.slice p l.length cap) l) (hl : 0 < l.length) : ∃ g, p = some ⟨g, 0, none⟩ ∧ W.heap.size ≤ g ∧ w.ownsRow W.heap.size 5 1 (.slice (some ⟨g, 0, none⟩) l.length cap) l.length (l.map ub) := by
  rcases h with ⟨h1, h2⟩ | ⟨h1, _⟩
  · obtain ⟨g, cap', hv, _, _⟩ := h1.form hl
    cases hv
    have hg : W.heap.size ≤ g := by
      rcases h2 with h2 | h2
      · simp [Value.ownBlock] at h2
      · exact h2 g rfl
    exact ⟨g, rfl, hg, own_raise h1 fun g' e => by simp [Value.ownBlock] at e; omega⟩
  · subst h1; simp at hl
set_option maxRecDepth 100000 in
set_option maxHeartbeats 4000000 in
theorem turned_any (p s : Int) (A : Option Addr) (c : Nat) (d : List UInt8) (at_ : Int) (x : UInt8) (w : World) (hr : RB w w.heap.size A d) :
    Calls Try.prog 8 #[.agg #[.int .i64 p, .int .i64 s, .slice A d.length c], .int .i64 at_, .int .u8 x.toNat] w (Holds w) := by
  obtain ⟨W0, hW0⟩ : ∃ W0, W0 = w.alloc (.cells #[.int .i64 p, .int .i64 s, .slice A d.length c] 24) := ⟨_, rfl⟩
  have HB0 : Hid (Below w.heap.size w W0) := by rw [hW0]; exact (Below.refl _ _).alloc (Nat.le_refl _) _
  have C0 : Hid (W0.heap[w.heap.size]? = some (.cells #[.int .i64 p, .int .i64 s, .slice A d.length c] 24 (0, 0))) := by rw [hW0]; exact heap_alloc_new w _
  have hz0 : W0.heap.size = w.heap.size + 1 := by rw [hW0]; simp
  have D0 := Lib.hid (hr.below HB0.out (Nat.le_refl _))
  clear hr
  by_cases hM : MayS p s d ∧ x ≠ 0
  · obtain ⟨hM, hx⟩ := hM
    have HM := Lib.hid hM
    have hl : d.length ≤ 3000 := by have := hM.2.2.1; omega
    have HL := Lib.hid hl
    have hsl := hM.2.2.2
    obtain ⟨L, hL⟩ : ∃ L, L = sheetL p.toNat s.toNat d := ⟨_, rfl⟩
    have hl1 : 1 ≤ L.length := by rw [hL]; unfold sheetL; simp; omega
    rw [← hL] at hsl
    obtain ⟨N, hN, hN1⟩ := small_len at_ L.length hl1 hsl
    have ru := u64_rng at_
    have HLs := Lib.hid hL
    obtain ⟨i0, hi, hz0', hz1, hz2⟩ := info_parts info_byte
    have hx0 : ((x.toNat : Int) == 0) = false := by
      have : x.toNat ≠ 0 := fun e => hx (UInt8.toNat.inj e)
      simp; omega
    have HX := Lib.hid hx
    clear hM hl hL hx
    go_enter Try.func8, Try.ntmps8
    go_wp2_with fail
    rw [← hW0, show w.heap.size + 1 = W0.heap.size by omega]
    refine (light1_any W0.heap.size 1 p s A d.length c _ (heap_alloc_new W0 _)).mono ?_
    rintro e w1 ⟨rfl, hb1⟩
    rw [decide_eq_true HL.out]
    have HB1 := Lib.hid (((Below.refl W0.heap.size W0).alloc (Nat.le_refl _) _).trans (hb1.mono (by simp)))
    clear hb1
    obtain ⟨k0, k1, k2⟩ := cells3 ((HB1.out.block w.heap.size (lt_size C0.out)).trans C0.out)
    go_wp2_with fail
    refine (maysheet_any w.heap.size p s A c d _ (D0.out.below HB1.out (by omega)) (by have := HB1.out.size; omega)).mono ?_
    rintro e w3 ⟨rfl, hb3⟩
    rw [decide_eq_true HM.out]
    have HB3 := Lib.hid (HB1.out.trans (hb3.mono HB1.out.size))
    clear hb3 k0 k1 k2
    obtain ⟨k0, k1, k2⟩ := cells3 ((HB3.out.block w.heap.size (lt_size C0.out)).trans C0.out)
    go_wp2_with fail
    refine (bytes_any w.heap.size p s A c d _ (D0.out.below HB3.out (by omega)) (by have := HB3.out.size; omega)).mono ?_
    rintro e w4 ⟨A4, c4, L4, er, rfl, hL4, her, hc4, hr4, _, hb4⟩
    rw [if_pos HM.out] at her
    subst her
    obtain rfl : L4 = L := hL4.out.trans ((if_pos HM.out).trans HLs.out.symm)
    have HB4 := Lib.hid (HB3.out.trans (hb4.mono HB3.out.size))
    have R5 := Lib.hid hr4
    have s4 : W0.heap.size ≤ w4.heap.size := HB4.out.size
    clear hL4 hr4 hb4 k0 k1 k2
    have hne : ((L4.length : Int) == 0) = false := by
      have : (L4.length : Int) ≠ 0 := by omega
      simpa using this
    obtain ⟨ad, hAd, hadb, _⟩ := R5.out (by omega)
    subst hAd
    obtain ⟨m, hm⟩ : ∃ m : Nat, (L4.length : Int) - 1 = (m : Int) := ⟨L4.length - 1, by omega⟩
    have hml : m + 1 = L4.length := by omega
    have hm0 : (0 : Int) ≤ (m : Int) := by omega
    have hlast : (L4.map ub)[m]? = some (.int .u8 90) := by
      rw [List.getElem?_map, sheet_last HLs.out hml]; rfl
    have hatN : ∃ a : UInt8, L4[N]? = some a := ⟨L4[N], List.getElem?_eq_getElem hN1⟩
    obtain ⟨aN, haN⟩ := hatN
    have hatN : (L4.map ub)[N]? = some (.int .u8 aN.toNat) := by
      rw [List.getElem?_map, haN]; rfl
    obtain ⟨y, hy, hy1⟩ := xor_byte 90 x HX.out
    rw [show (((90 : UInt8).toNat : Nat) : Int) = 90 from rfl] at hy
    obtain ⟨z, hz, hz1'⟩ := xor_byte aN x HX.out
    have HY := Lib.hid (last_none (p := p) (s := s) (d := d) (k := m) (y := y) (by rw [← HLs.out]; exact hml) hy1)
    rw [← HLs.out] at HY
    have HZ : Hid (L4.set N z ≠ L4) := fun e => hz1' (by
      have := congrArg (fun l => l[N]?) e
      simp only [List.getElem?_set_self hN1, haN] at this
      simpa using this)
    clear hy1 hz1' haN
    go_wp2_with (first
      | (at_builtin; refine wpList_append_onto' _ w4 none rfl _ _ _ rfl i0 _ Try.underlying22 hi hz0' hz1 hz2 rfl (.slice (some ⟨w4.heap.size, 0, none⟩) 0 0) [] rfl (.inr ⟨rfl, _, rfl⟩) (by simp) w4.heap.size (some ad) c4 L4 rfl (R5.out.alloc (by omega) (.cells #[] 5)) (by simp; omega) ?_; intro p5 cap5 w5 r5 hon5 hg5 hwr5 hrr5 hob5; rw [List.nil_append] at hon5; have HB5 := Lib.hid (((Below.refl w4.heap.size w4).alloc (Nat.le_refl _) (.cells #[] 5)).trans (grown_below hg5 hwr5 (by simp))); clear hg5 hwr5 hob5 hrr5; obtain ⟨g5, hp5, hg5, own5⟩ := onto_own hon5 (by omega); subst hp5; have hcell5 := (own5.cellAt m (by omega)).trans hlast; have hfr5 := own5.frozenAt m; have Own5 := Lib.hid own5; clear own5 hon5)
      | fail)
    have Own6 := Lib.hid (own_turn Own5.out m y)
    have HB6 := Lib.hid (HB5.out.setCell (p := ⟨g5, m, none⟩) hg5 (.int .u8 y.toNat))
    have R6 := Lib.hid (R5.out.below HB6.out (Nat.le_refl _))
    have s6 := HB6.out.size
    refine (parse_len _ (some ⟨g5, 0, none⟩) cap5 L4.length (L4.set m y) _ (by simp) (.of_own Own6.out) (Nat.le_refl _) (by simp; omega)).mono ?_
    rintro e w6 ⟨hb6, ⟨p', s', A6, c6, d', hl6, hM6, hr6, rfl⟩ | ⟨hn6, rfl⟩⟩
    · exact absurd hl6.out (HY.out p' s' d' hM6.out)
    have s7 := hb6.size
    obtain ⟨W7, hW7⟩ : ∃ W7, W7 = w6.alloc (.cells #[.int .i64 0, .int .i64 0, .slice none 0 0] 24) := ⟨_, rfl⟩
    have HB7 : Hid (Below w4.heap.size w4 W7) := by rw [hW7]; exact (HB6.out.trans (hb6.mono s6)).alloc (by omega) _
    have R7 := Lib.hid (R5.out.below HB7.out (Nat.le_refl _))
    have s8 := HB7.out.size
    have hz7 : W7.heap.size = w6.heap.size + 1 := by rw [hW7]; simp
    clear hb6 hn6
    go_wp2_with (first
      | (at_builtin; rw [← hW7]; refine wpList_append_onto' _ W7 none rfl _ _ _ rfl i0 _ Try.underlying22 hi hz0' hz1 hz2 rfl (.slice (some ⟨w6.heap.size + 1, 0, none⟩) 0 0) [] rfl (.inr ⟨rfl, _, rfl⟩) (by simp) w4.heap.size (some ad) c4 L4 rfl (R7.out.alloc (by omega) (.cells #[] 5)) (by simp; omega) ?_; intro p8 cap8 w8 r8 hon8 hg8 hwr8 hrr8 hob8; rw [List.nil_append] at hon8; have HB8 := Lib.hid (((Below.refl W7.heap.size W7).alloc (Nat.le_refl _) (.cells #[] 5)).trans (grown_below hg8 hwr8 (by simp))); clear hg8 hwr8 hob8 hrr8; obtain ⟨g8, hp8, hg8, own8⟩ := onto_own hon8 (by omega); subst hp8; have hcell8 := (own8.cellAt N (by omega)).trans hatN; have hfr8 := own8.frozenAt N; have Own8 := Lib.hid own8; clear own8 hon8)
      | fail)
    have Own9 := Lib.hid (own_turn Own8.out N z)
    have HB9 := Lib.hid (HB8.out.setCell (p := ⟨g8, N, none⟩) hg8 (.int .u8 z.toNat))
    have HT9 := Lib.hid (HB4.out.trans ((HB7.out.trans (HB9.out.mono s8)).mono s4))
    have s9 := HB9.out.size
    refine (parse_len _ (some ⟨g8, 0, none⟩) cap8 L4.length (L4.set N z) _ (by simp) (.of_own Own9.out) (Nat.le_refl _) (by simp; omega)).mono ?_
    rintro e w10 ⟨hb10, ⟨p', s', A10, c10, d', hl10, hM10, hr10, rfl⟩ | ⟨hn10, rfl⟩⟩
    · have hdif : Hid (¬ (p = p' ∧ s = s' ∧ d = d')) := fun h => by
        obtain ⟨rfl, rfl, rfl⟩ := h
        exact HZ.out (hl10.out.trans HLs.out.symm)
      have s10 := hb10.size
      have HT10 := Lib.hid ((HT9.out.trans (hb10.mono (by omega))).alloc (by omega) (.cells #[.int .i64 p', .int .i64 s', .slice A10 d'.length c10] 24))
      have T10 := Lib.hid (heap_alloc_new w10 (.cells #[.int .i64 p', .int .i64 s', .slice A10 d'.length c10] 24))
      have Q10 := Lib.hid (hr10.alloc (Nat.le_refl _) (.cells #[.int .i64 p', .int .i64 s', .slice A10 d'.length c10] 24))
      have D10 := Lib.hid (D0.out.below HT10.out (by omega))
      have s11 := HT10.out.size
      obtain ⟨k0, k1, k2⟩ := cells3 ((HT10.out.block w.heap.size (lt_size C0.out)).trans C0.out)
      obtain ⟨j0, j1, j2⟩ := cells3 T10.out
      clear hb10 hr10
      go_wp2_with fail
      refine (same_any w.heap.size w10.heap.size p s p' s' A A10 c c10 d d' _ D10.out (by simp at s11 ⊢; omega) Q10.out (by simp)).mono ?_
      rintro e w12 ⟨rfl, hb12⟩
      rw [decide_eq_false hdif.out]
      have HB12 := Lib.hid (HT10.out.trans (hb12.mono s11))
      clear hb12 k0 k1 k2 j0 j1 j2
      go_wp2_with (first | (go_at_call 10; refine (awake_any _).mono ?_; rintro e w40 ⟨rfl, hb40⟩))
      go_ret
      exact ⟨rfl, (HB0.out.trans (HB12.out.mono (by omega))).trans (hb40.mono (by have := HB12.out.size; omega))⟩
    · have s10 := hb10.size
      have HT10 := Lib.hid ((HT9.out.trans (hb10.mono (by omega))).alloc (by omega) (.cells #[.int .i64 0, .int .i64 0, .slice none 0 0] 24))
      have s11 := HT10.out.size
      clear hb10 hn10
      go_wp2_with (first | (go_at_call 10; refine (awake_any _).mono ?_; rintro e w40 ⟨rfl, hb40⟩))
      go_ret
      exact ⟨rfl, (HB0.out.trans (HT10.out.mono (by omega))).trans (hb40.mono (by simp at s11 ⊢; omega))⟩
  · have HM := Lib.hid hM
    clear hM
    go_enter Try.func8, Try.ntmps8
    go_wp2_with fail
    rw [← hW0, show w.heap.size + 1 = W0.heap.size by omega]
    refine (light1_any W0.heap.size 1 p s A d.length c _ (heap_alloc_new W0 _)).mono ?_
    rintro e w1 ⟨rfl, hb1⟩
    have HB1 := Lib.hid (((Below.refl W0.heap.size W0).alloc (Nat.le_refl _) _).trans (hb1.mono (by simp)))
    clear hb1
    by_cases hl : d.length ≤ 3000
    · rw [decide_eq_true hl]
      clear hl
      obtain ⟨k0, k1, k2⟩ := cells3 ((HB1.out.block w.heap.size (lt_size C0.out)).trans C0.out)
      go_wp2_with fail
      refine (maysheet_any w.heap.size p s A c d _ (D0.out.below HB1.out (by omega)) (by have := HB1.out.size; omega)).mono ?_
      rintro e w2 ⟨rfl, hb2⟩
      have HB2 := Lib.hid (HB1.out.trans (hb2.mono HB1.out.size))
      clear hb2 k0 k1 k2
      by_cases hm : MayS p s d
      · rw [decide_eq_true hm]
        have hx0 : ((x.toNat : Int) == 0) = true := by
          by_cases hx : x = 0
          · subst hx; rfl
          · exact absurd ⟨hm, hx⟩ HM.out
        clear hm
        go_wp2_with (first | (go_at_call 10; refine (awake_any _).mono ?_; rintro e w4 ⟨rfl, hb4⟩))
        go_ret
        exact ⟨rfl, (HB0.out.trans (HB2.out.mono (by omega))).trans (hb4.mono (by have := HB2.out.size; omega))⟩
      · rw [decide_eq_false hm]
        clear hm
        go_wp2_with (first | (go_at_call 10; refine (awake_any _).mono ?_; rintro e w4 ⟨rfl, hb4⟩))
        go_ret
        exact ⟨rfl, (HB0.out.trans (HB2.out.mono (by omega))).trans (hb4.mono (by have := HB2.out.size; omega))⟩
    · rw [decide_eq_false hl]
      clear hl
      go_wp2_with (first | (go_at_call 10; refine (awake_any _).mono ?_; rintro e w4 ⟨rfl, hb4⟩))
      go_ret
      exact ⟨rfl, (HB0.out.trans (HB1.out.mono (by omega))).trans (hb4.mono (by have := HB1.out.size; omega))⟩
theorem turned_row (p s : Int) (A : Option Addr) (c : Nat) (d : List UInt8) (at_ x : Int) (hx : (Lit.int .u8 x).wf = true) (w : World) (hr : RB w w.heap.size A d) :
    Calls Try.prog 8 #[.agg #[.int .i64 p, .int .i64 s, .slice A d.length c], .int .i64 at_, .int .u8 x] w (Holds w) := by
  rw [ub_of hx]
  exact turned_any p s A c d at_ _ w hr
end Go.Proofs.Ytfjijpejoocngaa
