/- PoolNil: its walk. -/
import Derived.Test.YtnadcdgpfopcaaaGreatPoJ5
namespace Go.Proofs.YtnadcdgpfopcaaaGreat
open Go.RowKit

attribute [local go_sem] Oper.semAt_some
section
theorem cells6 {V : World} {q : Nat} {a b d e f g : Value} {t : TypeId} (h : V.heap[q]? = some (.cells #[a, b, d, e, f, g] t (0, 0))) : V.cell? ⟨q, 0, none⟩ = some a ∧ V.cell? ⟨q, 1, none⟩ = some b ∧ V.cell? ⟨q, 2, none⟩ = some d ∧ V.cell? ⟨q, 3, none⟩ = some e ∧ V.cell? ⟨q, 4, none⟩ = some f ∧ V.cell? ⟨q, 5, none⟩ = some g := by
  simp [World.cell?, h]
theorem made_first (nb np : Nat) (h1 : 1 ≤ nb) (h2 : 1 ≤ np) : pageL (madeS nb np []) 0 0 = [] := by
  obtain ⟨k, rfl⟩ : ∃ k, nb = k + 1 := ⟨nb - 1, by omega⟩
  obtain ⟨j, rfl⟩ : ∃ j, np = j + 1 := ⟨np - 1, by omega⟩
  rfl
set_option maxRecDepth 100000 in
set_option maxHeartbeats 8000000 in
theorem nil_law (B P Sp K U : Int) (d : Cal) (seq : Int) (w : World) (hr : RB w w.heap.size d.A d.d) : Calls Tryz.prog 5 #[.agg #[.int .i64 B, .int .i64 P, .int .i64 Sp, .int .i64 K, .int .i64 U], .agg #[.int .i64 d.dO, .int .i64 d.n, .int .i64 d.keep, .int .i64 d.page, .slice d.A d.d.length d.c, .slice d.A2 d.pk.length d.c2], .int .i64 seq] w fun e w' => e = .returned (.bool true) ∧ Below w.heap.size w w' := by
  obtain ⟨W1, hW1⟩ : ∃ W1, W1 = w.alloc (.cells #[.int .i64 B, .int .i64 P, .int .i64 Sp, .int .i64 K, .int .i64 U] 23) := ⟨_, rfl⟩
  obtain ⟨W2, hW2⟩ : ∃ W2, W2 = W1.alloc (.cells #[.int .i64 d.dO, .int .i64 d.n, .int .i64 d.keep, .int .i64 d.page, .slice d.A d.d.length d.c, .slice d.A2 d.pk.length d.c2] 41) := ⟨_, rfl⟩
  have hz1 : W1.heap.size = w.heap.size + 1 := by rw [hW1]; simp
  have hb1 : Below w.heap.size w W1 := by rw [hW1]; exact (Below.refl _ _).alloc (Nat.le_refl _) _
  have hb12 : Below W1.heap.size W1 W2 := by rw [hW2]; exact (Below.refl _ _).alloc (Nat.le_refl _) _
  have HB2 : Hid (Below w.heap.size w W2) := Lib.hid (hb1.trans (hb12.mono hb1.size))
  have HX : Hid (W2.heap[w.heap.size]? = some (.cells #[.int .i64 B, .int .i64 P, .int .i64 Sp, .int .i64 K, .int .i64 U] 23 (0, 0))) := Lib.hid ((hb12.block w.heap.size (by omega)).trans (by rw [hW1]; exact heap_alloc_new _ _))
  have HY : Hid (W2.heap[w.heap.size + 1]? = some (.cells #[.int .i64 d.dO, .int .i64 d.n, .int .i64 d.keep, .int .i64 d.page, .slice d.A d.d.length d.c, .slice d.A2 d.pk.length d.c2] 41 (0, 0))) := Lib.hid (by rw [hW2, ← hz1]; exact heap_alloc_new _ _)
  have hz2 : W2.heap.size = w.heap.size + 1 + 1 := by rw [hW2]; simp [hz1]
  obtain ⟨W3, hW3⟩ : ∃ W3, W3 = W2.alloc (.cells #[.int .i64 d.dO, .int .i64 d.n, .int .i64 d.keep, .int .i64 d.page, .slice d.A d.d.length d.c, .slice d.A2 d.pk.length d.c2] 41) := ⟨_, rfl⟩
  have hb23 : Below W2.heap.size W2 W3 := by rw [hW3]; exact (Below.refl _ _).alloc (Nat.le_refl _) _
  have hx3 : W3.heap[w.heap.size + 1 + 1]? = some (.cells #[.int .i64 d.dO, .int .i64 d.n, .int .i64 d.keep, .int .i64 d.page, .slice d.A d.d.length d.c, .slice d.A2 d.pk.length d.c2] 41 (0, 0)) := by rw [hW3, ← hz2]; exact heap_alloc_new _ _
  have HL3 : Hid (CalsLie W3 (some ⟨w.heap.size + 1 + 1, 0, none⟩) [d]) := Lib.hid fun i hi => by
    obtain rfl : i = 0 := by simpa using hi
    obtain ⟨c0, c1, c2, c3, c4, c5⟩ := cells6 hx3
    exact ⟨_, 0, rfl, lt_size hx3, ⟨c0, c1, c2, c3, c4, c5⟩⟩
  have HB23 := Lib.hid hb23
  have HR := Lib.hid hr
  obtain ⟨a0, a1, a2, a3, a4⟩ := cfg5 HX.out
  obtain ⟨c0, c1, c2, c3, c4, c5⟩ := cells6 HY.out
  have HW3 := Lib.hid hW3
  have HW12 := Lib.hid (And.intro hW1 hW2)
  clear hr hb1 hb12 hb23 hx3 hW1 hW2
  go_enter Tryz.func5, Tryz.ntmps5
  go_upto_region 1 with fail
  rw [← HW12.out.1, ← HW12.out.2]
  go_wp2_with fail
  rw [← HW3.out]
  have HKEEP : Hid (∀ V, Below W2.heap.size W2 V → (V.cell? ⟨w.heap.size, 0, none⟩ = some (.int .i64 B) ∧ V.cell? ⟨w.heap.size, 1, none⟩ = some (.int .i64 P) ∧ V.cell? ⟨w.heap.size, 2, none⟩ = some (.int .i64 Sp) ∧ V.cell? ⟨w.heap.size, 3, none⟩ = some (.int .i64 K) ∧ V.cell? ⟨w.heap.size, 4, none⟩ = some (.int .i64 U)) ∧ V.cell? ⟨w.heap.size + 1, 3, none⟩ = some (.int .i64 d.page) ∧ V.cell? ⟨w.heap.size + 1, 4, none⟩ = some (.slice d.A d.d.length d.c)) := Lib.hid fun V hV => by
    obtain ⟨-, -, -, e3, e4, -⟩ := cells6 ((hV.block _ (by omega)).trans HY.out)
    exact ⟨cfg5 ((hV.block _ (by omega)).trans HX.out), e3, e4⟩
  clear a0 a1 a2 a3 a4 c0 c1 c2 c3 c4 c5
  refine (heavy_calls B P Sp K U _ 1 [d] W3 HL3.out (by unfold maxLen; simp)).mono ?_
  rintro e w4 ⟨k, rfl, hk, hb4⟩
  have HB4 : Hid (Below W2.heap.size W2 w4) := Lib.hid (HB23.out.trans (hb4.mono HB23.out.size))
  have hs2 := HB2.out.size
  have hs4 := HB4.out.size
  clear hb4
  by_cases hkp : 0 < k
  · go_wp2_with (first
      | (go_at_call 10; refine (awake_any _).mono ?_; rintro e w5 ⟨rfl, hb5⟩; have HB5 := Lib.hid (HB4.out.trans (hb5.mono hs4)); clear hb5)
      | fail)
    go_ret
    exact ⟨rfl, HB2.out.trans (HB5.out.mono hs2)⟩
  · obtain ⟨hB24, hP8, -, -⟩ := hk (by omega)
    clear hk
    obtain ⟨-, c3, c4⟩ := HKEEP.out w4 HB4.out
    go_upto_region 6 with (first
      | (go_at_call 12; refine (q_undo_nil _).mono ?_; rintro e w5 ⟨rfl, hw⟩; obtain rfl := hw)
      | (go_at_call 25; refine (pput_nil d.page d.A d.d.length d.c _).mono ?_; rintro e w5 ⟨rfl, hb5⟩; have HB5 := Lib.hid (HB4.out.trans (hb5.mono hs4)); clear hb5)
      | fail)
    obtain ⟨W6, hW6⟩ : ∃ W6, W6 = w5.alloc (.cells #[.int .i64 0, .int .i64 0] 33) := ⟨_, rfl⟩
    have HB6 : Hid (Below W2.heap.size W2 W6) := Lib.hid (by rw [hW6]; exact HB5.out.alloc HB5.out.size _)
    have hx6 : W6.heap[w5.heap.size]? = some (.cells #[.int .i64 0, .int .i64 0] 33 (0, 0)) := by rw [hW6]; exact heap_alloc_new _ _
    obtain ⟨r0, r1, -, -⟩ := cells2q hx6
    clear c3 c4
    obtain ⟨⟨a0, a1, a2, a3, a4⟩, c3, c4⟩ := HKEEP.out W6 HB6.out
    rw [← hW6]
    have HW6 := Lib.hid hW6
    clear hW6 hx6
    go_wp2_with (first
      | (go_at_call 26; (with_reducible refine (pread_nil (0, 0) _).mono ?_); rintro e w7 ⟨rfl, hb7⟩; have HB7 := Lib.hid (HB6.out.trans (hb7.mono HB6.out.size)); clear hb7 r0 r1 a0 a1 a2 a3 a4 c3 c4; obtain ⟨⟨a0, a1, a2, a3, a4⟩, c3, c4⟩ := HKEEP.out w7 HB7.out)
      | (go_at_call 27; (with_reducible refine (open_unsuited (.pointer none) B P Sp K U 0 seq none 0 0 w7 (fun V _ => suits_nil B P Sp K U 0 rfl V)).mono ?_); rintro e w8 ⟨rfl, hb8⟩; have HB8 := Lib.hid (HB7.out.trans (hb8.mono HB7.out.size)); clear hb8 a0 a1 a2 a3 a4 c3 c4; obtain ⟨⟨a0, a1, a2, a3, a4⟩, c3, c4⟩ := HKEEP.out w8 HB8.out)
      | (go_at_call 28; (with_reducible refine (pseal_nil d.A none d.d.length d.c 0 0 _).mono ?_); rintro e w9 ⟨rfl, hb9⟩; have HB9 := Lib.hid (HB8.out.trans (hb9.mono HB8.out.size)); clear hb9 a0 a1 a2 a3 a4 c3 c4; obtain ⟨⟨a0, a1, a2, a3, a4⟩, c3, c4⟩ := HKEEP.out w9 HB9.out)
      | (go_at_call 29; (with_reducible refine (plive_nil _).mono ?_); rintro e w10 ⟨rfl, hw⟩; obtain rfl := hw)
      | (go_at_call 30; (with_reducible refine (pnew_nil _).mono ?_); rintro e w10 ⟨rfl, hw⟩; obtain rfl := hw)
      | (go_at_call 31; (with_reducible refine (pseq_nil _).mono ?_); rintro e w10 ⟨rfl, hw⟩; obtain rfl := hw)
      | (go_at_call 32; (with_reducible refine (pbads_nil _).mono ?_); rintro e w10 ⟨rfl, hw⟩; obtain rfl := hw)
      | (go_at_call 33; (with_reducible refine (pover_nil _).mono ?_); rintro e w11 ⟨rfl, hb11⟩; have HB11 := Lib.hid (HB9.out.trans (hb11.mono HB9.out.size)); clear hb11 a0 a1 a2 a3 a4 c3 c4; obtain ⟨⟨a0, a1, a2, a3, a4⟩, c3, c4⟩ := HKEEP.out w11 HB11.out)
      | fail)
    have hs11 := HB11.out.size
    by_cases hc : 1 ≤ B ∧ 1 ≤ P
    · obtain ⟨nb, rfl⟩ : ∃ nb : Nat, B = (nb : Int) := ⟨B.toNat, by omega⟩
      obtain ⟨np, rfl⟩ : ∃ np : Nat, P = (np : Int) := ⟨P.toNat, by omega⟩
      have hn1 : 1 ≤ nb := by omega
      have hn2 : nb ≤ 24 := by omega
      have hp1 : 1 ≤ np := by omega
      have hp2 : np ≤ 8 := by omega
      clear hc
      go_wp2_with (first
        | (go_at_call 34; refine (held_new nb np none 0 [] (fun h => absurd h (by simp)) (by simp) hn1 (by omega) hp1 (by omega)).mono ?_; rintro e w12 ⟨ch, rfl, hH, hB⟩; have HH := Lib.hid hH; have HB12 := Lib.hid (HB11.out.trans (hB.mono hs11)); clear hH hB a0 a1 a2 a3 a4 c3 c4; obtain ⟨⟨a0, a1, a2, a3, a4⟩, c3, c4⟩ := HKEEP.out w12 HB12.out)
        | fail)
      obtain ⟨W13, hW13⟩ : ∃ W13, W13 = w12.alloc (.cells #[.int .i64 1, .int .i64 1, .int .i64 0, .int .i64 0] 71) := ⟨_, rfl⟩
      have hb13 : Below w12.heap.size w12 W13 := by rw [hW13]; exact (Below.refl _ _).alloc (Nat.le_refl _) _
      have HB13 : Hid (Below W2.heap.size W2 W13) := Lib.hid (HB12.out.trans (hb13.mono HB12.out.size))
      have hx13 : W13.heap[w12.heap.size]? = some (.cells #[.int .i64 1, .int .i64 1, .int .i64 0, .int .i64 0] 71 (0, 0)) := by rw [hW13]; exact heap_alloc_new _ _
      have HF13 : Hid (FLies W13 (some ⟨w12.heap.size, 0, none⟩) [((1, 1), (0, 0))]) := Lib.hid fun _ => ⟨_, 0, rfl, lt_size hx13, fun j hj => by
        obtain rfl : j = 0 := by simpa using hj
        simp [World.cell?, hx13]⟩
      have HH13 := Lib.hid (HH.out.below hb13)
      have hl : (madeS nb np []).bl.length = nb := by simp [madeS, badL_length, newS]
      have hbl0 : ∀ (S' : LS), S'.bl = (madeS nb np []).bl → ∀ (h : 1 ≤ S'.bl.length), (S'.bl[0]'h).pages.length = np := by
        intro S' e h
        have : S'.bl[0]'h = newBk np := by simp [e, madeS, badL, newS]
        rw [this]; simp [newBk]
      have hrd : (rdL (madeS nb np []) 0 0).1 = [] ∧ (rdL (madeS nb np []) 0 0).2.1 ≠ 2 := by
        have hh : hasL (madeS nb np []) 0 0 = true := by
          unfold hasL
          rw [hl]
          show decide (0 ≤ (0 : Int) ∧ (0 : Int) < (nb : Int) ∧ 0 ≤ (0 : Int) ∧ (0 : Int) < (np : Int)) = true
          simp; omega
        unfold rdL
        rw [if_neg (by rw [hh]; simp), if_neg (by simp [madeS, newS])]
        refine ⟨?_, by simp⟩
        exact made_first nb np hn1 hp1
      have HOP : Hid (Calls Tryz.prog 27 #[.pointer (some ⟨ch, 0, none⟩), .agg #[.int .i64 nb, .int .i64 np, .int .i64 Sp, .int .i64 K, .int .i64 U], .int .i64 0, .slice (some ⟨w12.heap.size, 0, none⟩) 1 1, .int .i64 seq] W13 fun e w' => e = .returned (.tuple #[.pointer none, .int .i64 1]) ∧ Safe (fun b => b < w11.heap.size) W13 w') := Lib.hid (by
        by_cases hf : FitsP nb np Sp K U 0
        · refine open_empty nb np Sp K U seq _ 1 ((1, 1), (0, 0)) HH13.out (fun V S' hV e => ?_) HF13.out (fun e => by cases e) ⟨rfl, rfl⟩ hrd.1 hrd.2
          have h1 : 1 ≤ S'.bl.length := by rw [e, hl]; exact hn1
          exact q_suits nb np Sp K U 0 hV h1 (by rw [e, hl]; omega) rfl hf (by rw [e, hl]) (by rw [hbl0 S' e h1]) (by have := bad_le S'.bl; omega)
        · refine (open_unsuited _ nb np Sp K U 0 seq _ 1 1 W13 (fun V hV => suits_nofit _ nb np Sp K U 0 V (fun V' hV' => ?_) rfl hf)).mono fun e w' h => ⟨h.1, safe_of_below h.2⟩
          refine (held_blocks_n ((HH13.out.below hV).below hV') (by rw [hl]; exact hn1)).mono ?_
          rintro e w' ⟨g, cap, rfl, -, -, hb⟩
          exact ⟨_, _, _, rfl, hb⟩)
      have HW13 := Lib.hid hW13
      clear hW13 hb13 hx13 hl hbl0 hrd
      go_wp2_with fail
      rw [← HW13.out]
      refine HOP.out.mono ?_
      rintro e w14 ⟨rfl, hs14⟩
      have HS14 := Lib.hid hs14
      clear hs14
      go_wp2_with (first
        | (go_at_call 10; (with_reducible refine (awake_any _).mono ?_); rintro e w15 ⟨rfl, hb15⟩; have HB15 := Lib.hid hb15; clear hb15)
        | fail)
      go_ret
      have k1 := HB2.out.trans (HB13.out.mono hs2)
      have k2 : Below w.heap.size w w14 := ⟨HS14.out.os.trans k1.os, HS14.out.tape.trans k1.tape, HS14.out.output.trans k1.output, Nat.le_trans k1.size HS14.out.size, fun b hb => (HS14.out.block (Nat.lt_of_lt_of_le hb k1.size) (by show b < w11.heap.size; omega)).trans (k1.block b hb)⟩
      exact ⟨rfl, k2.trans (HB15.out.mono k2.size)⟩
    · have hno : ¬ (1 ≤ B ∧ B ≤ 64 ∧ 1 ≤ P ∧ P ≤ 32) := fun h => hc ⟨h.1, h.2.2.1⟩
      clear hc
      go_wp2_with (first
        | (go_at_call 34; (with_reducible refine (new_no B P none 0 0 hno).mono ?_); rintro e w12 ⟨rfl, hb12⟩; have HB12 := Lib.hid (HB11.out.trans (hb12.mono hs11)); clear hb12 a0 a1 a2 a3 a4 c3 c4; obtain ⟨⟨a0, a1, a2, a3, a4⟩, c3, c4⟩ := HKEEP.out w12 HB12.out)
        | fail)
      obtain ⟨W13, hW13⟩ : ∃ W13, W13 = w12.alloc (.cells #[.int .i64 1, .int .i64 1, .int .i64 0, .int .i64 0] 71) := ⟨_, rfl⟩
      have HB13 : Hid (Below W2.heap.size W2 W13) := Lib.hid (by rw [hW13]; exact HB12.out.alloc HB12.out.size _)
      have HW13 := Lib.hid hW13
      clear hW13
      go_wp2_with fail
      rw [← HW13.out]
      refine (open_unsuited (.pointer none) B P Sp K U 0 seq _ 1 1 W13 (fun V _ => suits_nil B P Sp K U 0 rfl V)).mono ?_
      rintro e w14 ⟨rfl, hb14⟩
      have HB14 := Lib.hid (HB13.out.trans (hb14.mono HB13.out.size))
      clear hb14
      go_wp2_with (first
        | (go_at_call 10; (with_reducible refine (awake_any _).mono ?_); rintro e w15 ⟨rfl, hb15⟩; have HB15 := Lib.hid (HB14.out.trans (hb15.mono HB14.out.size)); clear hb15)
        | fail)
      go_ret
      exact ⟨rfl, HB2.out.trans (HB15.out.mono hs2)⟩
end
end Go.Proofs.YtnadcdgpfopcaaaGreat
