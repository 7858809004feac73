/- The laws of package block: awake; BlockOne. -/
import Derived.Test.YteghegojhhoppaaBlkLand
namespace Go.Proofs.Yteghegojhhoppaa
open Go.RowKit

/-- The law's answer: yes; what was there has not turned. -/
def Holds (w : World) (e : Ending) (w' : World) : Prop := e = .returned (.bool true) ∧ Below w.heap.size w w'
theorem u64_rng (x : Int) : 0 ≤ IntKind.u64.wrap x ∧ IntKind.u64.wrap x ≤ 18446744073709551615 := by
  have e : IntKind.u64.wrap x = x % 18446744073709551616 := by unfold IntKind.wrap; rfl
  rw [e]; omega
theorem wf_of {x : Int} (h : -9223372036854775808 ≤ x ∧ x ≤ 9223372036854775807) : (Lit.int .i64 x).wf = true := by
  have h0 : IntKind.min .i64 = -9223372036854775808 := by decide
  have h1 : IntKind.max .i64 = 9223372036854775807 := by decide
  simpa [Lit.wf, h0, h1] using h
theorem cells4 {w : World} {p : Nat} {a b c d : Value} {t : TypeId} (h : w.heap[p]? = some (.cells #[a, b, c, d] t (0, 0))) : w.cell? ⟨p, 0, none⟩ = some a ∧ w.cell? ⟨p, 1, none⟩ = some b ∧ w.cell? ⟨p, 2, none⟩ = some c ∧ w.cell? ⟨p, 3, none⟩ = some d := by
  simp [World.cell?, h]
/-- The three blocks that every program must know. -/
def awL : List Bk := [⟨false, 0, 0, []⟩, ⟨false, 1, 3, []⟩, ⟨true, 0, 0, []⟩]
def AwAt (w : World) (g : Nat) : Prop := w.heap[g]? = some (.cells #[.bool false, .int .i64 0, .int .i64 0, .slice none 0 0, .bool false, .int .i64 1, .int .i64 3, .slice none 0 0, .bool true, .int .i64 0, .int .i64 0, .slice none 0 0] 27 (0, 0))
theorem AwAt.cells {w : World} {g : Nat} (h : AwAt w g) : (w.cell? ⟨g, 0, none⟩ = some (.bool false) ∧ w.cell? ⟨g, 1, none⟩ = some (.int .i64 0) ∧ w.cell? ⟨g, 2, none⟩ = some (.int .i64 0) ∧ w.cell? ⟨g, 3, none⟩ = some (.slice none 0 0)) ∧ w.cell? ⟨g, 4, none⟩ = some (.bool false) ∧ w.cell? ⟨g, 5, none⟩ = some (.int .i64 1) ∧ w.cell? ⟨g, 6, none⟩ = some (.int .i64 3) ∧ w.cell? ⟨g, 7, none⟩ = some (.slice none 0 0) := by
  unfold AwAt at h
  simp [World.cell?, h]
theorem AwAt.lies {w : World} {g : Nat} (h : AwAt w g) : BLies w (some ⟨g, 0, none⟩) awL := fun _ => by
  refine ⟨g, 0, rfl, lt_size h, fun j hj => ?_⟩
  unfold AwAt at h
  match j, hj with
  | 0, _ => exact ⟨by simp [World.cell?, h, awL], by simp [World.cell?, h, awL], by simp [World.cell?, h, awL], none, 0, 0, by simp [World.cell?, h]⟩
  | 1, _ => exact ⟨by simp [World.cell?, h, awL], by simp [World.cell?, h, awL], by simp [World.cell?, h, awL], none, 0, 0, by simp [World.cell?, h]⟩
  | 2, _ => exact ⟨by simp [World.cell?, h, awL], by simp [World.cell?, h, awL], by simp [World.cell?, h, awL], none, 0, 0, by simp [World.cell?, h]⟩
theorem AwAt.below {w w' : World} {g : Nat} (h : AwAt w g) (hb : Below w.heap.size w w') : AwAt w' g := (hb.block g (lt_size h)).trans h
theorem ia_cell0 {w : World} {A : Option Addr} {x : Int} {xs : List Int} (h : IA w A (x :: xs)) : ∃ B o, A = some ⟨B, o, none⟩ ∧ w.cell? ⟨B, o, none⟩ = some (.int .i64 x) ∧ B < w.heap.size := by
  obtain ⟨B, o, e, hB, hc⟩ := h (by simp)
  have h0 := hc 0 (by simp)
  rw [Nat.add_zero] at h0
  exact ⟨B, o, e, h0, hB⟩
set_option maxRecDepth 100000 in
set_option maxHeartbeats 4000000 in
theorem awake_any (w : World) : Calls Try.prog 6 #[] w (Holds w) := by
  obtain ⟨w0, hw0⟩ : ∃ w0, w0 = w.alloc (.cells #[.bool false, .int .i64 0, .int .i64 0, .slice none 0 0, .bool false, .int .i64 1, .int .i64 3, .slice none 0 0, .bool true, .int .i64 0, .int .i64 0, .slice none 0 0] 27) := ⟨_, rfl⟩
  have HA0 : Hid (AwAt w0 w.heap.size) := Lib.hid (by rw [hw0]; exact heap_alloc_new w _)
  have HB0 : Hid (Below w.heap.size w w0) := Lib.hid (by rw [hw0]; exact (Below.refl _ w).alloc (Nat.le_refl _) _)
  go_enter Try.func6, Try.ntmps6
  go_wp2_with fail
  rw [← hw0]
  clear hw0
  refine (cleans_any (some ⟨w.heap.size, 0, none⟩) 3 awL w0 (by decide) HA0.out.lies).mono ?_
  rintro e w1 ⟨A1, c1, rfl, hi1, _, hb1⟩
  rw [show cleansB awL = [0] by decide] at hi1 ⊢
  obtain ⟨B1, o1, rfl, q1, hB1⟩ := ia_cell0 hi1
  have HA1 := Lib.hid (HA0.out.below hb1)
  have HB1 := Lib.hid (HB0.out.trans (hb1.mono HB0.out.size))
  obtain ⟨⟨k0, k1, k2, k3⟩, _⟩ := HA1.out.cells
  clear hi1 hb1
  go_wp2_with fail
  refine (clean_any ⟨false, 0, 0, []⟩ none 0 0 w1).mono ?_
  rintro e w2 ⟨rfl, hb2⟩
  rw [show cleanB ⟨false, 0, 0, []⟩ = true by decide]
  have HA2 := Lib.hid (HA1.out.below hb2)
  have HB2 := Lib.hid (HB1.out.trans (hb2.mono HB1.out.size))
  have q2 := (hb2.cell (p := ⟨B1, o1, none⟩) hB1).trans q1
  have hB2 := Nat.lt_of_lt_of_le hB1 hb2.size
  clear k0 k1 k2 k3 hb2 q1
  obtain ⟨_, k0, k1, k2, k3⟩ := HA2.out.cells
  go_wp2_with fail
  refine (clean_any ⟨false, 1, 3, []⟩ none 0 0 w2).mono ?_
  rintro e w3 ⟨rfl, hb3⟩
  rw [show cleanB ⟨false, 1, 3, []⟩ = false by decide]
  have HA3 := Lib.hid (HA2.out.below hb3)
  have HB3 := Lib.hid (HB2.out.trans (hb3.mono HB2.out.size))
  have q3 := (hb3.cell (p := ⟨B1, o1, none⟩) hB2).trans q2
  have hB3 := Nat.lt_of_lt_of_le hB2 hb3.size
  clear k0 k1 k2 k3 hb3 q2
  go_wp2_with fail
  refine (bad_any (some ⟨w.heap.size, 0, none⟩) 3 awL w3 (by decide) HA3.out.lies).mono ?_
  rintro e w4 ⟨rfl, hb4⟩
  rw [show badB awL = 1 by decide]
  have HA4 := Lib.hid (HA3.out.below hb4)
  have HB4 := Lib.hid (HB3.out.trans (hb4.mono HB3.out.size))
  have q4 := (hb4.cell (p := ⟨B1, o1, none⟩) hB3).trans q3
  clear hb4 q3
  obtain ⟨_, k0, k1, k2, k3⟩ := HA4.out.cells
  go_wp2_with fail
  refine (left_any ⟨false, 1, 3, []⟩ none 0 0 4 w4 (by decide) (by decide)).mono ?_
  rintro e w5 ⟨rfl, hb5⟩
  rw [show leftB ⟨false, 1, 3, []⟩ 4 = 3 by decide]
  have HA5 := Lib.hid (HA4.out.below hb5)
  have HB5 := Lib.hid (HB4.out.trans (hb5.mono HB4.out.size))
  clear k0 k1 k2 k3 hb5 q4
  go_wp2_with fail
  refine (counts_any (some ⟨w.heap.size, 0, none⟩) 3 awL w5 (by decide) HA5.out.lies).mono ?_
  rintro e w6 ⟨A6, c6, rfl, _, _, hb6⟩
  rw [show (awL.map fun b : Bk => b.count).length = 3 by decide]
  have HB6 := Lib.hid (HB5.out.trans (hb6.mono HB5.out.size))
  clear hb6
  go_wp2_with fail
  go_ret
  exact ⟨rfl, HB6.out⟩
theorem left_bad {b : Bk} (h : b.bad = true) (P : Int) : leftB b P = 0 ∧ cleanB b = false := by simp [leftB, cleanB, h]
theorem left_clean {b : Bk} (h : cleanB b = true) {P : Int} (h1 : 1 ≤ P) (h2 : P ≤ 100) : b.bad = false ∧ leftB b P = P := by
  simp [cleanB] at h
  unfold leftB
  rw [h.1, h.2, if_neg (by decide), if_neg (by omega), if_neg (by omega)]
  exact ⟨rfl, by omega⟩
theorem clean_take {l : List Bk} {j : Nat} (h : j < l.length) : (l.take (j + 1)).countP cleanB = (l.take j).countP cleanB + if cleanB l[j] = true then 1 else 0 := by
  rw [List.take_succ_eq_append_getElem h, List.countP_append, List.countP_singleton]
set_option maxRecDepth 100000 in
set_option maxHeartbeats 4000000 in
theorem one8_any (A : Option Addr) (c : Nat) (l : List Bk) (pages : Int) (w : World) (_hc : l.length ≤ maxLen) (hA : BLies w A l) (hw : BWf l) :
    Calls Try.prog 3 #[.slice A l.length c, .int .i64 pages] w (Holds w) := by
  by_cases hl : 100 < l.length
  · clear hA hw
    go_enter Try.func3, Try.ntmps3
    go_wp2_with (go_at_call 6; refine (awake_any _).mono ?_; rintro e w1 ⟨rfl, hb1⟩)
    go_ret
    exact ⟨rfl, hb1⟩
  have HA := Lib.hid hA
  have HW := Lib.hid hw
  have r0 := u64_rng pages
  clear hA hw
  go_enter Try.func3, Try.ntmps3
  go_wp2_with fail
  obtain ⟨P, hP, p1, p2⟩ : ∃ P : Int, 1 + IntKind.u64.wrap pages % 32 = P ∧ 1 ≤ P ∧ P ≤ 32 := ⟨_, rfl, by omega, by omega⟩
  rw [hP]
  have HPw := Lib.hid (show (Lit.int .i64 P).wf = true from wf_of (by omega))
  clear hP r0
  go_loopw [5, 6, 7, 22] (fun v5 v6 v7 v22 wr => ∃ j : Nat, j ≤ l.length ∧ v22 = .int .i64 j ∧ v5 = .int .i64 (badB (l.take j) : Int) ∧ v6 = .int .i64 ((l.take j).countP cleanB : Int) ∧ v7 = .int .i64 ((j : Int) - (badB (l.take j) : Int) - ((l.take j).countP cleanB : Int)) ∧ Below w.heap.size w wr) (fun _ _ _ v22 _ => l.length - (intOf v22).toNat)
  case atStart => exact ⟨0, Nat.zero_le _, rfl, rfl, rfl, rfl, Below.refl _ _⟩
  case round =>
    obtain ⟨j, hj, rfl, rfl, rfl, rfl, hB⟩ := hrel
    have HB := Lib.hid hB
    have hs := hB.size
    clear hB
    by_cases hj1 : j < l.length
    · obtain ⟨B, o, rfl, hBs, hc⟩ := HA.out (by omega)
      obtain ⟨k0, k1, k2, A1, n1, c1, k3⟩ := (hc j hj1).kept (HB.out.block B hBs)
      have HT := Lib.hid (bad_take hj1)
      have HT2 := Lib.hid (clean_take hj1)
      have hle := bad_le (l.take j)
      have hle3 : (l.take j).countP cleanB ≤ (l.take j).length := List.countP_le_length
      have hle2 : (l.take j).length ≤ 100 := by simp; omega
      have HWf := Lib.hid (HW.out _ (List.getElem_mem hj1))
      clear hc
      generalize badB (l.take j) = x at HT hle ⊢
      generalize (l.take j).countP cleanB = y at HT2 hle3 ⊢
      have hx : x ≤ 100 := by omega
      have hy : y ≤ 100 := by omega
      clear hle hle2 hle3
      generalize l[j] = b at k0 k1 k2 HT HT2 HWf
      have HX := Lib.hid (heap_alloc_new wr (.cells #[.bool b.bad, .int .i64 b.next, .int .i64 b.count, .slice A1 n1 c1] 27))
      have HN := Lib.hid (HB.out.alloc HB.out.size (.cells #[.bool b.bad, .int .i64 b.next, .int .i64 b.count, .slice A1 n1 c1] 27))
      have HL := Lib.hid (fun w1 => left_any b A1 n1 c1 P w1 HWf.out HPw.out)
      have HC := Lib.hid (fun w1 => clean_any b A1 n1 c1 w1)
      have hcases : (b.bad = true ∧ leftB b P = 0 ∧ cleanB b = false) ∨ (b.bad = false ∧ leftB b P = P ∧ cleanB b = true) ∨ (b.bad = false ∧ cleanB b = false) := by
        cases hb : b.bad with
        | true => exact .inl ⟨rfl, left_bad hb P⟩
        | false =>
          cases hcl : cleanB b with
          | true => exact .inr (.inl ⟨rfl, (left_clean hcl p1 (by omega)).2, rfl⟩)
          | false => exact .inr (.inr ⟨rfl, rfl⟩)
      rcases hcases with ⟨e1, e2, e3⟩ | ⟨e1, e2, e3⟩ | ⟨e1, e3⟩
      · rw [e2] at HL
        rw [e3] at HC HT2
        rw [e1] at HT
        have E1 := Lib.hid e1
        clear e1 e2 e3
        go_wp2_with (first
          | (go_at_call 7; refine (HL.out _).mono ?_; rintro e w2 ⟨rfl, hb2⟩; have HN2 := Lib.hid (HN.out.trans (hb2.mono HN.out.size)); obtain ⟨m0, m1, m2, m3⟩ := cells4 ((hb2.block _ (by simp)).trans HX.out); rw [E1.out] at m0; have M0 := Lib.hid m0; clear hb2)
          | (go_at_call 8; rw [← E1.out]; refine (HC.out _).mono ?_; rintro e w3 ⟨rfl, hb3⟩; have HN3 := Lib.hid (HN2.out.trans (hb3.mono HN2.out.size)); clear hb3))
        go_roundw
        case rel => exact ⟨j + 1, by omega, by go_num, by rw [HT.out]; go_num, by rw [HT2.out]; go_num, by rw [HT.out, HT2.out]; go_num, HN3.out⟩
        case measure => simp [intOf]; omega
      · rw [e2] at HL
        rw [e3] at HC HT2
        rw [e1] at HT
        have E1 := Lib.hid e1
        clear e1 e2 e3
        go_wp2_with (first
          | (go_at_call 7; refine (HL.out _).mono ?_; rintro e w2 ⟨rfl, hb2⟩; have HN2 := Lib.hid (HN.out.trans (hb2.mono HN.out.size)); obtain ⟨m0, m1, m2, m3⟩ := cells4 ((hb2.block _ (by simp)).trans HX.out); rw [E1.out] at m0; have M0 := Lib.hid m0; clear hb2)
          | (go_at_call 8; rw [← E1.out]; refine (HC.out _).mono ?_; rintro e w3 ⟨rfl, hb3⟩; have HN3 := Lib.hid (HN2.out.trans (hb3.mono HN2.out.size)); clear hb3))
        go_roundw
        case rel => exact ⟨j + 1, by omega, by go_num, by rw [HT.out]; go_num, by rw [HT2.out]; go_num, by rw [HT.out, HT2.out]; go_num, HN3.out⟩
        case measure => simp [intOf]; omega
      · rw [e3] at HC HT2
        rw [e1] at HT
        have E1 := Lib.hid e1
        clear e1 e3
        generalize leftB b P = n at HL
        go_wp2_with (first
          | (go_at_call 7; refine (HL.out _).mono ?_; rintro e w2 ⟨rfl, hb2⟩; have HN2 := Lib.hid (HN.out.trans (hb2.mono HN.out.size)); obtain ⟨m0, m1, m2, m3⟩ := cells4 ((hb2.block _ (by simp)).trans HX.out); rw [E1.out] at m0; have M0 := Lib.hid m0; clear hb2)
          | (go_at_call 8; rw [← E1.out]; refine (HC.out _).mono ?_; rintro e w3 ⟨rfl, hb3⟩; have HN3 := Lib.hid (HN2.out.trans (hb3.mono HN2.out.size)); clear hb3))
        go_roundw
        case rel => exact ⟨j + 1, by omega, by go_num, by rw [HT.out]; go_num, by rw [HT2.out]; go_num, by rw [HT.out, HT2.out]; go_num, HN3.out⟩
        case measure => simp [intOf]; omega
    · obtain rfl : j = l.length := by omega
      have hz := Lib.hid (show l.take l.length = l from List.take_length)
      rw [hz.out]
      have hx := bad_le l
      have hy : l.countP cleanB ≤ l.length := List.countP_le_length
      have HBd : Hid (∀ w1, Below w.heap.size w w1 → Calls Try.prog 9 #[.slice A l.length c] w1 fun e w' => e = .returned (.int .i64 (badB l : Int)) ∧ Below w1.heap.size w1 w') := Lib.hid fun w1 h1 => bad_any A c l w1 (by omega) (HA.out.below h1)
      have HCl : Hid (∀ w1, Below w.heap.size w w1 → Calls Try.prog 10 #[.slice A l.length c] w1 fun e w' => ∃ A2 c2, e = .returned (.slice A2 (l.countP cleanB) c2) ∧ Below w1.heap.size w1 w') := Lib.hid fun w1 h1 => by
        refine (cleans_any A c l w1 (by omega) (HA.out.below h1)).mono ?_
        rintro e w' ⟨A2, c2, rfl, _, _, hb2⟩
        exact ⟨A2, c2, by rw [cleans_len], hb2⟩
      have HGd : Hid (∀ w1, Below w.heap.size w w1 → Calls Try.prog 11 #[.slice A l.length c] w1 fun e w' => ∃ A2 c2, e = .returned (.slice A2 l.length c2) ∧ Below w1.heap.size w1 w') := Lib.hid fun w1 h1 => by
        refine (good_any A c l w1 (by omega) (HA.out.below h1)).mono ?_
        rintro e w' ⟨A2, c2, rfl, _, _, hb2⟩
        exact ⟨A2, c2, by rw [List.length_map], hb2⟩
      generalize badB l = x at *
      generalize l.countP cleanB = y at *
      go_wp2_with (first
        | (go_at_call 9; refine (HBd.out _ HB.out).mono ?_; rintro e w2 ⟨rfl, hb2⟩; have HB2 := Lib.hid (HB.out.trans (hb2.mono HB.out.size)); clear hb2)
        | (go_at_call 10; refine (HCl.out _ HB2.out).mono ?_; rintro e w3 ⟨A3, c3, rfl, hb3⟩; have HB3 := Lib.hid (HB2.out.trans (hb3.mono HB2.out.size)); clear hb3)
        | (go_at_call 11; refine (HGd.out _ HB3.out).mono ?_; rintro e w4 ⟨A4, c4, rfl, hb4⟩; have HB4 := Lib.hid (HB3.out.trans (hb4.mono HB3.out.size)); clear hb4)
        | (go_at_call 6; refine (awake_any _).mono ?_; rintro e w5 ⟨rfl, hb5⟩; have HB5 := Lib.hid (HB4.out.trans (hb5.mono HB4.out.size)); clear hb5))
      go_ret
      exact ⟨rfl, HB5.out⟩
end Go.Proofs.Yteghegojhhoppaa
