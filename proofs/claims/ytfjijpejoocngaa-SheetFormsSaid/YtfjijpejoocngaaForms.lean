/- SheetForms: any sheet, any bytes, any numbers: what is told is what the reference tells: the law's walk (its drawn region written by forms.py). -/
import Derived.Test.YtfjijpejoocngaaRegVal
import Derived.Test.YtfjijpejoocngaaRefParse
import Derived.Deep.CutBlock
import Derived.Deep.DeepCutAuto
namespace Go.Proofs.Ytfjijpejoocngaa
open Go.RowKit

/-- Whoever parses l tells the same. -/
theorem parse_uni (l : List UInt8) : ∃ (p s : Int) (d : List UInt8) (er : Int), ∀ w e w', ParsePost l w e w' → Below w.heap.size w w' ∧ ∃ (A : Option Addr) (c : Nat), RB w' w'.heap.size A d ∧ e = .returned (.tuple #[.agg #[.int .i64 p, .int .i64 s, .slice A d.length c], .int .i64 er]) := by
  by_cases h : ∃ (p s : Int) (d : List UInt8), MayS p s d ∧ l = sheetL p.toNat s.toNat d
  · obtain ⟨p, s, d, hM, hl⟩ := h
    refine ⟨p, s, d, 0, ?_⟩
    rintro w e w' ⟨hb, ⟨p', s', A, c, d', hl', hM', hr, rfl⟩ | ⟨hn, rfl⟩⟩
    · obtain ⟨rfl, rfl, rfl⟩ := sheet_inj hM hM'.out (by rw [← hl, ← hl'.out])
      exact ⟨hb, A, c, hr, rfl⟩
    · exact absurd hl (hn.out p s d hM)
  · refine ⟨0, 0, [], 5, ?_⟩
    rintro w e w' ⟨hb, ⟨p', s', A, c, d', hl', hM', hr, rfl⟩ | ⟨hn, rfl⟩⟩
    · exact absurd ⟨p', s', d', hM'.out, hl'.out⟩ h
    · exact ⟨hb, none, 0, .nil, rfl⟩
set_option maxRecDepth 100000 in
set_option maxHeartbeats 8000000 in
theorem forms_any (p s : Int) (A : Option Addr) (c : Nat) (d : List UInt8) (A' : Option Addr) (c' : Nat) (l : List UInt8) (n m : Int) (w : World) (hr : RB w w.heap.size A d) (hr' : RB w w.heap.size A' l) (hc' : l.length ≤ c') :
    Calls Try.prog 3 #[.agg #[.int .i64 p, .int .i64 s, .slice A d.length c], .slice A' l.length c', .int .i64 n, .int .i64 m] w (Holds w) := by
  obtain ⟨W0, hW0⟩ : ∃ W0, W0 = w.alloc (.cells #[.int .i64 p, .int .i64 s, .slice A d.length c] 24) := ⟨_, rfl⟩
  have HB0 : Hid (Below w.heap.size w W0) := by rw [hW0]; exact (Below.refl _ _).alloc (Nat.le_refl _) _
  have C0 : Hid (W0.heap[w.heap.size]? = some (.cells #[.int .i64 p, .int .i64 s, .slice A d.length c] 24 (0, 0))) := by rw [hW0]; exact heap_alloc_new w _
  have hz0 : W0.heap.size = w.heap.size + 1 := by rw [hW0]; simp
  have D0 := Lib.hid (hr.below HB0.out (Nat.le_refl _))
  have F0 := Lib.hid (hr'.below HB0.out (Nat.le_refl _))
  clear hr hr'
  by_cases hlight : d.length ≤ 3000 ∧ l.length ≤ 3000
  case neg =>
    have HN := Lib.hid hlight
    clear hlight
    go_enter Try.func3, Try.ntmps3
    go_wp2_with fail
    rw [← hW0, show w.heap.size + 1 = W0.heap.size by omega]
    refine (light1_any W0.heap.size 1 p s A d.length c _ (heap_alloc_new W0 _)).mono ?_
    rintro e w1 ⟨rfl, hb1⟩
    have HB1 := Lib.hid (((Below.refl W0.heap.size W0).alloc (Nat.le_refl _) _).trans (hb1.mono (by simp)))
    clear hb1
    by_cases hl : d.length ≤ 3000
    · rw [decide_eq_true hl]
      have hl2 : ¬ (l.length : Int) ≤ 3000 := fun h => HN.out ⟨hl, by omega⟩
      have hl3 : (3000 : Int) < (l.length : Int) := by omega
      clear hl hl2
      go_wp2_with (first | (go_at_call 10; refine (awake_any _).mono ?_; rintro e w4 ⟨rfl, hb4⟩))
      go_ret
      exact ⟨rfl, (HB0.out.trans (HB1.out.mono (by omega))).trans (hb4.mono (by have := HB1.out.size; omega))⟩
    · rw [decide_eq_false hl]
      clear hl
      go_wp2_with (first | (go_at_call 10; refine (awake_any _).mono ?_; rintro e w4 ⟨rfl, hb4⟩))
      go_ret
      exact ⟨rfl, (HB0.out.trans (HB1.out.mono (by omega))).trans (hb4.mono (by have := HB1.out.size; omega))⟩
  obtain ⟨hl1, hl2⟩ := hlight
  obtain ⟨P, Q, D, ER, hpu⟩ := parse_uni l
  have HPU := Lib.hid hpu
  have HL := Lib.hid hl1
  obtain ⟨E, hE0⟩ : ∃ E : Int, E = (if MayS p s d then 0 else 1) := ⟨_, rfl⟩
  have HE := Lib.hid hE0
  clear hpu hE0 hl1
  go_enter Try.func3, Try.ntmps3
  go_wp2_with fail
  rw [← hW0, show w.heap.size + 1 = W0.heap.size by omega]
  refine (light1_any W0.heap.size 1 p s A d.length c _ (heap_alloc_new W0 _)).mono ?_
  rintro e w1 ⟨rfl, hb1⟩
  rw [decide_eq_true HL.out]
  have HB1 := Lib.hid (((Below.refl W0.heap.size W0).alloc (Nat.le_refl _) _).trans (hb1.mono (by simp)))
  clear hb1
  obtain ⟨k0, k1, k2⟩ := cells3 ((HB1.out.block w.heap.size (lt_size C0.out)).trans C0.out)
  go_wp2_with fail
  refine (bytes_any w.heap.size p s A c d _ (D0.out.below HB1.out (by omega)) (by have := HB1.out.size; omega)).mono ?_
  rintro e w3 ⟨A3, c3, L3, er, rfl, hL3, her, _, hr3, _, hb3⟩
  rw [← HE.out] at her
  obtain rfl : E = er := her.symm
  have HL3 := Lib.hid hL3.out
  have HB3 := Lib.hid (HB1.out.trans (hb3.mono HB1.out.size))
  have R33 := Lib.hid hr3
  clear hL3 hr3 hb3 k0 k1 k2
  obtain ⟨k0, k1, k2⟩ := cells3 ((HB3.out.block w.heap.size (lt_size C0.out)).trans C0.out)
  go_wp2_with fail
  refine (refsheet_any w.heap.size p s A c d _ (D0.out.below HB3.out (by omega)) (by have := HB3.out.size; omega)).mono ?_
  rintro e w4 ⟨A4, c4, L4, er, rfl, hL4, her, _, hr4, _, hb4⟩
  rw [← HE.out] at her
  obtain rfl : E = er := her.symm
  have hE : Hid (decide (L3 = L4) = true) := decide_eq_true (HL3.out.trans hL4.out.symm)
  have HB4 := Lib.hid (HB3.out.trans (hb4.mono HB3.out.size))
  have R34 := Lib.hid ((R33.out.below hb4 (Nat.le_refl _)).mono hb4.size)
  have R44 := Lib.hid hr4
  have s4 := HB4.out.size
  clear hL4 hr4 hb4 k0 k1 k2
  go_wp2_with fail
  refine (parse_sheet w.heap.size A' c' l _ (F0.out.below HB4.out (by omega)) (by omega) (by omega)).mono ?_
  intro e w5 hp5
  obtain ⟨hb5, A5, c5, hr5, rfl⟩ := HPU.out _ _ _ hp5
  have s5 := hb5.size
  obtain ⟨W5, hW5⟩ : ∃ W5, W5 = w5.alloc (.cells #[.int .i64 P, .int .i64 Q, .slice A5 D.length c5] 24) := ⟨_, rfl⟩
  have HB5 : Hid (Below w4.heap.size w4 W5) := by rw [hW5]; exact hb5.alloc s5 _
  have T15 : Hid (W5.heap[w5.heap.size]? = some (.cells #[.int .i64 P, .int .i64 Q, .slice A5 D.length c5] 24 (0, 0))) := by rw [hW5]; exact heap_alloc_new w5 _
  have Q55 : Hid (RB W5 W5.heap.size A5 D) := by rw [hW5]; exact (hr5.alloc (Nat.le_refl _) _).mono (by simp)
  have s6 := HB5.out.size
  have HT5 := Lib.hid (HB4.out.trans (HB5.out.mono s4))
  clear hp5 hb5 hr5
  go_wp2_with fail
  rw [← hW5]
  refine (refparse_sheet w.heap.size A' c' l _ (F0.out.below HT5.out (by omega)) (by omega) hc' (by omega)).mono ?_
  intro e w6 hp6
  obtain ⟨hb6, A6, c6, hr6, rfl⟩ := HPU.out _ _ _ hp6
  have s7 := hb6.size
  obtain ⟨W8, hW8⟩ : ∃ W8, W8 = w6.alloc (.cells #[.int .i64 P, .int .i64 Q, .slice A6 D.length c6] 24) := ⟨_, rfl⟩
  have HB8 : Hid (Below W5.heap.size W5 W8) := by rw [hW8]; exact hb6.alloc s7 _
  have T28 : Hid (W8.heap[w6.heap.size]? = some (.cells #[.int .i64 P, .int .i64 Q, .slice A6 D.length c6] 24 (0, 0))) := by rw [hW8]; exact heap_alloc_new w6 _
  have T18 := Lib.hid ((HB8.out.block w5.heap.size (lt_size T15.out)).trans T15.out)
  have Q6 : Hid (RB W8 W8.heap.size A6 D) := by rw [hW8]; exact (hr6.alloc (Nat.le_refl _) _).mono (by simp)
  have Q5 := Lib.hid ((Q55.out.below HB8.out (Nat.le_refl _)).mono HB8.out.size)
  have HT8 := Lib.hid (HT5.out.trans (HB8.out.mono (by omega)))
  have C8 := Lib.hid ((HT8.out.block w.heap.size (lt_size C0.out)).trans C0.out)
  have D8 := Lib.hid (D0.out.below HT8.out (by omega))
  have HW : Hid (w.heap.size ≤ W8.heap.size) := Nat.le_trans (by omega) HT8.out.size
  have HB48 := Lib.hid (HB5.out.trans (HB8.out.mono s6))
  have R3 := Lib.hid ((R34.out.below HB48.out (Nat.le_refl _)).mono HB48.out.size)
  have R4 := Lib.hid ((R44.out.below HB48.out (Nat.le_refl _)).mono HB48.out.size)
  clear hp6 hb6 hr6
  go_upto_region 9 with (first
    | (go_at_call 15; refine (split_any _ _).mono ?_; rintro e w' ⟨rfl, rfl⟩)
    | (go_at_call 16; refine (splitpage_any _ _).mono ?_; rintro e w' ⟨rfl, rfl⟩))
  rw [← hW8]
  refine region_inv (fun j v _ => v = (match j with | 0 => .slice A3 L3.length c3 | 1 => .string (strOf (L3)) | 2 => .slice A4 L4.length c4 | 3 => .string (strOf (L4)) | 4 => .bool true | 5 => .bool true | 6 => .int .i64 E | 7 => .int .i64 E | 8 => .bool true | 9 => .bool true | 10 => .bool true | 11 => .agg #[.int .i64 P, .int .i64 Q, .slice A5 D.length c5] | 12 => .agg #[.int .i64 P, .int .i64 Q, .slice A6 D.length c6] | 13 => .bool true | 14 => .bool true | 15 => .bool true | 16 => .int .i64 ER | 17 => .int .i64 ER | 18 => .bool true | 19 => .bool true | 20 => .bool true | 21 => .agg #[.int .i64 p, .int .i64 s, .slice A d.length c] | 22 => .bool (decide (MayS p s d)) | 23 => .agg #[.int .i64 p, .int .i64 s, .slice A d.length c] | 24 => .bool (decide (MayS p s d)) | 25 => .bool true | 26 => .bool true | 27 => .bool true | 28 => .int .i64 n | 29 => .int .i64 m | 30 => .int .i64 (numS n m) | 31 => .int .i64 n | 32 => .int .i64 m | 33 => .int .i64 (numS n m) | 34 => .bool true | 35 => .bool true | 36 => .bool true | 37 => .int .i64 (splitS n).1 | 38 => .int .i64 (splitS n).1 | 39 => .bool true | 40 => .bool true | 41 => .bool true | 42 => .int .i64 (splitS n).2 | 43 => .int .i64 (splitS n).2 | 44 => .bool true | 45 => .bool true | 46 => .bool true | 47 => .bool true | 48 => .bool true | 49 => .bool true | _ => undef)) (fun w' => Below W8.heap.size W8 w') (fun _ _ => True) (by kernel_rfl) (by kernel_rfl) (by kernel_rfl) (fun _ _ _ _ h _ => h) (Below.refl _ _).drew ?_ ?_
  · refine OpsOk.cons ?o0 (OpsOk.cons ?o1 (OpsOk.cons ?o2 (OpsOk.cons ?o3 (OpsOk.cons ?o4 (OpsOk.cons ?o5 (OpsOk.cons ?o6 (OpsOk.cons ?o7 (OpsOk.cons ?o8 (OpsOk.cons ?o9 (OpsOk.cons ?o10 (OpsOk.cons ?o11 (OpsOk.cons ?o12 (OpsOk.cons ?o13 (OpsOk.cons ?o14 (OpsOk.cons ?o15 (OpsOk.cons ?o16 (OpsOk.cons ?o17 (OpsOk.cons ?o18 (OpsOk.cons ?o19 (OpsOk.cons ?o20 (OpsOk.cons ?o21 (OpsOk.cons ?o22 (OpsOk.cons ?o23 (OpsOk.cons ?o24 (OpsOk.cons ?o25 (OpsOk.cons ?o26 (OpsOk.cons ?o27 (OpsOk.cons ?o28 (OpsOk.cons ?o29 (OpsOk.cons ?o30 (OpsOk.cons ?o31 (OpsOk.cons ?o32 (OpsOk.cons ?o33 (OpsOk.cons ?o34 (OpsOk.cons ?o35 (OpsOk.cons ?o36 (OpsOk.cons ?o37 (OpsOk.cons ?o38 (OpsOk.cons ?o39 (OpsOk.cons ?o40 (OpsOk.cons ?o41 (OpsOk.cons ?o42 (OpsOk.cons ?o43 (OpsOk.cons ?o44 (OpsOk.cons ?o45 (OpsOk.cons ?o46 (OpsOk.cons ?o47 (OpsOk.cons ?o48 (OpsOk.cons ?o49 OpsOk.nil)))))))))))))))))))))))))))))))))))))))))))))))))
    case o0 =>
      intro a w1 K hG need old hsz hK
      exact op_value (v := .slice A3 L3.length c3) (wanted_none rfl) (run_move (.tmp 9) rfl (show a.eval (.tmp 9) = .slice A3 L3.length c3 from old 9 (by kernel_rfl))) (hK _ w1 rfl hG trivial)
    case o1 =>
      intro a w1 K hG need old hsz hK
      exact op_value (v := .string (strOf (L3))) (wanted_none rfl) (run_cv (.tmp 61) rfl (show a.eval (.tmp 61) = .slice A3 L3.length c3 from need 0 61 (by kernel_rfl) (by kernel_rfl)) (R3.out.below hG (Nat.le_refl _)) rfl) (hK _ w1 rfl hG trivial)
    case o2 =>
      intro a w1 K hG need old hsz hK
      exact op_value (v := .slice A4 L4.length c4) (wanted_none rfl) (run_move (.tmp 11) rfl (show a.eval (.tmp 11) = .slice A4 L4.length c4 from old 11 (by kernel_rfl))) (hK _ w1 rfl hG trivial)
    case o3 =>
      intro a w1 K hG need old hsz hK
      exact op_value (v := .string (strOf (L4))) (wanted_none rfl) (run_cv (.tmp 63) rfl (show a.eval (.tmp 63) = .slice A4 L4.length c4 from need 2 63 (by kernel_rfl) (by kernel_rfl)) (R4.out.below hG (Nat.le_refl _)) rfl) (hK _ w1 rfl hG trivial)
    case o4 =>
      intro a w1 K hG need old hsz hK
      exact op_value (v := .bool true) (wanted_none rfl) (run_eqls (.tmp 62) (.tmp 64) _ _ rfl (show a.eval (.tmp 62) = .string (strOf (L3)) from need 1 62 (by kernel_rfl) (by kernel_rfl)) (show a.eval (.tmp 64) = .string (strOf (L4)) from need 3 64 (by kernel_rfl) (by kernel_rfl)) hE.out) (hK _ w1 rfl hG trivial)
    case o5 =>
      intro a w1 K hG need old hsz hK
      exact op_value (v := .bool true) (wanted_none rfl) (run_move (.tmp 65) rfl (show a.eval (.tmp 65) = .bool true from need 4 65 (by kernel_rfl) (by kernel_rfl))) (hK _ w1 rfl hG trivial)
    case o6 =>
      intro a w1 K hG need old hsz hK
      exact op_value (v := .int .i64 E) (wanted_of (j := 5) rfl (need 5 66 (by kernel_rfl) (by kernel_rfl))) (run_move (.tmp 10) rfl (show a.eval (.tmp 10) = .int .i64 E from old 10 (by kernel_rfl))) (hK _ w1 rfl hG trivial)
    case o7 =>
      intro a w1 K hG need old hsz hK
      exact op_value (v := .int .i64 E) (wanted_of (j := 5) rfl (need 5 66 (by kernel_rfl) (by kernel_rfl))) (run_move (.tmp 12) rfl (show a.eval (.tmp 12) = .int .i64 E from old 12 (by kernel_rfl))) (hK _ w1 rfl hG trivial)
    case o8 =>
      intro a w1 K hG need old hsz hK
      exact op_value (v := .bool true) (wanted_of (j := 5) rfl (need 5 66 (by kernel_rfl) (by kernel_rfl))) (run_eqli (.tmp 67) (.tmp 68) _ _ rfl (show a.eval (.tmp 67) = .int .i64 E from need 6 67 (by kernel_rfl) (by kernel_rfl)) (show a.eval (.tmp 68) = .int .i64 E from need 7 68 (by kernel_rfl) (by kernel_rfl)) (by simp)) (hK _ w1 rfl hG trivial)
    case o9 =>
      intro a w1 K hG need old hsz hK
      exact op_value (v := .bool true) (wanted_none rfl) (run_pick (.tmp 66) (.tmp 69) (.const (.bool false)) rfl (show a.eval (.tmp 66) = .bool true from need 5 66 (by kernel_rfl) (by kernel_rfl)) (show a.eval (.tmp 69) = .bool true from need 8 69 (by kernel_rfl) (by kernel_rfl))) (hK _ w1 rfl hG trivial)
    case o10 =>
      intro a w1 K hG need old hsz hK
      exact op_value (v := .bool true) (wanted_none rfl) (run_move (.tmp 70) rfl (show a.eval (.tmp 70) = .bool true from need 9 70 (by kernel_rfl) (by kernel_rfl))) (hK _ w1 rfl hG trivial)
    case o11 =>
      intro a w1 K hG need old hsz hK
      exact op_value (v := .agg #[.int .i64 P, .int .i64 Q, .slice A5 D.length c5]) (wanted_of (j := 10) rfl (need 10 71 (by kernel_rfl) (by kernel_rfl))) (run_ldsh (.tmp 13) rfl (show a.eval (.tmp 13) = .pointer (some ⟨w5.heap.size, 0, none⟩) from old 13 (by kernel_rfl)) ((hG.block w5.heap.size (lt_size T18.out)).trans T18.out)) (hK _ w1 rfl hG trivial)
    case o12 =>
      intro a w1 K hG need old hsz hK
      exact op_value (v := .agg #[.int .i64 P, .int .i64 Q, .slice A6 D.length c6]) (wanted_of (j := 10) rfl (need 10 71 (by kernel_rfl) (by kernel_rfl))) (run_ldsh (.tmp 15) rfl (show a.eval (.tmp 15) = .pointer (some ⟨w6.heap.size, 0, none⟩) from old 15 (by kernel_rfl)) ((hG.block w6.heap.size (lt_size T28.out)).trans T28.out)) (hK _ w1 rfl hG trivial)
    case o13 =>
      intro a w1 K hG need old hsz hK
      refine op_call (wanted_of (j := 10) rfl (need 10 71 (by kernel_rfl) (by kernel_rfl))) (run_go2 17 (.tmp 72) (.tmp 73) _ rfl rfl (show a.eval (.tmp 72) = .agg #[.int .i64 P, .int .i64 Q, .slice A5 D.length c5] from need 11 72 (by kernel_rfl) (by kernel_rfl)) (show a.eval (.tmp 73) = .agg #[.int .i64 P, .int .i64 Q, .slice A6 D.length c6] from need 12 73 (by kernel_rfl) (by kernel_rfl)) (by go_simp)) ((same_any W8.heap.size W8.heap.size P Q P Q A5 A6 c5 c6 D D w1 (Q5.out.below hG (Nat.le_refl _)) hG.size (Q6.out.below hG (Nat.le_refl _)) hG.size).mono ?_)
      rintro e w2 ⟨rfl, hb2⟩
      rw [decide_eq_true ⟨rfl, rfl, rfl⟩]
      exact ⟨_, rfl, hK _ w2 rfl (hG.trans (hb2.mono hG.size)) trivial⟩
    case o14 =>
      intro a w1 K hG need old hsz hK
      exact op_value (v := .bool true) (wanted_none rfl) (run_pick (.tmp 71) (.tmp 74) (.const (.bool false)) rfl (show a.eval (.tmp 71) = .bool true from need 10 71 (by kernel_rfl) (by kernel_rfl)) (show a.eval (.tmp 74) = .bool true from need 13 74 (by kernel_rfl) (by kernel_rfl))) (hK _ w1 rfl hG trivial)
    case o15 =>
      intro a w1 K hG need old hsz hK
      exact op_value (v := .bool true) (wanted_none rfl) (run_move (.tmp 75) rfl (show a.eval (.tmp 75) = .bool true from need 14 75 (by kernel_rfl) (by kernel_rfl))) (hK _ w1 rfl hG trivial)
    case o16 =>
      intro a w1 K hG need old hsz hK
      exact op_value (v := .int .i64 ER) (wanted_of (j := 15) rfl (need 15 76 (by kernel_rfl) (by kernel_rfl))) (run_move (.tmp 14) rfl (show a.eval (.tmp 14) = .int .i64 ER from old 14 (by kernel_rfl))) (hK _ w1 rfl hG trivial)
    case o17 =>
      intro a w1 K hG need old hsz hK
      exact op_value (v := .int .i64 ER) (wanted_of (j := 15) rfl (need 15 76 (by kernel_rfl) (by kernel_rfl))) (run_move (.tmp 16) rfl (show a.eval (.tmp 16) = .int .i64 ER from old 16 (by kernel_rfl))) (hK _ w1 rfl hG trivial)
    case o18 =>
      intro a w1 K hG need old hsz hK
      exact op_value (v := .bool true) (wanted_of (j := 15) rfl (need 15 76 (by kernel_rfl) (by kernel_rfl))) (run_eqli (.tmp 77) (.tmp 78) _ _ rfl (show a.eval (.tmp 77) = .int .i64 ER from need 16 77 (by kernel_rfl) (by kernel_rfl)) (show a.eval (.tmp 78) = .int .i64 ER from need 17 78 (by kernel_rfl) (by kernel_rfl)) (by simp)) (hK _ w1 rfl hG trivial)
    case o19 =>
      intro a w1 K hG need old hsz hK
      exact op_value (v := .bool true) (wanted_none rfl) (run_pick (.tmp 76) (.tmp 79) (.const (.bool false)) rfl (show a.eval (.tmp 76) = .bool true from need 15 76 (by kernel_rfl) (by kernel_rfl)) (show a.eval (.tmp 79) = .bool true from need 18 79 (by kernel_rfl) (by kernel_rfl))) (hK _ w1 rfl hG trivial)
    case o20 =>
      intro a w1 K hG need old hsz hK
      exact op_value (v := .bool true) (wanted_none rfl) (run_move (.tmp 80) rfl (show a.eval (.tmp 80) = .bool true from need 19 80 (by kernel_rfl) (by kernel_rfl))) (hK _ w1 rfl hG trivial)
    case o21 =>
      intro a w1 K hG need old hsz hK
      exact op_value (v := .agg #[.int .i64 p, .int .i64 s, .slice A d.length c]) (wanted_of (j := 20) rfl (need 20 81 (by kernel_rfl) (by kernel_rfl))) (run_ldsh (.tmp 4) rfl (show a.eval (.tmp 4) = .pointer (some ⟨w.heap.size, 0, none⟩) from old 4 (by kernel_rfl)) ((hG.block w.heap.size (lt_size C8.out)).trans C8.out)) (hK _ w1 rfl hG trivial)
    case o22 =>
      intro a w1 K hG need old hsz hK
      refine op_call (wanted_of (j := 20) rfl (need 20 81 (by kernel_rfl) (by kernel_rfl))) (run_go1 18 (.tmp 82) _ rfl rfl (show a.eval (.tmp 82) = .agg #[.int .i64 p, .int .i64 s, .slice A d.length c] from need 21 82 (by kernel_rfl) (by kernel_rfl)) (by go_simp)) ((may_any w.heap.size p s A c d w1 (D8.out.below hG HW.out) (Nat.le_trans HW.out hG.size)).mono ?_)
      rintro e w2 ⟨rfl, hb2⟩
      exact ⟨_, rfl, hK _ w2 rfl (hG.trans (hb2.mono hG.size)) trivial⟩
    case o23 =>
      intro a w1 K hG need old hsz hK
      exact op_value (v := .agg #[.int .i64 p, .int .i64 s, .slice A d.length c]) (wanted_of (j := 20) rfl (need 20 81 (by kernel_rfl) (by kernel_rfl))) (run_ldsh (.tmp 4) rfl (show a.eval (.tmp 4) = .pointer (some ⟨w.heap.size, 0, none⟩) from old 4 (by kernel_rfl)) ((hG.block w.heap.size (lt_size C8.out)).trans C8.out)) (hK _ w1 rfl hG trivial)
    case o24 =>
      intro a w1 K hG need old hsz hK
      refine op_call (wanted_of (j := 20) rfl (need 20 81 (by kernel_rfl) (by kernel_rfl))) (run_go1 19 (.tmp 84) _ rfl rfl (show a.eval (.tmp 84) = .agg #[.int .i64 p, .int .i64 s, .slice A d.length c] from need 23 84 (by kernel_rfl) (by kernel_rfl)) (by go_simp)) ((maysheet_any w.heap.size p s A c d w1 (D8.out.below hG HW.out) (Nat.le_trans HW.out hG.size)).mono ?_)
      rintro e w2 ⟨rfl, hb2⟩
      exact ⟨_, rfl, hK _ w2 rfl (hG.trans (hb2.mono hG.size)) trivial⟩
    case o25 =>
      intro a w1 K hG need old hsz hK
      exact op_value (v := .bool true) (wanted_of (j := 20) rfl (need 20 81 (by kernel_rfl) (by kernel_rfl))) (run_eqlb (.tmp 83) (.tmp 85) rfl (show a.eval (.tmp 83) = .bool (decide (MayS p s d)) from need 22 83 (by kernel_rfl) (by kernel_rfl)) (show a.eval (.tmp 85) = .bool (decide (MayS p s d)) from need 24 85 (by kernel_rfl) (by kernel_rfl)) (by simp)) (hK _ w1 rfl hG trivial)
    case o26 =>
      intro a w1 K hG need old hsz hK
      exact op_value (v := .bool true) (wanted_none rfl) (run_pick (.tmp 81) (.tmp 86) (.const (.bool false)) rfl (show a.eval (.tmp 81) = .bool true from need 20 81 (by kernel_rfl) (by kernel_rfl)) (show a.eval (.tmp 86) = .bool true from need 25 86 (by kernel_rfl) (by kernel_rfl))) (hK _ w1 rfl hG trivial)
    case o27 =>
      intro a w1 K hG need old hsz hK
      exact op_value (v := .bool true) (wanted_none rfl) (run_move (.tmp 87) rfl (show a.eval (.tmp 87) = .bool true from need 26 87 (by kernel_rfl) (by kernel_rfl))) (hK _ w1 rfl hG trivial)
    case o28 =>
      intro a w1 K hG need old hsz hK
      exact op_value (v := .int .i64 n) (wanted_of (j := 27) rfl (need 27 88 (by kernel_rfl) (by kernel_rfl))) (run_move (.tmp 2) rfl (show a.eval (.tmp 2) = .int .i64 n from old 2 (by kernel_rfl))) (hK _ w1 rfl hG trivial)
    case o29 =>
      intro a w1 K hG need old hsz hK
      exact op_value (v := .int .i64 m) (wanted_of (j := 27) rfl (need 27 88 (by kernel_rfl) (by kernel_rfl))) (run_move (.tmp 3) rfl (show a.eval (.tmp 3) = .int .i64 m from old 3 (by kernel_rfl))) (hK _ w1 rfl hG trivial)
    case o30 =>
      intro a w1 K hG need old hsz hK
      refine op_call (wanted_of (j := 27) rfl (need 27 88 (by kernel_rfl) (by kernel_rfl))) (run_go2 20 (.tmp 89) (.tmp 90) _ rfl rfl (show a.eval (.tmp 89) = .int .i64 n from need 28 89 (by kernel_rfl) (by kernel_rfl)) (show a.eval (.tmp 90) = .int .i64 m from need 29 90 (by kernel_rfl) (by kernel_rfl)) (by go_simp)) ((numof_any n m w1).mono ?_)
      rintro e w2 ⟨rfl, rfl⟩
      exact ⟨_, rfl, hK _ w1 rfl hG trivial⟩
    case o31 =>
      intro a w1 K hG need old hsz hK
      exact op_value (v := .int .i64 n) (wanted_of (j := 27) rfl (need 27 88 (by kernel_rfl) (by kernel_rfl))) (run_move (.tmp 2) rfl (show a.eval (.tmp 2) = .int .i64 n from old 2 (by kernel_rfl))) (hK _ w1 rfl hG trivial)
    case o32 =>
      intro a w1 K hG need old hsz hK
      exact op_value (v := .int .i64 m) (wanted_of (j := 27) rfl (need 27 88 (by kernel_rfl) (by kernel_rfl))) (run_move (.tmp 3) rfl (show a.eval (.tmp 3) = .int .i64 m from old 3 (by kernel_rfl))) (hK _ w1 rfl hG trivial)
    case o33 =>
      intro a w1 K hG need old hsz hK
      refine op_call (wanted_of (j := 27) rfl (need 27 88 (by kernel_rfl) (by kernel_rfl))) (run_go2 21 (.tmp 92) (.tmp 93) _ rfl rfl (show a.eval (.tmp 92) = .int .i64 n from need 31 92 (by kernel_rfl) (by kernel_rfl)) (show a.eval (.tmp 93) = .int .i64 m from need 32 93 (by kernel_rfl) (by kernel_rfl)) (by go_simp)) ((pageof_any n m w1).mono ?_)
      rintro e w2 ⟨rfl, rfl⟩
      exact ⟨_, rfl, hK _ w1 rfl hG trivial⟩
    case o34 =>
      intro a w1 K hG need old hsz hK
      exact op_value (v := .bool true) (wanted_of (j := 27) rfl (need 27 88 (by kernel_rfl) (by kernel_rfl))) (run_eqli (.tmp 91) (.tmp 94) _ _ rfl (show a.eval (.tmp 91) = .int .i64 (numS n m) from need 30 91 (by kernel_rfl) (by kernel_rfl)) (show a.eval (.tmp 94) = .int .i64 (numS n m) from need 33 94 (by kernel_rfl) (by kernel_rfl)) (by simp)) (hK _ w1 rfl hG trivial)
    case o35 =>
      intro a w1 K hG need old hsz hK
      exact op_value (v := .bool true) (wanted_none rfl) (run_pick (.tmp 88) (.tmp 95) (.const (.bool false)) rfl (show a.eval (.tmp 88) = .bool true from need 27 88 (by kernel_rfl) (by kernel_rfl)) (show a.eval (.tmp 95) = .bool true from need 34 95 (by kernel_rfl) (by kernel_rfl))) (hK _ w1 rfl hG trivial)
    case o36 =>
      intro a w1 K hG need old hsz hK
      exact op_value (v := .bool true) (wanted_none rfl) (run_move (.tmp 96) rfl (show a.eval (.tmp 96) = .bool true from need 35 96 (by kernel_rfl) (by kernel_rfl))) (hK _ w1 rfl hG trivial)
    case o37 =>
      intro a w1 K hG need old hsz hK
      exact op_value (v := .int .i64 (splitS n).1) (wanted_of (j := 36) rfl (need 36 97 (by kernel_rfl) (by kernel_rfl))) (run_move (.tmp 17) rfl (show a.eval (.tmp 17) = .int .i64 (splitS n).1 from old 17 (by kernel_rfl))) (hK _ w1 rfl hG trivial)
    case o38 =>
      intro a w1 K hG need old hsz hK
      exact op_value (v := .int .i64 (splitS n).1) (wanted_of (j := 36) rfl (need 36 97 (by kernel_rfl) (by kernel_rfl))) (run_move (.tmp 19) rfl (show a.eval (.tmp 19) = .int .i64 (splitS n).1 from old 19 (by kernel_rfl))) (hK _ w1 rfl hG trivial)
    case o39 =>
      intro a w1 K hG need old hsz hK
      exact op_value (v := .bool true) (wanted_of (j := 36) rfl (need 36 97 (by kernel_rfl) (by kernel_rfl))) (run_eqli (.tmp 98) (.tmp 99) _ _ rfl (show a.eval (.tmp 98) = .int .i64 (splitS n).1 from need 37 98 (by kernel_rfl) (by kernel_rfl)) (show a.eval (.tmp 99) = .int .i64 (splitS n).1 from need 38 99 (by kernel_rfl) (by kernel_rfl)) (by simp)) (hK _ w1 rfl hG trivial)
    case o40 =>
      intro a w1 K hG need old hsz hK
      exact op_value (v := .bool true) (wanted_none rfl) (run_pick (.tmp 97) (.tmp 100) (.const (.bool false)) rfl (show a.eval (.tmp 97) = .bool true from need 36 97 (by kernel_rfl) (by kernel_rfl)) (show a.eval (.tmp 100) = .bool true from need 39 100 (by kernel_rfl) (by kernel_rfl))) (hK _ w1 rfl hG trivial)
    case o41 =>
      intro a w1 K hG need old hsz hK
      exact op_value (v := .bool true) (wanted_none rfl) (run_move (.tmp 101) rfl (show a.eval (.tmp 101) = .bool true from need 40 101 (by kernel_rfl) (by kernel_rfl))) (hK _ w1 rfl hG trivial)
    case o42 =>
      intro a w1 K hG need old hsz hK
      exact op_value (v := .int .i64 (splitS n).2) (wanted_of (j := 41) rfl (need 41 102 (by kernel_rfl) (by kernel_rfl))) (run_move (.tmp 18) rfl (show a.eval (.tmp 18) = .int .i64 (splitS n).2 from old 18 (by kernel_rfl))) (hK _ w1 rfl hG trivial)
    case o43 =>
      intro a w1 K hG need old hsz hK
      exact op_value (v := .int .i64 (splitS n).2) (wanted_of (j := 41) rfl (need 41 102 (by kernel_rfl) (by kernel_rfl))) (run_move (.tmp 20) rfl (show a.eval (.tmp 20) = .int .i64 (splitS n).2 from old 20 (by kernel_rfl))) (hK _ w1 rfl hG trivial)
    case o44 =>
      intro a w1 K hG need old hsz hK
      exact op_value (v := .bool true) (wanted_of (j := 41) rfl (need 41 102 (by kernel_rfl) (by kernel_rfl))) (run_eqli (.tmp 103) (.tmp 104) _ _ rfl (show a.eval (.tmp 103) = .int .i64 (splitS n).2 from need 42 103 (by kernel_rfl) (by kernel_rfl)) (show a.eval (.tmp 104) = .int .i64 (splitS n).2 from need 43 104 (by kernel_rfl) (by kernel_rfl)) (by simp)) (hK _ w1 rfl hG trivial)
    case o45 =>
      intro a w1 K hG need old hsz hK
      exact op_value (v := .bool true) (wanted_none rfl) (run_pick (.tmp 102) (.tmp 105) (.const (.bool false)) rfl (show a.eval (.tmp 102) = .bool true from need 41 102 (by kernel_rfl) (by kernel_rfl)) (show a.eval (.tmp 105) = .bool true from need 44 105 (by kernel_rfl) (by kernel_rfl))) (hK _ w1 rfl hG trivial)
    case o46 =>
      intro a w1 K hG need old hsz hK
      exact op_value (v := .bool true) (wanted_none rfl) (run_move (.tmp 106) rfl (show a.eval (.tmp 106) = .bool true from need 45 106 (by kernel_rfl) (by kernel_rfl))) (hK _ w1 rfl hG trivial)
    case o47 =>
      intro a w1 K hG need old hsz hK
      refine op_call (wanted_of (j := 46) rfl (need 46 107 (by kernel_rfl) (by kernel_rfl))) (run_go0 10  _ rfl rfl  (by go_simp)) ((awake_any w1).mono ?_)
      rintro e w2 ⟨rfl, hb2⟩
      exact ⟨_, rfl, hK _ w2 rfl (hG.trans (hb2.mono hG.size)) trivial⟩
    case o48 =>
      intro a w1 K hG need old hsz hK
      exact op_value (v := .bool true) (wanted_none rfl) (run_pick (.tmp 107) (.tmp 108) (.const (.bool false)) rfl (show a.eval (.tmp 107) = .bool true from need 46 107 (by kernel_rfl) (by kernel_rfl)) (show a.eval (.tmp 108) = .bool true from need 47 108 (by kernel_rfl) (by kernel_rfl))) (hK _ w1 rfl hG trivial)
    case o49 =>
      intro a w1 K hG need old hsz hK
      exact op_value (v := .bool true) (wanted_none rfl) (run_assign (.tmp 109) rfl (show a.eval (.tmp 109) = .bool true from need 48 109 (by kernel_rfl) (by kernel_rfl))) (hK _ w1 rfl hG trivial)
  · intro a w' hG hde hsz hφ hold
    have h49 : a.tmps.getD 8 undef = .bool true := hφ 49 8 (by kernel_rfl)
    go_wp2
    refine bodyPost_ret (v := .bool true) ?_ hde ⟨rfl, (HB0.out.trans (HT8.out.mono (by omega))).trans (hG.mono HW.out)⟩
    rw [results_tmp (t := 8) rfl, h49]
end Go.Proofs.Ytfjijpejoocngaa
