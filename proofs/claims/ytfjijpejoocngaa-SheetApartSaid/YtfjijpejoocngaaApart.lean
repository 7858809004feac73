/- SheetApart: two sheets have the same bytes just if they are the same: the law's walk (its drawn region written by apart.py). -/
import Derived.Test.YtfjijpejoocngaaRegVal
import Derived.Deep.CutBlock
import Derived.Deep.DeepCutAuto
namespace Go.Proofs.Ytfjijpejoocngaa
open Go.RowKit

set_option maxRecDepth 100000 in
theorem light2_any (g k : Nat) (p s p' s' : Int) (A A' : Option Addr) (n c n' c' : Nat) (w : World) (hg : w.heap[g]? = some (.cells #[.int .i64 p, .int .i64 s, .slice A n c, .int .i64 p', .int .i64 s', .slice A' n' c'] 24 (0, 0))) :
    Calls Try.prog 9 #[.slice (some ⟨g, 0, none⟩) 2 k] w fun e w' => e = .returned (.bool (decide (n ≤ 3000 ∧ n' ≤ 3000))) ∧ Below w.heap.size w w' := by
  obtain ⟨k0, k1, k2⟩ := load_three (k := 0) hg rfl rfl rfl
  obtain ⟨k3, k4, k5⟩ := load_three (k := 3) hg rfl rfl rfl
  have hgl := lt_size hg
  have hb1 := Lib.hid ((Below.refl w.heap.size w).alloc (Nat.le_refl _) (.cells #[.int .i64 p, .int .i64 s, .slice A n c] 24))
  by_cases hn : n ≤ 3000
  · have HN := Lib.hid hn
    by_cases hn' : n' ≤ 3000
    all_goals
      have HN' := Lib.hid hn'
      go_enter Try.func9, Try.ntmps9
      go_wp2
      refine wp_loop_rounds 3 ?_
      rw [rounds_succ]
      go_wp2
      rw [rounds_succ]
      go_wp2
    · rw [rounds_succ]
      go_wp2
      go_ret
      exact ⟨ret_bool (by simp [HN.out, HN'.out]), hb1.out.alloc (by simp) _⟩
    · go_ret
      exact ⟨ret_bool (by simp [HN'.out]), hb1.out.alloc (by simp) _⟩
  · have HN := Lib.hid hn
    go_enter Try.func9, Try.ntmps9
    go_wp2
    refine wp_loop_rounds 3 ?_
    rw [rounds_succ]
    go_wp2
    go_ret
    exact ⟨ret_bool (by simp [HN.out]), hb1.out⟩
set_option maxRecDepth 100000 in
set_option maxHeartbeats 4000000 in
theorem apart_any (p s p' s' : Int) (A A' : Option Addr) (c c' : Nat) (d d' : List UInt8) (w : World) (hr : RB w w.heap.size A d) (hr' : RB w w.heap.size A' d') :
    Calls Try.prog 6 #[.agg #[.int .i64 p, .int .i64 s, .slice A d.length c], .agg #[.int .i64 p', .int .i64 s', .slice A' d'.length c']] w (Holds w) := by
  obtain ⟨W0, hW0⟩ : ∃ W0, W0 = (w.alloc (.cells #[.int .i64 p, .int .i64 s, .slice A d.length c] 24)).alloc (.cells #[.int .i64 p', .int .i64 s', .slice A' d'.length c'] 24) := ⟨_, rfl⟩
  have HB0 : Hid (Below w.heap.size w W0) := by rw [hW0]; exact ((Below.refl _ _).alloc (Nat.le_refl _) _).alloc (by simp) _
  have C0 : Hid (W0.heap[w.heap.size]? = some (.cells #[.int .i64 p, .int .i64 s, .slice A d.length c] 24 (0, 0))) := by rw [hW0]; exact (Below.heap_alloc _ _ _ (by simp)).trans (heap_alloc_new w _)
  have C1 : Hid (W0.heap[w.heap.size + 1]? = some (.cells #[.int .i64 p', .int .i64 s', .slice A' d'.length c'] 24 (0, 0))) := by rw [hW0]; exact heap_alloc2_new w _ _
  have hz0 : W0.heap.size = w.heap.size + 2 := by rw [hW0]; simp
  have D0 := Lib.hid (hr.below HB0.out (Nat.le_refl _))
  have D1 := Lib.hid (hr'.below HB0.out (Nat.le_refl _))
  have HN1 : ¬ (d.length ≤ 3000 ∧ d'.length ≤ 3000) → ¬ (MayS p s d ∧ MayS p' s' d') := fun h hm => h ⟨by have := hm.1.2.2.1; omega, by have := hm.2.2.2.1; omega⟩
  clear hr hr'
  by_cases hM : MayS p s d ∧ MayS p' s' d'
  · have hM1 := Lib.hid hM.1
    have hM2 := Lib.hid hM.2
    have hl : d.length ≤ 3000 ∧ d'.length ≤ 3000 := ⟨by have := hM.1.2.2.1; omega, by have := hM.2.2.2.1; omega⟩
    have HL := Lib.hid hl
    obtain ⟨β, hβ⟩ : ∃ β, decide (p = p' ∧ s = s' ∧ d = d') = β := ⟨_, rfl⟩
    have hβ := Lib.hid hβ
    clear hM hl HN1
    go_enter Try.func6, Try.ntmps6
    go_wp2_with fail
    rw [← hW0, show w.heap.size + 1 + 1 = W0.heap.size by omega]
    refine (light2_any W0.heap.size 2 p s p' s' A A' d.length c d'.length c' _ (heap_alloc_new W0 _)).mono ?_
    rintro e w1 ⟨rfl, hb1⟩
    rw [decide_eq_true HL.out]
    have HB1 := Lib.hid (((Below.refl W0.heap.size W0).alloc (Nat.le_refl _) _).trans (hb1.mono (by simp)))
    clear hb1
    obtain ⟨k0, k1, k2⟩ := cells3 ((HB1.out.block w.heap.size (lt_size C0.out)).trans C0.out)
    obtain ⟨j0, j1, j2⟩ := cells3 ((HB1.out.block (w.heap.size + 1) (lt_size C1.out)).trans C1.out)
    go_wp2_with fail
    refine (maysheet_any w.heap.size p s A c d _ (D0.out.below HB1.out (by omega)) (by have := HB1.out.size; omega)).mono ?_
    rintro e w2 ⟨rfl, hb2⟩
    rw [decide_eq_true hM1.out]
    have HB2 := Lib.hid (HB1.out.trans (hb2.mono HB1.out.size))
    clear hb2 k0 k1 k2 j0 j1 j2
    obtain ⟨k0, k1, k2⟩ := cells3 ((HB2.out.block w.heap.size (lt_size C0.out)).trans C0.out)
    obtain ⟨j0, j1, j2⟩ := cells3 ((HB2.out.block (w.heap.size + 1) (lt_size C1.out)).trans C1.out)
    go_wp2_with fail
    refine (maysheet_any w.heap.size p' s' A' c' d' _ (D1.out.below HB2.out (by omega)) (by have := HB2.out.size; omega)).mono ?_
    rintro e w3 ⟨rfl, hb3⟩
    rw [decide_eq_true hM2.out]
    have HB3 := Lib.hid (HB2.out.trans (hb3.mono HB2.out.size))
    clear hb3 k0 k1 k2 j0 j1 j2
    obtain ⟨k0, k1, k2⟩ := cells3 ((HB3.out.block w.heap.size (lt_size C0.out)).trans C0.out)
    go_wp2_with fail
    refine (bytes_any w.heap.size p s A c d _ (D0.out.below HB3.out (by omega)) (by have := HB3.out.size; omega)).mono ?_
    rintro e w4 ⟨A3, c3, L3, er, rfl, hL3, her, _, hr3, _, hb4⟩
    rw [if_pos hM1.out] at her
    subst her
    have HL3 := Lib.hid (hL3.out.trans (if_pos hM1.out))
    have HB4 := Lib.hid (HB3.out.trans (hb4.mono HB3.out.size))
    have R3' := Lib.hid hr3
    clear hL3 hr3 hb4 k0 k1 k2
    obtain ⟨j0, j1, j2⟩ := cells3 ((HB4.out.block (w.heap.size + 1) (lt_size C1.out)).trans C1.out)
    go_wp2_with fail
    refine (bytes_any w.heap.size p' s' A' c' d' _ (D1.out.below HB4.out (by omega)) (by have := HB4.out.size; omega)).mono ?_
    rintro e w5 ⟨A4, c4, L4, er, rfl, hL4, her, _, hr4, _, hb5⟩
    rw [if_pos hM2.out] at her
    subst her
    have HL4 := Lib.hid (hL4.out.trans (if_pos hM2.out))
    have HB5 := Lib.hid (HB4.out.trans (hb5.mono HB4.out.size))
    have R3 := Lib.hid ((R3'.out.below hb5 (Nat.le_refl _)).mono hb5.size)
    have R4 := Lib.hid hr4
    have hE : Hid (decide (L3 = L4) = β) := by
      rw [HL3.out, HL4.out, ← hβ.out]
      refine decide_eq_decide.2 ⟨fun e => sheet_inj hM1.out hM2.out e, ?_⟩
      rintro ⟨h1, h2, h3⟩
      rw [h1, h2, h3]
    have E0 := Lib.hid ((HB5.out.block w.heap.size (lt_size C0.out)).trans C0.out)
    have E1 := Lib.hid ((HB5.out.block (w.heap.size + 1) (lt_size C1.out)).trans C1.out)
    have F0 := Lib.hid (D0.out.below HB5.out (by omega))
    have F1 := Lib.hid (D1.out.below HB5.out (by omega))
    have HW : Hid (w.heap.size ≤ w5.heap.size) := Nat.le_trans (by omega) HB5.out.size
    clear hL4 hr4 hb5 j0 j1 j2
    go_upto_region 5 with fail
    refine region_inv (fun j v _ => v = (match j with | 0 => .int .i64 0 | 1 => .bool true | 2 => .bool true | 3 => .int .i64 0 | 4 => .bool true | 5 => .bool true | 6 => .bool true | 7 => .slice A3 L3.length c3 | 8 => .string (strOf (L3)) | 9 => .slice A4 L4.length c4 | 10 => .string (strOf (L4)) | 11 => .bool β | 12 => .agg #[.int .i64 p, .int .i64 s, .slice A d.length c] | 13 => .agg #[.int .i64 p', .int .i64 s', .slice A' d'.length c'] | 14 => .bool β | 15 => .bool true | 16 => .bool true | 17 => .bool true | 18 => .bool true | 19 => .bool true | 20 => .bool true | _ => undef)) (fun w' => Below w5.heap.size w5 w') (fun _ _ => True) (by kernel_rfl) (by kernel_rfl) (by kernel_rfl) (fun _ _ _ _ h _ => h) (Below.refl _ _).drew ?_ ?_
    · refine OpsOk.cons ?o0 (OpsOk.cons ?o1 (OpsOk.cons ?o2 (OpsOk.cons ?o3 (OpsOk.cons ?o4 (OpsOk.cons ?o5 (OpsOk.cons ?o6 (OpsOk.cons ?o7 (OpsOk.cons ?o8 (OpsOk.cons ?o9 (OpsOk.cons ?o10 (OpsOk.cons ?o11 (OpsOk.cons ?o12 (OpsOk.cons ?o13 (OpsOk.cons ?o14 (OpsOk.cons ?o15 (OpsOk.cons ?o16 (OpsOk.cons ?o17 (OpsOk.cons ?o18 (OpsOk.cons ?o19 (OpsOk.cons ?o20 OpsOk.nil))))))))))))))))))))
      case o0 =>
        intro a w1 K hG need old hsz hK
        exact op_value (v := .int .i64 0) (wanted_none rfl) (run_move (.tmp 6) rfl (show a.eval (.tmp 6) = .int .i64 0 from old 6 (by kernel_rfl))) (hK _ w1 rfl hG trivial)
      case o1 =>
        intro a w1 K hG need old hsz hK
        exact op_value (v := .bool true) (wanted_none rfl) (run_eqli (.tmp 35) (.const (.int .i64 0)) _ _ rfl (show a.eval (.tmp 35) = .int .i64 0 from need 0 35 (by kernel_rfl) (by kernel_rfl)) rfl (by simp)) (hK _ w1 rfl hG trivial)
      case o2 =>
        intro a w1 K hG need old hsz hK
        exact op_value (v := .bool true) (wanted_none rfl) (run_move (.tmp 36) rfl (show a.eval (.tmp 36) = .bool true from need 1 36 (by kernel_rfl) (by kernel_rfl))) (hK _ w1 rfl hG trivial)
      case o3 =>
        intro a w1 K hG need old hsz hK
        exact op_value (v := .int .i64 0) (wanted_of (j := 2) rfl (need 2 37 (by kernel_rfl) (by kernel_rfl))) (run_move (.tmp 8) rfl (show a.eval (.tmp 8) = .int .i64 0 from old 8 (by kernel_rfl))) (hK _ w1 rfl hG trivial)
      case o4 =>
        intro a w1 K hG need old hsz hK
        exact op_value (v := .bool true) (wanted_of (j := 2) rfl (need 2 37 (by kernel_rfl) (by kernel_rfl))) (run_eqli (.tmp 38) (.const (.int .i64 0)) _ _ rfl (show a.eval (.tmp 38) = .int .i64 0 from need 3 38 (by kernel_rfl) (by kernel_rfl)) rfl (by simp)) (hK _ w1 rfl hG trivial)
      case o5 =>
        intro a w1 K hG need old hsz hK
        exact op_value (v := .bool true) (wanted_none rfl) (run_pick (.tmp 37) (.tmp 39) (.const (.bool false)) rfl (show a.eval (.tmp 37) = .bool true from need 2 37 (by kernel_rfl) (by kernel_rfl)) (show a.eval (.tmp 39) = .bool true from need 4 39 (by kernel_rfl) (by kernel_rfl))) (hK _ w1 rfl hG trivial)
      case o6 =>
        intro a w1 K hG need old hsz hK
        exact op_value (v := .bool true) (wanted_none rfl) (run_move (.tmp 40) rfl (show a.eval (.tmp 40) = .bool true from need 5 40 (by kernel_rfl) (by kernel_rfl))) (hK _ w1 rfl hG trivial)
      case o7 =>
        intro a w1 K hG need old hsz hK
        exact op_value (v := .slice A3 L3.length c3) (wanted_of (j := 6) rfl (need 6 41 (by kernel_rfl) (by kernel_rfl))) (run_move (.tmp 5) rfl (show a.eval (.tmp 5) = .slice A3 L3.length c3 from old 5 (by kernel_rfl))) (hK _ w1 rfl hG trivial)
      case o8 =>
        intro a w1 K hG need old hsz hK
        exact op_value (v := .string (strOf (L3))) (wanted_of (j := 6) rfl (need 6 41 (by kernel_rfl) (by kernel_rfl))) (run_cv (.tmp 42) rfl (show a.eval (.tmp 42) = .slice A3 L3.length c3 from need 7 42 (by kernel_rfl) (by kernel_rfl)) (R3.out.below hG (Nat.le_refl _)) rfl) (hK _ w1 rfl hG trivial)
      case o9 =>
        intro a w1 K hG need old hsz hK
        exact op_value (v := .slice A4 L4.length c4) (wanted_of (j := 6) rfl (need 6 41 (by kernel_rfl) (by kernel_rfl))) (run_move (.tmp 7) rfl (show a.eval (.tmp 7) = .slice A4 L4.length c4 from old 7 (by kernel_rfl))) (hK _ w1 rfl hG trivial)
      case o10 =>
        intro a w1 K hG need old hsz hK
        exact op_value (v := .string (strOf (L4))) (wanted_of (j := 6) rfl (need 6 41 (by kernel_rfl) (by kernel_rfl))) (run_cv (.tmp 44) rfl (show a.eval (.tmp 44) = .slice A4 L4.length c4 from need 9 44 (by kernel_rfl) (by kernel_rfl)) (R4.out.below hG (Nat.le_refl _)) rfl) (hK _ w1 rfl hG trivial)
      case o11 =>
        intro a w1 K hG need old hsz hK
        exact op_value (v := .bool β) (wanted_of (j := 6) rfl (need 6 41 (by kernel_rfl) (by kernel_rfl))) (run_eqls (.tmp 43) (.tmp 45) _ _ rfl (show a.eval (.tmp 43) = .string (strOf (L3)) from need 8 43 (by kernel_rfl) (by kernel_rfl)) (show a.eval (.tmp 45) = .string (strOf (L4)) from need 10 45 (by kernel_rfl) (by kernel_rfl)) hE.out) (hK _ w1 rfl hG trivial)
      case o12 =>
        intro a w1 K hG need old hsz hK
        exact op_value (v := .agg #[.int .i64 p, .int .i64 s, .slice A d.length c]) (wanted_of (j := 6) rfl (need 6 41 (by kernel_rfl) (by kernel_rfl))) (run_ldsh (.tmp 2) rfl (show a.eval (.tmp 2) = .pointer (some ⟨w.heap.size, 0, none⟩) from old 2 (by kernel_rfl)) ((hG.block w.heap.size (lt_size E0.out)).trans E0.out)) (hK _ w1 rfl hG trivial)
      case o13 =>
        intro a w1 K hG need old hsz hK
        exact op_value (v := .agg #[.int .i64 p', .int .i64 s', .slice A' d'.length c']) (wanted_of (j := 6) rfl (need 6 41 (by kernel_rfl) (by kernel_rfl))) (run_ldsh (.tmp 3) rfl (show a.eval (.tmp 3) = .pointer (some ⟨w.heap.size + 1, 0, none⟩) from old 3 (by kernel_rfl)) ((hG.block (w.heap.size + 1) (lt_size E1.out)).trans E1.out)) (hK _ w1 rfl hG trivial)
      case o14 =>
        intro a w1 K hG need old hsz hK
        refine op_call (wanted_of (j := 6) rfl (need 6 41 (by kernel_rfl) (by kernel_rfl))) (run_go2 17 (.tmp 47) (.tmp 48) _ rfl rfl (show a.eval (.tmp 47) = .agg #[.int .i64 p, .int .i64 s, .slice A d.length c] from need 12 47 (by kernel_rfl) (by kernel_rfl)) (show a.eval (.tmp 48) = .agg #[.int .i64 p', .int .i64 s', .slice A' d'.length c'] from need 13 48 (by kernel_rfl) (by kernel_rfl)) (by go_simp)) ((same_any w.heap.size w.heap.size p s p' s' A A' c c' d d' w1 (F0.out.below hG HW.out) (Nat.le_trans HW.out hG.size) (F1.out.below hG HW.out) (Nat.le_trans HW.out hG.size)).mono ?_)
        rintro e w2 ⟨rfl, hb2⟩
        rw [hβ.out]
        exact ⟨_, rfl, hK _ w2 rfl (hG.trans (hb2.mono hG.size)) trivial⟩
      case o15 =>
        intro a w1 K hG need old hsz hK
        exact op_value (v := .bool true) (wanted_of (j := 6) rfl (need 6 41 (by kernel_rfl) (by kernel_rfl))) (run_eqlb (.tmp 46) (.tmp 49) rfl (show a.eval (.tmp 46) = .bool β from need 11 46 (by kernel_rfl) (by kernel_rfl)) (show a.eval (.tmp 49) = .bool β from need 14 49 (by kernel_rfl) (by kernel_rfl)) (by simp)) (hK _ w1 rfl hG trivial)
      case o16 =>
        intro a w1 K hG need old hsz hK
        exact op_value (v := .bool true) (wanted_none rfl) (run_pick (.tmp 41) (.tmp 50) (.const (.bool false)) rfl (show a.eval (.tmp 41) = .bool true from need 6 41 (by kernel_rfl) (by kernel_rfl)) (show a.eval (.tmp 50) = .bool true from need 15 50 (by kernel_rfl) (by kernel_rfl))) (hK _ w1 rfl hG trivial)
      case o17 =>
        intro a w1 K hG need old hsz hK
        exact op_value (v := .bool true) (wanted_none rfl) (run_move (.tmp 51) rfl (show a.eval (.tmp 51) = .bool true from need 16 51 (by kernel_rfl) (by kernel_rfl))) (hK _ w1 rfl hG trivial)
      case o18 =>
        intro a w1 K hG need old hsz hK
        refine op_call (wanted_of (j := 17) rfl (need 17 52 (by kernel_rfl) (by kernel_rfl))) (run_go0 10  _ rfl rfl  (by go_simp)) ((awake_any w1).mono ?_)
        rintro e w2 ⟨rfl, hb2⟩
        exact ⟨_, rfl, hK _ w2 rfl (hG.trans (hb2.mono hG.size)) trivial⟩
      case o19 =>
        intro a w1 K hG need old hsz hK
        exact op_value (v := .bool true) (wanted_none rfl) (run_pick (.tmp 52) (.tmp 53) (.const (.bool false)) rfl (show a.eval (.tmp 52) = .bool true from need 17 52 (by kernel_rfl) (by kernel_rfl)) (show a.eval (.tmp 53) = .bool true from need 18 53 (by kernel_rfl) (by kernel_rfl))) (hK _ w1 rfl hG trivial)
      case o20 =>
        intro a w1 K hG need old hsz hK
        exact op_value (v := .bool true) (wanted_none rfl) (run_assign (.tmp 54) rfl (show a.eval (.tmp 54) = .bool true from need 19 54 (by kernel_rfl) (by kernel_rfl))) (hK _ w1 rfl hG trivial)
    · intro a w' hG hde hsz hφ hold
      have h20 : a.tmps.getD 4 undef = .bool true := hφ 20 4 (by kernel_rfl)
      go_wp2
      refine bodyPost_ret (v := .bool true) ?_ hde ⟨rfl, (HB0.out.trans (HB5.out.mono (by omega))).trans (hG.mono HW.out)⟩
      rw [results_tmp (t := 4) rfl, h20]
  · have HM := Lib.hid hM
    clear hM
    go_enter Try.func6, Try.ntmps6
    go_wp2_with fail
    rw [← hW0, show w.heap.size + 1 + 1 = W0.heap.size by omega]
    refine (light2_any W0.heap.size 2 p s p' s' A A' d.length c d'.length c' _ (heap_alloc_new W0 _)).mono ?_
    rintro e w1 ⟨rfl, hb1⟩
    have HB1 := Lib.hid (((Below.refl W0.heap.size W0).alloc (Nat.le_refl _) _).trans (hb1.mono (by simp)))
    clear hb1
    by_cases hl : d.length ≤ 3000 ∧ d'.length ≤ 3000
    · rw [decide_eq_true hl]
      clear hl HN1
      obtain ⟨k0, k1, k2⟩ := cells3 ((HB1.out.block w.heap.size (lt_size C0.out)).trans C0.out)
      go_wp2_with fail
      refine (maysheet_any w.heap.size p s A c d _ (D0.out.below HB1.out (by omega)) (by have := HB1.out.size; omega)).mono ?_
      rintro e w2 ⟨rfl, hb2⟩
      have HB2 := Lib.hid (HB1.out.trans (hb2.mono HB1.out.size))
      clear hb2 k0 k1 k2
      by_cases hM1 : MayS p s d
      · rw [decide_eq_true hM1]
        have HM2 := Lib.hid (fun h => HM.out ⟨hM1, h⟩ : ¬ MayS p' s' d')
        clear hM1
        obtain ⟨j0, j1, j2⟩ := cells3 ((HB2.out.block (w.heap.size + 1) (lt_size C1.out)).trans C1.out)
        go_wp2_with fail
        refine (maysheet_any w.heap.size p' s' A' c' d' _ (D1.out.below HB2.out (by omega)) (by have := HB2.out.size; omega)).mono ?_
        rintro e w3 ⟨rfl, hb3⟩
        rw [decide_eq_false HM2.out]
        have HB3 := Lib.hid (HB2.out.trans (hb3.mono HB2.out.size))
        clear hb3 j0 j1 j2
        go_wp2_with (first | (go_at_call 10; refine (awake_any _).mono ?_; rintro e w4 ⟨rfl, hb4⟩))
        go_ret
        exact ⟨rfl, (HB0.out.trans (HB3.out.mono (by omega))).trans (hb4.mono (by have := HB3.out.size; omega))⟩
      · rw [decide_eq_false hM1]
        clear hM1
        go_wp2_with (first | (go_at_call 10; refine (awake_any _).mono ?_; rintro e w4 ⟨rfl, hb4⟩))
        go_ret
        exact ⟨rfl, (HB0.out.trans (HB2.out.mono (by omega))).trans (hb4.mono (by have := HB2.out.size; omega))⟩
    · rw [decide_eq_false hl]
      clear hl HN1
      go_wp2_with (first | (go_at_call 10; refine (awake_any _).mono ?_; rintro e w4 ⟨rfl, hb4⟩))
      go_ret
      exact ⟨rfl, (HB0.out.trans (HB1.out.mono (by omega))).trans (hb4.mono (by have := HB1.out.size; omega))⟩
end Go.Proofs.Ytfjijpejoocngaa
