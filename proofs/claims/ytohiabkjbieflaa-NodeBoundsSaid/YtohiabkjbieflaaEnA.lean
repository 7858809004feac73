/- Package name: may, May, Find: the landed functions' contracts. -/
import Derived.Test.YtohiabkjbieflaaEnR
import Derived.Test.YtohiabkjbieflaaReg
import Derived.LoopTactic
import Derived.Deep.RegionHeld3
import Derived.Deep.CutBlock
import Derived.Deep.CutRange
namespace Go.Proofs.Ytohiabkjbieflaa
open Go.RowKit Go.Lib

abbrev entV (e : Ent) : Value := .agg #[.string e.1, .int .i64 e.2]
theorem mayE_eq (s : ByteArray) (n : Int) : mayE (s, n) = (mayL s.data.toList && decide (1 ≤ n) && decide (n ≤ 11)) := rfl
set_option maxRecDepth 100000 in
theorem may_ent (s : ByteArray) (n : Int) (w : World) : Calls Try.prog 37 #[.agg #[.string s, .int .i64 n]] w fun x w' => x = .returned (.bool (mayE (s, n))) ∧ Below w.heap.size w w' := by
  rw [mayE_eq]
  obtain ⟨V, hV⟩ : ∃ V, mayL s.data.toList = V := ⟨_, rfl⟩
  rw [hV]
  have hm : ∀ w, Calls Try.prog 38 #[.string s] w fun e w' => e = .returned (.bool V) ∧ Below w.heap.size w w' := fun w => by rw [← hV]; exact may_any s w
  replace hm := Lib.hid hm
  clear hV
  cases V <;> by_cases h1 : 1 ≤ n <;> by_cases h2 : n ≤ 11 <;> first | (exfalso; omega) | skip
  all_goals
    (first | have d1 : decide (1 ≤ n) = true := decide_eq_true h1 | have d1 : decide (1 ≤ n) = false := decide_eq_false h1)
    (first | have d2 : decide (n ≤ 11) = true := decide_eq_true h2 | have d2 : decide (n ≤ 11) = false := decide_eq_false h2)
    rw [d1, d2]
    go_enter Try.func37, Try.ntmps37
    go_wp2_with (first
      | (go_at_call 38; (with_reducible refine (hm.out _).mono ?_); rintro e w1 ⟨rfl, hb1⟩; have hq : w1.cell? ⟨w.heap.size, 1, none⟩ = some (.int .i64 n) := (hb1.cell (p := ⟨w.heap.size, 1, none⟩) (by simp)).trans (box_cells _ _ _ _).2; replace hb1 := Lib.hid (((Below.refl _ w).alloc (Nat.le_refl _) _).trans (hb1.mono (by simp))))
      | fail)
    go_ret
    exact ⟨rfl, hb1.out⟩
theorem mayEs_long {l : List Ent} (h : ¬ l.length ≤ 10) : mayEs l = false := by
  unfold mayEs; rw [decide_eq_false h]; rfl
theorem mayEs_one {l : List Ent} {i : Nat} (h : i < l.length) (e : mayE l[i] = false) : mayEs l = false := by
  have : l.all mayE = false := List.all_eq_false.2 ⟨l[i], List.getElem_mem h, by simp [e]⟩
  unfold mayEs; rw [this]; simp
theorem mayEs_two {l : List Ent} {i : Nat} (h : i + 1 < l.length) (e : ltB l[i].1 l[i + 1].1 = false) : mayEs l = false := by
  unfold mayEs; rw [ris_at i h e]; simp
theorem mayEs_all {l : List Ent} (h : l.length ≤ 10) (h1 : ∀ i (h : i < l.length), mayE l[i] = true) (h2 : ∀ i (h : i + 1 < l.length), ltB l[i].1 l[i + 1].1 = true) : mayEs l = true := by
  have : l.all mayE = true := List.all_eq_true.2 fun e he => by
    obtain ⟨i, hi, rfl⟩ := List.getElem_of_mem he
    exact h1 i hi
  unfold mayEs; rw [decide_eq_true h, this, ris_of h2]; rfl
theorem i64w_idE (x : Int) (h : -9223372036854775808 ≤ x ∧ x ≤ 9223372036854775807) : IntKind.i64.wrap x = x := by
  rw [IntKind.wrap_i64]; omega
set_option maxRecDepth 100000 in
set_option maxHeartbeats 2000000 in
theorem mays_any (A : Option Addr) (c : Nat) (l : List Ent) (w : World) (hA : ELies w A l) : Calls Try.prog 35 #[.slice A l.length c] w fun x w' => x = .returned (.bool (mayEs l)) ∧ Below w.heap.size w w' := by
  by_cases h10 : l.length ≤ 10
  case neg =>
    rw [mayEs_long h10]
    have d1 : decide ((10 : Int) < (l.length : Int)) = true := decide_eq_true (by omega)
    go_enter Try.func35, Try.ntmps35
    go_wp2_with fail
    go_ret
    exact ⟨rfl, Below.refl _ _⟩
  have d1 : decide ((10 : Int) < (l.length : Int)) = false := decide_eq_false (by omega)
  have HA := Lib.hid hA
  obtain ⟨R, hR⟩ : ∃ R, mayEs l = R := ⟨_, rfl⟩
  rw [hR]
  replace hR := Lib.hid hR
  clear hA
  go_enter Try.func35, Try.ntmps35
  go_wp2_with fail
  go_loopw [3, 4, 10] (fun _ _ v10 wr => ∃ jx : Nat, jx ≤ l.length ∧ v10 = .int .i64 jx ∧ Hid ((∀ i (h : i < l.length), i < jx → mayE l[i] = true) ∧ (∀ i (h : i + 1 < l.length), i + 1 < jx → ltB l[i].1 l[i + 1].1 = true)) ∧ Below w.heap.size w wr) (fun _ _ v10 _ => l.length - (RowKit.intOf v10).toNat)
  case atStart => exact ⟨0, Nat.zero_le _, rfl, Lib.hid ⟨fun i _ h => absurd h (Nat.not_lt_zero i), fun i _ h => absurd h (Nat.not_lt_zero _)⟩, Below.refl _ _⟩
  case round =>
    obtain ⟨jx, hj, rfl, HI, hB⟩ := hrel
    have HB := Lib.hid hB
    have hs := hB.size
    clear hB
    by_cases hj1 : jx < l.length
    · obtain ⟨B, o, rfl, hBs, hc⟩ := (HA.out.below HB.out) (by omega)
      have d2 : decide ((jx : Int) < (l.length : Int)) = true := decide_eq_true (by omega)
      obtain ⟨k0, k1⟩ := hc jx hj1
      obtain ⟨m, hm⟩ : ∃ m, mayE l[jx] = m := ⟨_, rfl⟩
      have hm2 := Lib.hid hm
      obtain ⟨q, hq⟩ : ∃ q, l[jx] = q := ⟨_, rfl⟩
      have hq2 := Lib.hid hq
      rw [hq] at k0 k1 hm
      obtain ⟨s, n⟩ := q
      have hcall := fun w => may_ent s n w
      rw [hm] at hcall
      have HC := Lib.hid hcall
      clear hm hq hcall
      have hc' := Lib.hid hc
      clear hc
      have HBW := Lib.hid (HB.out.alloc (by omega) (.cells #[.string s, .int .i64 n] 38))
      have HRW := Lib.hid ((Below.refl wr.heap.size wr).alloc (Nat.le_refl _) (.cells #[.string s, .int .i64 n] 38))
      have HX := Lib.hid (box_cells wr (.string s) (.int .i64 n) 38)
      have hlt : Hid (wr.heap.size < (wr.alloc (.cells #[.string s, .int .i64 n] 38)).heap.size) := Lib.hid (by simp)
      cases m with
      | false =>
        have hF : R = false := by rw [← hR.out]; exact mayEs_one hj1 hm2.out
        subst hF
        go_wp2_with fail
        generalize wr.alloc _ = W at HBW HRW HX hlt ⊢
        have HK : Hid (∀ w1, Below W.heap.size W w1 → w1.cell? ⟨wr.heap.size, 0, none⟩ = some (.string s) ∧ w1.cell? ⟨wr.heap.size, 1, none⟩ = some (.int .i64 n)) := Lib.hid fun w1 h => ⟨(h.cell (p := ⟨wr.heap.size, 0, none⟩) hlt.out).trans HX.out.1, (h.cell (p := ⟨wr.heap.size, 1, none⟩) hlt.out).trans HX.out.2⟩
        clear k0 k1
        refine region_st (fun j v w' => match j with | 0 => v = .agg #[.string s, .int .i64 n] | 1 => v = .bool false | 2 => v = .bool true | 3 => v = .bool true | 4 => v = undef | 5 => v = undef | 6 => v = undef | 7 => v = undef | 8 => v = undef | 9 => v = undef | 10 => v = undef | 11 => v = undef | 12 => v = undef | 13 => v = undef | 14 => v = undef | 15 => v = undef | 16 => v = undef | 17 => v = .bool true | _ => True) (fun _ w' => Below W.heap.size W w') (fun w1 w2 => Below w1.heap.size w1 w2) (by kernel_rfl) (by kernel_rfl) (by kernel_rfl) ?hR ?hG ?hops ?hend
        case hR =>
          intro j v w1 w2 hv hb
          match j, hv with
          | 0, hv => exact hv
          | 1, hv => exact hv
          | 2, hv => exact hv
          | 3, hv => exact hv
          | 4, hv => exact hv
          | 5, hv => exact hv
          | 6, hv => exact hv
          | 7, hv => exact hv
          | 8, hv => exact hv
          | 9, hv => exact hv
          | 10, hv => exact hv
          | 11, hv => exact hv
          | 12, hv => exact hv
          | 13, hv => exact hv
          | 14, hv => exact hv
          | 15, hv => exact hv
          | 16, hv => exact hv
          | 17, hv => exact hv
          | _ + 18, _ => exact trivial
        case hG => exact (Below.refl _ _).drew
        case hops =>
          refine OpsOkS.cons ?o0 (OpsOkS.cons ?o1 (OpsOkS.cons ?o2 (OpsOkS.cons ?o3 (OpsOkS.cons ?o4 (OpsOkS.cons ?o5 (OpsOkS.cons ?o6 (OpsOkS.cons ?o7 (OpsOkS.cons ?o8 (OpsOkS.cons ?o9 (OpsOkS.cons ?o10 (OpsOkS.cons ?o11 (OpsOkS.cons ?o12 (OpsOkS.cons ?o13 (OpsOkS.cons ?o14 (OpsOkS.cons ?o15 (OpsOkS.cons ?o16 (OpsOkS.cons ?o17 OpsOkS.nil)))))))))))))))))
          case o0 =>
            intro a w1 Kx hG need old hsz fresh hKx
            have e0 : a.tmps[4]?.getD undef = .pointer (some ⟨wr.heap.size, 0, none⟩) := by rw [← Array.getD_eq_getD_getElem?]; exact old 4 (by kernel_rfl)
            have j0 := (HK.out w1 hG).1
            have j1 := (HK.out w1 hG).2
            refine op_value (v := .agg #[.string s, .int .i64 n]) (wanted_none rfl) ?_ (hKx _ w1 rfl hG (Below.refl _ _))
            simp [execOp, go_sem, e0, j0, j1]
          case o1 =>
            intro a w1 Kx hG need old hsz fresh hKx
            have e0 : a.tmps[15]?.getD undef = .agg #[.string s, .int .i64 n] := by rw [← Array.getD_eq_getD_getElem?]; exact (need 0 (by kernel_rfl) (by kernel_rfl))
            refine op_call (wanted_none rfl) (f := 37) (args := #[.agg #[.string s, .int .i64 n]]) ?run ((HC.out w1).mono ?post)
            case run => simp [go_sem, e0]
            case post =>
              rintro e w2 ⟨rfl, hb2⟩
              exact ⟨_, rfl, hKx _ w2 rfl (hG.trans (hb2.mono hG.size)) hb2⟩
          case o2 =>
            intro a w1 Kx hG need old hsz fresh hKx
            have e0 : a.tmps[16]?.getD undef = .bool false := by rw [← Array.getD_eq_getD_getElem?]; exact (need 1 (by kernel_rfl) (by kernel_rfl))
            refine op_value (v := .bool true) (wanted_none rfl) ?_ (hKx _ w1 rfl hG (Below.refl _ _))
            simp [execOp, go_sem, e0]
          case o3 =>
            intro a w1 Kx hG need old hsz fresh hKx
            have e0 : a.tmps[17]?.getD undef = .bool true := by rw [← Array.getD_eq_getD_getElem?]; exact (need 2 (by kernel_rfl) (by kernel_rfl))
            refine op_value (v := .bool true) (wanted_none rfl) ?_ (hKx _ w1 rfl hG (Below.refl _ _))
            simp [execOp, go_sem, e0]
          case o4 =>
            intro a w1 Kx hG need old hsz fresh hKx
            exact skip_op (j := 3) rfl (need 3 (by kernel_rfl) (by kernel_rfl)) (by decide) (hKx undef w1 rfl hG (Below.refl _ _))
          case o5 =>
            intro a w1 Kx hG need old hsz fresh hKx
            exact skip_op (j := 3) rfl (need 3 (by kernel_rfl) (by kernel_rfl)) (by decide) (hKx undef w1 rfl hG (Below.refl _ _))
          case o6 =>
            intro a w1 Kx hG need old hsz fresh hKx
            exact skip_op (j := 3) rfl (need 3 (by kernel_rfl) (by kernel_rfl)) (by decide) (hKx undef w1 rfl hG (Below.refl _ _))
          case o7 =>
            intro a w1 Kx hG need old hsz fresh hKx
            exact skip_undef (j := 6) rfl (need 6 (by kernel_rfl) (by kernel_rfl)) (hKx undef w1 rfl hG (Below.refl _ _))
          case o8 =>
            intro a w1 Kx hG need old hsz fresh hKx
            exact skip_undef (j := 6) rfl (need 6 (by kernel_rfl) (by kernel_rfl)) (hKx undef w1 rfl hG (Below.refl _ _))
          case o9 =>
            intro a w1 Kx hG need old hsz fresh hKx
            exact skip_undef (j := 6) rfl (need 6 (by kernel_rfl) (by kernel_rfl)) (hKx undef w1 rfl hG (Below.refl _ _))
          case o10 =>
            intro a w1 Kx hG need old hsz fresh hKx
            exact skip_undef (j := 6) rfl (need 6 (by kernel_rfl) (by kernel_rfl)) (hKx undef w1 rfl hG (Below.refl _ _))
          case o11 =>
            intro a w1 Kx hG need old hsz fresh hKx
            exact skip_undef (j := 6) rfl (need 6 (by kernel_rfl) (by kernel_rfl)) (hKx undef w1 rfl hG (Below.refl _ _))
          case o12 =>
            intro a w1 Kx hG need old hsz fresh hKx
            exact skip_undef (j := 6) rfl (need 6 (by kernel_rfl) (by kernel_rfl)) (hKx undef w1 rfl hG (Below.refl _ _))
          case o13 =>
            intro a w1 Kx hG need old hsz fresh hKx
            exact skip_undef (j := 6) rfl (need 6 (by kernel_rfl) (by kernel_rfl)) (hKx undef w1 rfl hG (Below.refl _ _))
          case o14 =>
            intro a w1 Kx hG need old hsz fresh hKx
            exact skip_undef (j := 6) rfl (need 6 (by kernel_rfl) (by kernel_rfl)) (hKx undef w1 rfl hG (Below.refl _ _))
          case o15 =>
            intro a w1 Kx hG need old hsz fresh hKx
            exact skip_undef (j := 6) rfl (need 6 (by kernel_rfl) (by kernel_rfl)) (hKx undef w1 rfl hG (Below.refl _ _))
          case o16 =>
            intro a w1 Kx hG need old hsz fresh hKx
            exact skip_op (j := 3) rfl (need 3 (by kernel_rfl) (by kernel_rfl)) (by decide) (hKx undef w1 rfl hG (Below.refl _ _))
          case o17 =>
            intro a w1 Kx hG need old hsz fresh hKx
            have e0 : a.tmps[18]?.getD undef = .bool true := by rw [← Array.getD_eq_getD_getElem?]; exact (need 3 (by kernel_rfl) (by kernel_rfl))
            refine op_value (v := .bool true) (wanted_none rfl) ?_ (hKx _ w1 rfl hG (Below.refl _ _))
            simp [execOp, go_sem, asBool, e0]
        case hend =>
          intro a w6 hG hde hsz hφ hold
          obtain rfl := act_puts [(15, .agg #[.string s, .int .i64 n]), (16, .bool false), (17, .bool true), (18, .bool true), (19, undef), (20, undef), (21, undef), (22, undef), (23, undef), (24, undef), (25, undef), (26, undef), (27, undef), (28, undef), (29, undef), (30, undef), (31, undef), (32, .bool true)] [15, 16, 17, 18, 19, 20, 21, 22, 23, 24, 25, 26, 27, 28, 29, 30, 31, 32] rfl (by kernel_rfl) (by kernel_rfl) hde hsz (List.forall_mem_cons.2 ⟨(show a.tmps.getD 15 undef = .agg #[.string s, .int .i64 n] from (hφ 0 (by kernel_rfl))), (List.forall_mem_cons.2 ⟨(show a.tmps.getD 16 undef = .bool false from (hφ 1 (by kernel_rfl))), (List.forall_mem_cons.2 ⟨(show a.tmps.getD 17 undef = .bool true from (hφ 2 (by kernel_rfl))), (List.forall_mem_cons.2 ⟨(show a.tmps.getD 18 undef = .bool true from (hφ 3 (by kernel_rfl))), (List.forall_mem_cons.2 ⟨(show a.tmps.getD 19 undef = undef from (hφ 4 (by kernel_rfl))), (List.forall_mem_cons.2 ⟨(show a.tmps.getD 20 undef = undef from (hφ 5 (by kernel_rfl))), (List.forall_mem_cons.2 ⟨(show a.tmps.getD 21 undef = undef from (hφ 6 (by kernel_rfl))), (List.forall_mem_cons.2 ⟨(show a.tmps.getD 22 undef = undef from (hφ 7 (by kernel_rfl))), (List.forall_mem_cons.2 ⟨(show a.tmps.getD 23 undef = undef from (hφ 8 (by kernel_rfl))), (List.forall_mem_cons.2 ⟨(show a.tmps.getD 24 undef = undef from (hφ 9 (by kernel_rfl))), (List.forall_mem_cons.2 ⟨(show a.tmps.getD 25 undef = undef from (hφ 10 (by kernel_rfl))), (List.forall_mem_cons.2 ⟨(show a.tmps.getD 26 undef = undef from (hφ 11 (by kernel_rfl))), (List.forall_mem_cons.2 ⟨(show a.tmps.getD 27 undef = undef from (hφ 12 (by kernel_rfl))), (List.forall_mem_cons.2 ⟨(show a.tmps.getD 28 undef = undef from (hφ 13 (by kernel_rfl))), (List.forall_mem_cons.2 ⟨(show a.tmps.getD 29 undef = undef from (hφ 14 (by kernel_rfl))), (List.forall_mem_cons.2 ⟨(show a.tmps.getD 30 undef = undef from (hφ 15 (by kernel_rfl))), (List.forall_mem_cons.2 ⟨(show a.tmps.getD 31 undef = undef from (hφ 16 (by kernel_rfl))), (List.forall_mem_cons.2 ⟨(show a.tmps.getD 32 undef = .bool true from (hφ 17 (by kernel_rfl))), (fun _ h => absurd h (by simp))⟩)⟩)⟩)⟩)⟩)⟩)⟩)⟩)⟩)⟩)⟩)⟩)⟩)⟩)⟩)⟩)⟩)⟩) hold
          clear hφ hold hsz hde
          simp only [putAll]
          go_frame
          go_wp2_with fail
          go_ret
          exact ⟨rfl, HBW.out.trans (hG.mono HBW.out.size)⟩
      | true =>
        by_cases hj0 : jx = 0
        · have d3 : decide ((0 : Int) < (jx : Int)) = false := decide_eq_false (by omega)
          have hjz := Lib.hid hj0
          clear hj0
          go_wp2_with fail
          generalize wr.alloc _ = W at HBW HRW HX hlt ⊢
          have HK : Hid (∀ w1, Below W.heap.size W w1 → w1.cell? ⟨wr.heap.size, 0, none⟩ = some (.string s) ∧ w1.cell? ⟨wr.heap.size, 1, none⟩ = some (.int .i64 n)) := Lib.hid fun w1 h => ⟨(h.cell (p := ⟨wr.heap.size, 0, none⟩) hlt.out).trans HX.out.1, (h.cell (p := ⟨wr.heap.size, 1, none⟩) hlt.out).trans HX.out.2⟩
          clear k0 k1
          refine region_st (fun j v w' => match j with | 0 => v = .agg #[.string s, .int .i64 n] | 1 => v = .bool true | 2 => v = .bool false | 3 => v = .bool false | 4 => v = .int .i64 (jx : Nat) | 5 => v = .bool false | 6 => v = .bool false | 7 => v = undef | 8 => v = undef | 9 => v = undef | 10 => v = undef | 11 => v = undef | 12 => v = undef | 13 => v = undef | 14 => v = undef | 15 => v = undef | 16 => v = .bool false | 17 => v = .bool false | _ => True) (fun _ w' => Below W.heap.size W w') (fun w1 w2 => Below w1.heap.size w1 w2) (by kernel_rfl) (by kernel_rfl) (by kernel_rfl) ?hR ?hG ?hops ?hend
          case hR =>
            intro j v w1 w2 hv hb
            match j, hv with
            | 0, hv => exact hv
            | 1, hv => exact hv
            | 2, hv => exact hv
            | 3, hv => exact hv
            | 4, hv => exact hv
            | 5, hv => exact hv
            | 6, hv => exact hv
            | 7, hv => exact hv
            | 8, hv => exact hv
            | 9, hv => exact hv
            | 10, hv => exact hv
            | 11, hv => exact hv
            | 12, hv => exact hv
            | 13, hv => exact hv
            | 14, hv => exact hv
            | 15, hv => exact hv
            | 16, hv => exact hv
            | 17, hv => exact hv
            | _ + 18, _ => exact trivial
          case hG => exact (Below.refl _ _).drew
          case hops =>
            refine OpsOkS.cons ?o0 (OpsOkS.cons ?o1 (OpsOkS.cons ?o2 (OpsOkS.cons ?o3 (OpsOkS.cons ?o4 (OpsOkS.cons ?o5 (OpsOkS.cons ?o6 (OpsOkS.cons ?o7 (OpsOkS.cons ?o8 (OpsOkS.cons ?o9 (OpsOkS.cons ?o10 (OpsOkS.cons ?o11 (OpsOkS.cons ?o12 (OpsOkS.cons ?o13 (OpsOkS.cons ?o14 (OpsOkS.cons ?o15 (OpsOkS.cons ?o16 (OpsOkS.cons ?o17 OpsOkS.nil)))))))))))))))))
            case o0 =>
              intro a w1 Kx hG need old hsz fresh hKx
              have e0 : a.tmps[4]?.getD undef = .pointer (some ⟨wr.heap.size, 0, none⟩) := by rw [← Array.getD_eq_getD_getElem?]; exact old 4 (by kernel_rfl)
              have j0 := (HK.out w1 hG).1
              have j1 := (HK.out w1 hG).2
              refine op_value (v := .agg #[.string s, .int .i64 n]) (wanted_none rfl) ?_ (hKx _ w1 rfl hG (Below.refl _ _))
              simp [execOp, go_sem, e0, j0, j1]
            case o1 =>
              intro a w1 Kx hG need old hsz fresh hKx
              have e0 : a.tmps[15]?.getD undef = .agg #[.string s, .int .i64 n] := by rw [← Array.getD_eq_getD_getElem?]; exact (need 0 (by kernel_rfl) (by kernel_rfl))
              refine op_call (wanted_none rfl) (f := 37) (args := #[.agg #[.string s, .int .i64 n]]) ?run ((HC.out w1).mono ?post)
              case run => simp [go_sem, e0]
              case post =>
                rintro e w2 ⟨rfl, hb2⟩
                exact ⟨_, rfl, hKx _ w2 rfl (hG.trans (hb2.mono hG.size)) hb2⟩
            case o2 =>
              intro a w1 Kx hG need old hsz fresh hKx
              have e0 : a.tmps[16]?.getD undef = .bool true := by rw [← Array.getD_eq_getD_getElem?]; exact (need 1 (by kernel_rfl) (by kernel_rfl))
              refine op_value (v := .bool false) (wanted_none rfl) ?_ (hKx _ w1 rfl hG (Below.refl _ _))
              simp [execOp, go_sem, e0]
            case o3 =>
              intro a w1 Kx hG need old hsz fresh hKx
              have e0 : a.tmps[17]?.getD undef = .bool false := by rw [← Array.getD_eq_getD_getElem?]; exact (need 2 (by kernel_rfl) (by kernel_rfl))
              refine op_value (v := .bool false) (wanted_none rfl) ?_ (hKx _ w1 rfl hG (Below.refl _ _))
              simp [execOp, go_sem, e0]
            case o4 =>
              intro a w1 Kx hG need old hsz fresh hKx
              have e0 : a.tmps[3]?.getD undef = .int .i64 (jx : Nat) := by rw [← Array.getD_eq_getD_getElem?]; exact old 3 (by kernel_rfl)
              refine op_value (v := .int .i64 (jx : Nat)) (wanted_of (j := 3) rfl (need 3 (by kernel_rfl) (by kernel_rfl))) ?_ (hKx _ w1 rfl hG (Below.refl _ _))
              simp [execOp, go_sem, e0]
            case o5 =>
              intro a w1 Kx hG need old hsz fresh hKx
              have e0 : a.tmps[19]?.getD undef = .int .i64 (jx : Nat) := by rw [← Array.getD_eq_getD_getElem?]; exact (need 4 (by kernel_rfl) (by kernel_rfl))
              refine op_value (v := .bool false) (wanted_of (j := 3) rfl (need 3 (by kernel_rfl) (by kernel_rfl))) ?_ (hKx _ w1 rfl hG (Below.refl _ _))
              simp [execOp, go_sem, e0]; exact hjz.out
            case o6 =>
              intro a w1 Kx hG need old hsz fresh hKx
              have e0 : a.tmps[20]?.getD undef = .bool false := by rw [← Array.getD_eq_getD_getElem?]; exact (need 5 (by kernel_rfl) (by kernel_rfl))
              refine op_value (v := .bool false) (wanted_of (j := 3) rfl (need 3 (by kernel_rfl) (by kernel_rfl))) ?_ (hKx _ w1 rfl hG (Below.refl _ _))
              simp [execOp, go_sem, e0]
            case o7 =>
              intro a w1 Kx hG need old hsz fresh hKx
              exact skip_op (j := 6) rfl (need 6 (by kernel_rfl) (by kernel_rfl)) (by decide) (hKx undef w1 rfl hG (Below.refl _ _))
            case o8 =>
              intro a w1 Kx hG need old hsz fresh hKx
              exact skip_op (j := 6) rfl (need 6 (by kernel_rfl) (by kernel_rfl)) (by decide) (hKx undef w1 rfl hG (Below.refl _ _))
            case o9 =>
              intro a w1 Kx hG need old hsz fresh hKx
              exact skip_op (j := 6) rfl (need 6 (by kernel_rfl) (by kernel_rfl)) (by decide) (hKx undef w1 rfl hG (Below.refl _ _))
            case o10 =>
              intro a w1 Kx hG need old hsz fresh hKx
              exact skip_op (j := 6) rfl (need 6 (by kernel_rfl) (by kernel_rfl)) (by decide) (hKx undef w1 rfl hG (Below.refl _ _))
            case o11 =>
              intro a w1 Kx hG need old hsz fresh hKx
              exact skip_op (j := 6) rfl (need 6 (by kernel_rfl) (by kernel_rfl)) (by decide) (hKx undef w1 rfl hG (Below.refl _ _))
            case o12 =>
              intro a w1 Kx hG need old hsz fresh hKx
              exact skip_op (j := 6) rfl (need 6 (by kernel_rfl) (by kernel_rfl)) (by decide) (hKx undef w1 rfl hG (Below.refl _ _))
            case o13 =>
              intro a w1 Kx hG need old hsz fresh hKx
              exact skip_op (j := 6) rfl (need 6 (by kernel_rfl) (by kernel_rfl)) (by decide) (hKx undef w1 rfl hG (Below.refl _ _))
            case o14 =>
              intro a w1 Kx hG need old hsz fresh hKx
              exact skip_op (j := 6) rfl (need 6 (by kernel_rfl) (by kernel_rfl)) (by decide) (hKx undef w1 rfl hG (Below.refl _ _))
            case o15 =>
              intro a w1 Kx hG need old hsz fresh hKx
              exact skip_op (j := 6) rfl (need 6 (by kernel_rfl) (by kernel_rfl)) (by decide) (hKx undef w1 rfl hG (Below.refl _ _))
            case o16 =>
              intro a w1 Kx hG need old hsz fresh hKx
              have e0 : a.tmps[21]?.getD undef = .bool false := by rw [← Array.getD_eq_getD_getElem?]; exact (need 6 (by kernel_rfl) (by kernel_rfl))
              refine op_value (v := .bool false) (wanted_of (j := 3) rfl (need 3 (by kernel_rfl) (by kernel_rfl))) ?_ (hKx _ w1 rfl hG (Below.refl _ _))
              simp [execOp, go_sem, asBool, e0]
            case o17 =>
              intro a w1 Kx hG need old hsz fresh hKx
              have e0 : a.tmps[18]?.getD undef = .bool false := by rw [← Array.getD_eq_getD_getElem?]; exact (need 3 (by kernel_rfl) (by kernel_rfl))
              have e1 : a.tmps[31]?.getD undef = .bool false := by rw [← Array.getD_eq_getD_getElem?]; exact (need 16 (by kernel_rfl) (by kernel_rfl))
              refine op_value (v := .bool false) (wanted_none rfl) ?_ (hKx _ w1 rfl hG (Below.refl _ _))
              simp [execOp, go_sem, asBool, e0, e1]
          case hend =>
            intro a w6 hG hde hsz hφ hold
            obtain rfl := act_puts [(15, .agg #[.string s, .int .i64 n]), (16, .bool true), (17, .bool false), (18, .bool false), (19, .int .i64 (jx : Nat)), (20, .bool false), (21, .bool false), (22, undef), (23, undef), (24, undef), (25, undef), (26, undef), (27, undef), (28, undef), (29, undef), (30, undef), (31, .bool false), (32, .bool false)] [15, 16, 17, 18, 19, 20, 21, 22, 23, 24, 25, 26, 27, 28, 29, 30, 31, 32] rfl (by kernel_rfl) (by kernel_rfl) hde hsz (List.forall_mem_cons.2 ⟨(show a.tmps.getD 15 undef = .agg #[.string s, .int .i64 n] from (hφ 0 (by kernel_rfl))), (List.forall_mem_cons.2 ⟨(show a.tmps.getD 16 undef = .bool true from (hφ 1 (by kernel_rfl))), (List.forall_mem_cons.2 ⟨(show a.tmps.getD 17 undef = .bool false from (hφ 2 (by kernel_rfl))), (List.forall_mem_cons.2 ⟨(show a.tmps.getD 18 undef = .bool false from (hφ 3 (by kernel_rfl))), (List.forall_mem_cons.2 ⟨(show a.tmps.getD 19 undef = .int .i64 (jx : Nat) from (hφ 4 (by kernel_rfl))), (List.forall_mem_cons.2 ⟨(show a.tmps.getD 20 undef = .bool false from (hφ 5 (by kernel_rfl))), (List.forall_mem_cons.2 ⟨(show a.tmps.getD 21 undef = .bool false from (hφ 6 (by kernel_rfl))), (List.forall_mem_cons.2 ⟨(show a.tmps.getD 22 undef = undef from (hφ 7 (by kernel_rfl))), (List.forall_mem_cons.2 ⟨(show a.tmps.getD 23 undef = undef from (hφ 8 (by kernel_rfl))), (List.forall_mem_cons.2 ⟨(show a.tmps.getD 24 undef = undef from (hφ 9 (by kernel_rfl))), (List.forall_mem_cons.2 ⟨(show a.tmps.getD 25 undef = undef from (hφ 10 (by kernel_rfl))), (List.forall_mem_cons.2 ⟨(show a.tmps.getD 26 undef = undef from (hφ 11 (by kernel_rfl))), (List.forall_mem_cons.2 ⟨(show a.tmps.getD 27 undef = undef from (hφ 12 (by kernel_rfl))), (List.forall_mem_cons.2 ⟨(show a.tmps.getD 28 undef = undef from (hφ 13 (by kernel_rfl))), (List.forall_mem_cons.2 ⟨(show a.tmps.getD 29 undef = undef from (hφ 14 (by kernel_rfl))), (List.forall_mem_cons.2 ⟨(show a.tmps.getD 30 undef = undef from (hφ 15 (by kernel_rfl))), (List.forall_mem_cons.2 ⟨(show a.tmps.getD 31 undef = .bool false from (hφ 16 (by kernel_rfl))), (List.forall_mem_cons.2 ⟨(show a.tmps.getD 32 undef = .bool false from (hφ 17 (by kernel_rfl))), (fun _ h => absurd h (by simp))⟩)⟩)⟩)⟩)⟩)⟩)⟩)⟩)⟩)⟩)⟩)⟩)⟩)⟩)⟩)⟩)⟩)⟩) hold
            clear hφ hold hsz hde
            simp only [putAll]
            go_frame
            have HB2 := Lib.hid (HBW.out.trans (hG.mono HBW.out.size))
            clear hG
            go_wp2_with fail
            go_roundw
            case rel =>
              refine ⟨jx + 1, by omega, by go_num, Lib.hid ⟨fun i hi h => ?_, fun i hi h => absurd h (by have := hjz.out; omega)⟩, HB2.out⟩
              obtain rfl : i = jx := by have := hjz.out; omega
              exact hm2.out
            case measure => simp [RowKit.intOf]; omega
        · have d3 : decide ((0 : Int) < (jx : Int)) = true := decide_eq_true (by omega)
          obtain ⟨k, hk⟩ : ∃ k, jx = k + 1 := ⟨jx - 1, by omega⟩
          have HWK : IntKind.i64.wrap ((jx : Int) - 1) = (k : Nat) := by rw [i64w_idE _ (by omega)]; omega
          have hkl : k < l.length := by omega
          have hcd := (hc'.out k hkl).1
          obtain ⟨t, ht⟩ : ∃ t, ltB l[k].1 s = t := ⟨_, rfl⟩
          have ht2 := Lib.hid ht
          obtain ⟨z, hz⟩ : ∃ z, l[k].1 = z := ⟨_, rfl⟩
          rw [hz] at hcd ht
          rw [← less_ltB] at ht
          have ht3 : Hid (Op.bytesLess z.toList s.toList = t) := Lib.hid ht
          have hkk := Lib.hid hk
          clear hz ht hk
          have HIX : ∀ w, (Instr.indexAt 23 (.slice (some ⟨B, o, none⟩) l.length c) (.int .i64 (k : Nat))).run Try.prog w = .ok (.pointer (some ⟨B, o + k * 2, none⟩)) w := fun w => by
            have e0 : ¬ ((k : Int) < 0) := by omega
            simp [go_sem, hkl]
          go_wp2_with fail
          generalize wr.alloc _ = W at HBW HRW HX hlt ⊢
          have HK : Hid (∀ w1, Below W.heap.size W w1 → w1.cell? ⟨wr.heap.size, 0, none⟩ = some (.string s) ∧ w1.cell? ⟨wr.heap.size, 1, none⟩ = some (.int .i64 n) ∧ w1.cell? ⟨B, o + k * 2, none⟩ = some (.string z)) := Lib.hid fun w1 h => ⟨(h.cell (p := ⟨wr.heap.size, 0, none⟩) hlt.out).trans HX.out.1, (h.cell (p := ⟨wr.heap.size, 1, none⟩) hlt.out).trans HX.out.2, (h.cell (p := ⟨B, o + k * 2, none⟩) (Nat.lt_of_lt_of_le hBs HRW.out.size)).trans ((HRW.out.cell (p := ⟨B, o + k * 2, none⟩) hBs).trans hcd)⟩
          have HIX2 := Lib.hid HIX
          clear k0 k1 HIX hcd
          cases t with
          | true =>
            refine region_st (fun j v w' => match j with | 0 => v = .agg #[.string s, .int .i64 n] | 1 => v = .bool true | 2 => v = .bool false | 3 => v = .bool false | 4 => v = .int .i64 (jx : Nat) | 5 => v = .bool true | 6 => v = .bool true | 7 => v = .slice (some ⟨B, o, none⟩) l.length c | 8 => v = .int .i64 (jx : Nat) | 9 => v = .int .i64 (k : Nat) | 10 => v = .pointer (some ⟨B, o + k * 2, none⟩) | 11 => v = .pointer (some ⟨B, o + k * 2, none⟩) | 12 => v = .string z | 13 => v = .pointer (some ⟨wr.heap.size, 0, none⟩) | 14 => v = .string s | 15 => v = .bool false | 16 => v = .bool false | 17 => v = .bool false | _ => True) (fun _ w' => Below W.heap.size W w') (fun w1 w2 => Below w1.heap.size w1 w2) (by kernel_rfl) (by kernel_rfl) (by kernel_rfl) ?hR ?hG ?hops ?hend
            case hR =>
              intro j v w1 w2 hv hb
              match j, hv with
              | 0, hv => exact hv
              | 1, hv => exact hv
              | 2, hv => exact hv
              | 3, hv => exact hv
              | 4, hv => exact hv
              | 5, hv => exact hv
              | 6, hv => exact hv
              | 7, hv => exact hv
              | 8, hv => exact hv
              | 9, hv => exact hv
              | 10, hv => exact hv
              | 11, hv => exact hv
              | 12, hv => exact hv
              | 13, hv => exact hv
              | 14, hv => exact hv
              | 15, hv => exact hv
              | 16, hv => exact hv
              | 17, hv => exact hv
              | _ + 18, _ => exact trivial
            case hG => exact (Below.refl _ _).drew
            case hops =>
              refine OpsOkS.cons ?o0 (OpsOkS.cons ?o1 (OpsOkS.cons ?o2 (OpsOkS.cons ?o3 (OpsOkS.cons ?o4 (OpsOkS.cons ?o5 (OpsOkS.cons ?o6 (OpsOkS.cons ?o7 (OpsOkS.cons ?o8 (OpsOkS.cons ?o9 (OpsOkS.cons ?o10 (OpsOkS.cons ?o11 (OpsOkS.cons ?o12 (OpsOkS.cons ?o13 (OpsOkS.cons ?o14 (OpsOkS.cons ?o15 (OpsOkS.cons ?o16 (OpsOkS.cons ?o17 OpsOkS.nil)))))))))))))))))
              case o0 =>
                intro a w1 Kx hG need old hsz fresh hKx
                have e0 : a.tmps[4]?.getD undef = .pointer (some ⟨wr.heap.size, 0, none⟩) := by rw [← Array.getD_eq_getD_getElem?]; exact old 4 (by kernel_rfl)
                have j0 := (HK.out w1 hG).1
                have j1 := (HK.out w1 hG).2.1
                refine op_value (v := .agg #[.string s, .int .i64 n]) (wanted_none rfl) ?_ (hKx _ w1 rfl hG (Below.refl _ _))
                simp [execOp, go_sem, e0, j0, j1]
              case o1 =>
                intro a w1 Kx hG need old hsz fresh hKx
                have e0 : a.tmps[15]?.getD undef = .agg #[.string s, .int .i64 n] := by rw [← Array.getD_eq_getD_getElem?]; exact (need 0 (by kernel_rfl) (by kernel_rfl))
                refine op_call (wanted_none rfl) (f := 37) (args := #[.agg #[.string s, .int .i64 n]]) ?run ((HC.out w1).mono ?post)
                case run => simp [go_sem, e0]
                case post =>
                  rintro e w2 ⟨rfl, hb2⟩
                  exact ⟨_, rfl, hKx _ w2 rfl (hG.trans (hb2.mono hG.size)) hb2⟩
              case o2 =>
                intro a w1 Kx hG need old hsz fresh hKx
                have e0 : a.tmps[16]?.getD undef = .bool true := by rw [← Array.getD_eq_getD_getElem?]; exact (need 1 (by kernel_rfl) (by kernel_rfl))
                refine op_value (v := .bool false) (wanted_none rfl) ?_ (hKx _ w1 rfl hG (Below.refl _ _))
                simp [execOp, go_sem, e0]
              case o3 =>
                intro a w1 Kx hG need old hsz fresh hKx
                have e0 : a.tmps[17]?.getD undef = .bool false := by rw [← Array.getD_eq_getD_getElem?]; exact (need 2 (by kernel_rfl) (by kernel_rfl))
                refine op_value (v := .bool false) (wanted_none rfl) ?_ (hKx _ w1 rfl hG (Below.refl _ _))
                simp [execOp, go_sem, e0]
              case o4 =>
                intro a w1 Kx hG need old hsz fresh hKx
                have e0 : a.tmps[3]?.getD undef = .int .i64 (jx : Nat) := by rw [← Array.getD_eq_getD_getElem?]; exact old 3 (by kernel_rfl)
                refine op_value (v := .int .i64 (jx : Nat)) (wanted_of (j := 3) rfl (need 3 (by kernel_rfl) (by kernel_rfl))) ?_ (hKx _ w1 rfl hG (Below.refl _ _))
                simp [execOp, go_sem, e0]
              case o5 =>
                intro a w1 Kx hG need old hsz fresh hKx
                have e0 : a.tmps[19]?.getD undef = .int .i64 (jx : Nat) := by rw [← Array.getD_eq_getD_getElem?]; exact (need 4 (by kernel_rfl) (by kernel_rfl))
                refine op_value (v := .bool true) (wanted_of (j := 3) rfl (need 3 (by kernel_rfl) (by kernel_rfl))) ?_ (hKx _ w1 rfl hG (Below.refl _ _))
                simp [execOp, go_sem, e0]; omega
              case o6 =>
                intro a w1 Kx hG need old hsz fresh hKx
                have e0 : a.tmps[20]?.getD undef = .bool true := by rw [← Array.getD_eq_getD_getElem?]; exact (need 5 (by kernel_rfl) (by kernel_rfl))
                refine op_value (v := .bool true) (wanted_of (j := 3) rfl (need 3 (by kernel_rfl) (by kernel_rfl))) ?_ (hKx _ w1 rfl hG (Below.refl _ _))
                simp [execOp, go_sem, e0]
              case o7 =>
                intro a w1 Kx hG need old hsz fresh hKx
                have e0 : a.tmps[0]?.getD undef = .slice (some ⟨B, o, none⟩) l.length c := by rw [← Array.getD_eq_getD_getElem?]; exact old 0 (by kernel_rfl)
                refine op_value (v := .slice (some ⟨B, o, none⟩) l.length c) (wanted_of (j := 6) rfl (need 6 (by kernel_rfl) (by kernel_rfl))) ?_ (hKx _ w1 rfl hG (Below.refl _ _))
                simp [execOp, go_sem, e0]
              case o8 =>
                intro a w1 Kx hG need old hsz fresh hKx
                have e0 : a.tmps[3]?.getD undef = .int .i64 (jx : Nat) := by rw [← Array.getD_eq_getD_getElem?]; exact old 3 (by kernel_rfl)
                refine op_value (v := .int .i64 (jx : Nat)) (wanted_of (j := 6) rfl (need 6 (by kernel_rfl) (by kernel_rfl))) ?_ (hKx _ w1 rfl hG (Below.refl _ _))
                simp [execOp, go_sem, e0]
              case o9 =>
                intro a w1 Kx hG need old hsz fresh hKx
                have e0 : a.tmps[23]?.getD undef = .int .i64 (jx : Nat) := by rw [← Array.getD_eq_getD_getElem?]; exact (need 8 (by kernel_rfl) (by kernel_rfl))
                refine op_value (v := .int .i64 (k : Nat)) (wanted_of (j := 6) rfl (need 6 (by kernel_rfl) (by kernel_rfl))) ?_ (hKx _ w1 rfl hG (Below.refl _ _))
                simp [execOp, go_sem, e0, HWK]
              case o10 =>
                intro a w1 Kx hG need old hsz fresh hKx
                have e0 : a.tmps[22]?.getD undef = .slice (some ⟨B, o, none⟩) l.length c := by rw [← Array.getD_eq_getD_getElem?]; exact (need 7 (by kernel_rfl) (by kernel_rfl))
                have e1 : a.tmps[24]?.getD undef = .int .i64 (k : Nat) := by rw [← Array.getD_eq_getD_getElem?]; exact (need 9 (by kernel_rfl) (by kernel_rfl))
                refine op_value (v := .pointer (some ⟨B, o + k * 2, none⟩)) (wanted_of (j := 6) rfl (need 6 (by kernel_rfl) (by kernel_rfl))) ?_ (hKx _ w1 rfl hG (Below.refl _ _))
                simp [execOp, go_sem, e0, e1, HIX2.out]
              case o11 =>
                intro a w1 Kx hG need old hsz fresh hKx
                have e0 : a.tmps[25]?.getD undef = .pointer (some ⟨B, o + k * 2, none⟩) := by rw [← Array.getD_eq_getD_getElem?]; exact (need 10 (by kernel_rfl) (by kernel_rfl))
                refine op_value (v := .pointer (some ⟨B, o + k * 2, none⟩)) (wanted_of (j := 6) rfl (need 6 (by kernel_rfl) (by kernel_rfl))) ?_ (hKx _ w1 rfl hG (Below.refl _ _))
                simp [execOp, go_sem, e0]
              case o12 =>
                intro a w1 Kx hG need old hsz fresh hKx
                have e0 : a.tmps[26]?.getD undef = .pointer (some ⟨B, o + k * 2, none⟩) := by rw [← Array.getD_eq_getD_getElem?]; exact (need 11 (by kernel_rfl) (by kernel_rfl))
                have k0 := (HK.out w1 hG).2.2
                refine op_value (v := .string z) (wanted_of (j := 6) rfl (need 6 (by kernel_rfl) (by kernel_rfl))) ?_ (hKx _ w1 rfl hG (Below.refl _ _))
                simp [execOp, go_sem, e0, k0]
              case o13 =>
                intro a w1 Kx hG need old hsz fresh hKx
                have e0 : a.tmps[4]?.getD undef = .pointer (some ⟨wr.heap.size, 0, none⟩) := by rw [← Array.getD_eq_getD_getElem?]; exact old 4 (by kernel_rfl)
                refine op_value (v := .pointer (some ⟨wr.heap.size, 0, none⟩)) (wanted_of (j := 6) rfl (need 6 (by kernel_rfl) (by kernel_rfl))) ?_ (hKx _ w1 rfl hG (Below.refl _ _))
                simp [execOp, go_sem, e0]
              case o14 =>
                intro a w1 Kx hG need old hsz fresh hKx
                have e0 : a.tmps[28]?.getD undef = .pointer (some ⟨wr.heap.size, 0, none⟩) := by rw [← Array.getD_eq_getD_getElem?]; exact (need 13 (by kernel_rfl) (by kernel_rfl))
                have k0 := (HK.out w1 hG).1
                refine op_value (v := .string s) (wanted_of (j := 6) rfl (need 6 (by kernel_rfl) (by kernel_rfl))) ?_ (hKx _ w1 rfl hG (Below.refl _ _))
                simp [execOp, go_sem, e0, k0]
              case o15 =>
                intro a w1 Kx hG need old hsz fresh hKx
                have e0 : a.tmps[27]?.getD undef = .string z := by rw [← Array.getD_eq_getD_getElem?]; exact (need 12 (by kernel_rfl) (by kernel_rfl))
                have e1 : a.tmps[29]?.getD undef = .string s := by rw [← Array.getD_eq_getD_getElem?]; exact (need 14 (by kernel_rfl) (by kernel_rfl))
                refine op_value (v := .bool false) (wanted_of (j := 6) rfl (need 6 (by kernel_rfl) (by kernel_rfl))) ?_ (hKx _ w1 rfl hG (Below.refl _ _))
                simp [execOp, go_sem, e0, e1]; exact ht3.out
              case o16 =>
                intro a w1 Kx hG need old hsz fresh hKx
                have e0 : a.tmps[21]?.getD undef = .bool true := by rw [← Array.getD_eq_getD_getElem?]; exact (need 6 (by kernel_rfl) (by kernel_rfl))
                have e1 : a.tmps[30]?.getD undef = .bool false := by rw [← Array.getD_eq_getD_getElem?]; exact (need 15 (by kernel_rfl) (by kernel_rfl))
                refine op_value (v := .bool false) (wanted_of (j := 3) rfl (need 3 (by kernel_rfl) (by kernel_rfl))) ?_ (hKx _ w1 rfl hG (Below.refl _ _))
                simp [execOp, go_sem, asBool, e0, e1]
              case o17 =>
                intro a w1 Kx hG need old hsz fresh hKx
                have e0 : a.tmps[18]?.getD undef = .bool false := by rw [← Array.getD_eq_getD_getElem?]; exact (need 3 (by kernel_rfl) (by kernel_rfl))
                have e1 : a.tmps[31]?.getD undef = .bool false := by rw [← Array.getD_eq_getD_getElem?]; exact (need 16 (by kernel_rfl) (by kernel_rfl))
                refine op_value (v := .bool false) (wanted_none rfl) ?_ (hKx _ w1 rfl hG (Below.refl _ _))
                simp [execOp, go_sem, asBool, e0, e1]
            case hend =>
              intro a w6 hG hde hsz hφ hold
              obtain rfl := act_puts [(15, .agg #[.string s, .int .i64 n]), (16, .bool true), (17, .bool false), (18, .bool false), (19, .int .i64 (jx : Nat)), (20, .bool true), (21, .bool true), (22, .slice (some ⟨B, o, none⟩) l.length c), (23, .int .i64 (jx : Nat)), (24, .int .i64 (k : Nat)), (25, .pointer (some ⟨B, o + k * 2, none⟩)), (26, .pointer (some ⟨B, o + k * 2, none⟩)), (27, .string z), (28, .pointer (some ⟨wr.heap.size, 0, none⟩)), (29, .string s), (30, .bool false), (31, .bool false), (32, .bool false)] [15, 16, 17, 18, 19, 20, 21, 22, 23, 24, 25, 26, 27, 28, 29, 30, 31, 32] rfl (by kernel_rfl) (by kernel_rfl) hde hsz (List.forall_mem_cons.2 ⟨(show a.tmps.getD 15 undef = .agg #[.string s, .int .i64 n] from (hφ 0 (by kernel_rfl))), (List.forall_mem_cons.2 ⟨(show a.tmps.getD 16 undef = .bool true from (hφ 1 (by kernel_rfl))), (List.forall_mem_cons.2 ⟨(show a.tmps.getD 17 undef = .bool false from (hφ 2 (by kernel_rfl))), (List.forall_mem_cons.2 ⟨(show a.tmps.getD 18 undef = .bool false from (hφ 3 (by kernel_rfl))), (List.forall_mem_cons.2 ⟨(show a.tmps.getD 19 undef = .int .i64 (jx : Nat) from (hφ 4 (by kernel_rfl))), (List.forall_mem_cons.2 ⟨(show a.tmps.getD 20 undef = .bool true from (hφ 5 (by kernel_rfl))), (List.forall_mem_cons.2 ⟨(show a.tmps.getD 21 undef = .bool true from (hφ 6 (by kernel_rfl))), (List.forall_mem_cons.2 ⟨(show a.tmps.getD 22 undef = .slice (some ⟨B, o, none⟩) l.length c from (hφ 7 (by kernel_rfl))), (List.forall_mem_cons.2 ⟨(show a.tmps.getD 23 undef = .int .i64 (jx : Nat) from (hφ 8 (by kernel_rfl))), (List.forall_mem_cons.2 ⟨(show a.tmps.getD 24 undef = .int .i64 (k : Nat) from (hφ 9 (by kernel_rfl))), (List.forall_mem_cons.2 ⟨(show a.tmps.getD 25 undef = .pointer (some ⟨B, o + k * 2, none⟩) from (hφ 10 (by kernel_rfl))), (List.forall_mem_cons.2 ⟨(show a.tmps.getD 26 undef = .pointer (some ⟨B, o + k * 2, none⟩) from (hφ 11 (by kernel_rfl))), (List.forall_mem_cons.2 ⟨(show a.tmps.getD 27 undef = .string z from (hφ 12 (by kernel_rfl))), (List.forall_mem_cons.2 ⟨(show a.tmps.getD 28 undef = .pointer (some ⟨wr.heap.size, 0, none⟩) from (hφ 13 (by kernel_rfl))), (List.forall_mem_cons.2 ⟨(show a.tmps.getD 29 undef = .string s from (hφ 14 (by kernel_rfl))), (List.forall_mem_cons.2 ⟨(show a.tmps.getD 30 undef = .bool false from (hφ 15 (by kernel_rfl))), (List.forall_mem_cons.2 ⟨(show a.tmps.getD 31 undef = .bool false from (hφ 16 (by kernel_rfl))), (List.forall_mem_cons.2 ⟨(show a.tmps.getD 32 undef = .bool false from (hφ 17 (by kernel_rfl))), (fun _ h => absurd h (by simp))⟩)⟩)⟩)⟩)⟩)⟩)⟩)⟩)⟩)⟩)⟩)⟩)⟩)⟩)⟩)⟩)⟩)⟩) hold
              clear hφ hold hsz hde
              simp only [putAll]
              go_frame
              have HB2 := Lib.hid (HBW.out.trans (hG.mono HBW.out.size))
              clear hG
              go_wp2_with fail
              go_roundw
              case rel =>
                refine ⟨jx + 1, by omega, by go_num, Lib.hid ⟨fun i hi h => ?_, fun i hi h => ?_⟩, HB2.out⟩
                · by_cases e : i = jx
                  · subst e; exact hm2.out
                  · exact HI.out.1 i hi (by omega)
                · by_cases e : i = k
                  · subst e
                    have hkj : l[i + 1].1 = s := by
                      have := hq2.out
                      simp only [hkk.out] at this
                      rw [this]
                    rw [hkj]; exact ht2.out
                  · exact HI.out.2 i hi (by have := hkk.out; omega)
              case measure => simp [RowKit.intOf]; omega
          | false =>
            have hF : R = false := by
              rw [← hR.out]
              have hj2 := hkk.out
              subst hj2
              refine mayEs_two hj1 ?_
              have := hq2.out
              rw [this]; exact ht2.out
            subst hF
            refine region_st (fun j v w' => match j with | 0 => v = .agg #[.string s, .int .i64 n] | 1 => v = .bool true | 2 => v = .bool false | 3 => v = .bool false | 4 => v = .int .i64 (jx : Nat) | 5 => v = .bool true | 6 => v = .bool true | 7 => v = .slice (some ⟨B, o, none⟩) l.length c | 8 => v = .int .i64 (jx : Nat) | 9 => v = .int .i64 (k : Nat) | 10 => v = .pointer (some ⟨B, o + k * 2, none⟩) | 11 => v = .pointer (some ⟨B, o + k * 2, none⟩) | 12 => v = .string z | 13 => v = .pointer (some ⟨wr.heap.size, 0, none⟩) | 14 => v = .string s | 15 => v = .bool true | 16 => v = .bool true | 17 => v = .bool true | _ => True) (fun _ w' => Below W.heap.size W w') (fun w1 w2 => Below w1.heap.size w1 w2) (by kernel_rfl) (by kernel_rfl) (by kernel_rfl) ?hR ?hG ?hops ?hend
            case hR =>
              intro j v w1 w2 hv hb
              match j, hv with
              | 0, hv => exact hv
              | 1, hv => exact hv
              | 2, hv => exact hv
              | 3, hv => exact hv
              | 4, hv => exact hv
              | 5, hv => exact hv
              | 6, hv => exact hv
              | 7, hv => exact hv
              | 8, hv => exact hv
              | 9, hv => exact hv
              | 10, hv => exact hv
              | 11, hv => exact hv
              | 12, hv => exact hv
              | 13, hv => exact hv
              | 14, hv => exact hv
              | 15, hv => exact hv
              | 16, hv => exact hv
              | 17, hv => exact hv
              | _ + 18, _ => exact trivial
            case hG => exact (Below.refl _ _).drew
            case hops =>
              refine OpsOkS.cons ?o0 (OpsOkS.cons ?o1 (OpsOkS.cons ?o2 (OpsOkS.cons ?o3 (OpsOkS.cons ?o4 (OpsOkS.cons ?o5 (OpsOkS.cons ?o6 (OpsOkS.cons ?o7 (OpsOkS.cons ?o8 (OpsOkS.cons ?o9 (OpsOkS.cons ?o10 (OpsOkS.cons ?o11 (OpsOkS.cons ?o12 (OpsOkS.cons ?o13 (OpsOkS.cons ?o14 (OpsOkS.cons ?o15 (OpsOkS.cons ?o16 (OpsOkS.cons ?o17 OpsOkS.nil)))))))))))))))))
              case o0 =>
                intro a w1 Kx hG need old hsz fresh hKx
                have e0 : a.tmps[4]?.getD undef = .pointer (some ⟨wr.heap.size, 0, none⟩) := by rw [← Array.getD_eq_getD_getElem?]; exact old 4 (by kernel_rfl)
                have j0 := (HK.out w1 hG).1
                have j1 := (HK.out w1 hG).2.1
                refine op_value (v := .agg #[.string s, .int .i64 n]) (wanted_none rfl) ?_ (hKx _ w1 rfl hG (Below.refl _ _))
                simp [execOp, go_sem, e0, j0, j1]
              case o1 =>
                intro a w1 Kx hG need old hsz fresh hKx
                have e0 : a.tmps[15]?.getD undef = .agg #[.string s, .int .i64 n] := by rw [← Array.getD_eq_getD_getElem?]; exact (need 0 (by kernel_rfl) (by kernel_rfl))
                refine op_call (wanted_none rfl) (f := 37) (args := #[.agg #[.string s, .int .i64 n]]) ?run ((HC.out w1).mono ?post)
                case run => simp [go_sem, e0]
                case post =>
                  rintro e w2 ⟨rfl, hb2⟩
                  exact ⟨_, rfl, hKx _ w2 rfl (hG.trans (hb2.mono hG.size)) hb2⟩
              case o2 =>
                intro a w1 Kx hG need old hsz fresh hKx
                have e0 : a.tmps[16]?.getD undef = .bool true := by rw [← Array.getD_eq_getD_getElem?]; exact (need 1 (by kernel_rfl) (by kernel_rfl))
                refine op_value (v := .bool false) (wanted_none rfl) ?_ (hKx _ w1 rfl hG (Below.refl _ _))
                simp [execOp, go_sem, e0]
              case o3 =>
                intro a w1 Kx hG need old hsz fresh hKx
                have e0 : a.tmps[17]?.getD undef = .bool false := by rw [← Array.getD_eq_getD_getElem?]; exact (need 2 (by kernel_rfl) (by kernel_rfl))
                refine op_value (v := .bool false) (wanted_none rfl) ?_ (hKx _ w1 rfl hG (Below.refl _ _))
                simp [execOp, go_sem, e0]
              case o4 =>
                intro a w1 Kx hG need old hsz fresh hKx
                have e0 : a.tmps[3]?.getD undef = .int .i64 (jx : Nat) := by rw [← Array.getD_eq_getD_getElem?]; exact old 3 (by kernel_rfl)
                refine op_value (v := .int .i64 (jx : Nat)) (wanted_of (j := 3) rfl (need 3 (by kernel_rfl) (by kernel_rfl))) ?_ (hKx _ w1 rfl hG (Below.refl _ _))
                simp [execOp, go_sem, e0]
              case o5 =>
                intro a w1 Kx hG need old hsz fresh hKx
                have e0 : a.tmps[19]?.getD undef = .int .i64 (jx : Nat) := by rw [← Array.getD_eq_getD_getElem?]; exact (need 4 (by kernel_rfl) (by kernel_rfl))
                refine op_value (v := .bool true) (wanted_of (j := 3) rfl (need 3 (by kernel_rfl) (by kernel_rfl))) ?_ (hKx _ w1 rfl hG (Below.refl _ _))
                simp [execOp, go_sem, e0]; omega
              case o6 =>
                intro a w1 Kx hG need old hsz fresh hKx
                have e0 : a.tmps[20]?.getD undef = .bool true := by rw [← Array.getD_eq_getD_getElem?]; exact (need 5 (by kernel_rfl) (by kernel_rfl))
                refine op_value (v := .bool true) (wanted_of (j := 3) rfl (need 3 (by kernel_rfl) (by kernel_rfl))) ?_ (hKx _ w1 rfl hG (Below.refl _ _))
                simp [execOp, go_sem, e0]
              case o7 =>
                intro a w1 Kx hG need old hsz fresh hKx
                have e0 : a.tmps[0]?.getD undef = .slice (some ⟨B, o, none⟩) l.length c := by rw [← Array.getD_eq_getD_getElem?]; exact old 0 (by kernel_rfl)
                refine op_value (v := .slice (some ⟨B, o, none⟩) l.length c) (wanted_of (j := 6) rfl (need 6 (by kernel_rfl) (by kernel_rfl))) ?_ (hKx _ w1 rfl hG (Below.refl _ _))
                simp [execOp, go_sem, e0]
              case o8 =>
                intro a w1 Kx hG need old hsz fresh hKx
                have e0 : a.tmps[3]?.getD undef = .int .i64 (jx : Nat) := by rw [← Array.getD_eq_getD_getElem?]; exact old 3 (by kernel_rfl)
                refine op_value (v := .int .i64 (jx : Nat)) (wanted_of (j := 6) rfl (need 6 (by kernel_rfl) (by kernel_rfl))) ?_ (hKx _ w1 rfl hG (Below.refl _ _))
                simp [execOp, go_sem, e0]
              case o9 =>
                intro a w1 Kx hG need old hsz fresh hKx
                have e0 : a.tmps[23]?.getD undef = .int .i64 (jx : Nat) := by rw [← Array.getD_eq_getD_getElem?]; exact (need 8 (by kernel_rfl) (by kernel_rfl))
                refine op_value (v := .int .i64 (k : Nat)) (wanted_of (j := 6) rfl (need 6 (by kernel_rfl) (by kernel_rfl))) ?_ (hKx _ w1 rfl hG (Below.refl _ _))
                simp [execOp, go_sem, e0, HWK]
              case o10 =>
                intro a w1 Kx hG need old hsz fresh hKx
                have e0 : a.tmps[22]?.getD undef = .slice (some ⟨B, o, none⟩) l.length c := by rw [← Array.getD_eq_getD_getElem?]; exact (need 7 (by kernel_rfl) (by kernel_rfl))
                have e1 : a.tmps[24]?.getD undef = .int .i64 (k : Nat) := by rw [← Array.getD_eq_getD_getElem?]; exact (need 9 (by kernel_rfl) (by kernel_rfl))
                refine op_value (v := .pointer (some ⟨B, o + k * 2, none⟩)) (wanted_of (j := 6) rfl (need 6 (by kernel_rfl) (by kernel_rfl))) ?_ (hKx _ w1 rfl hG (Below.refl _ _))
                simp [execOp, go_sem, e0, e1, HIX2.out]
              case o11 =>
                intro a w1 Kx hG need old hsz fresh hKx
                have e0 : a.tmps[25]?.getD undef = .pointer (some ⟨B, o + k * 2, none⟩) := by rw [← Array.getD_eq_getD_getElem?]; exact (need 10 (by kernel_rfl) (by kernel_rfl))
                refine op_value (v := .pointer (some ⟨B, o + k * 2, none⟩)) (wanted_of (j := 6) rfl (need 6 (by kernel_rfl) (by kernel_rfl))) ?_ (hKx _ w1 rfl hG (Below.refl _ _))
                simp [execOp, go_sem, e0]
              case o12 =>
                intro a w1 Kx hG need old hsz fresh hKx
                have e0 : a.tmps[26]?.getD undef = .pointer (some ⟨B, o + k * 2, none⟩) := by rw [← Array.getD_eq_getD_getElem?]; exact (need 11 (by kernel_rfl) (by kernel_rfl))
                have k0 := (HK.out w1 hG).2.2
                refine op_value (v := .string z) (wanted_of (j := 6) rfl (need 6 (by kernel_rfl) (by kernel_rfl))) ?_ (hKx _ w1 rfl hG (Below.refl _ _))
                simp [execOp, go_sem, e0, k0]
              case o13 =>
                intro a w1 Kx hG need old hsz fresh hKx
                have e0 : a.tmps[4]?.getD undef = .pointer (some ⟨wr.heap.size, 0, none⟩) := by rw [← Array.getD_eq_getD_getElem?]; exact old 4 (by kernel_rfl)
                refine op_value (v := .pointer (some ⟨wr.heap.size, 0, none⟩)) (wanted_of (j := 6) rfl (need 6 (by kernel_rfl) (by kernel_rfl))) ?_ (hKx _ w1 rfl hG (Below.refl _ _))
                simp [execOp, go_sem, e0]
              case o14 =>
                intro a w1 Kx hG need old hsz fresh hKx
                have e0 : a.tmps[28]?.getD undef = .pointer (some ⟨wr.heap.size, 0, none⟩) := by rw [← Array.getD_eq_getD_getElem?]; exact (need 13 (by kernel_rfl) (by kernel_rfl))
                have k0 := (HK.out w1 hG).1
                refine op_value (v := .string s) (wanted_of (j := 6) rfl (need 6 (by kernel_rfl) (by kernel_rfl))) ?_ (hKx _ w1 rfl hG (Below.refl _ _))
                simp [execOp, go_sem, e0, k0]
              case o15 =>
                intro a w1 Kx hG need old hsz fresh hKx
                have e0 : a.tmps[27]?.getD undef = .string z := by rw [← Array.getD_eq_getD_getElem?]; exact (need 12 (by kernel_rfl) (by kernel_rfl))
                have e1 : a.tmps[29]?.getD undef = .string s := by rw [← Array.getD_eq_getD_getElem?]; exact (need 14 (by kernel_rfl) (by kernel_rfl))
                refine op_value (v := .bool true) (wanted_of (j := 6) rfl (need 6 (by kernel_rfl) (by kernel_rfl))) ?_ (hKx _ w1 rfl hG (Below.refl _ _))
                simp [execOp, go_sem, e0, e1]; exact ht3.out
              case o16 =>
                intro a w1 Kx hG need old hsz fresh hKx
                have e0 : a.tmps[21]?.getD undef = .bool true := by rw [← Array.getD_eq_getD_getElem?]; exact (need 6 (by kernel_rfl) (by kernel_rfl))
                have e1 : a.tmps[30]?.getD undef = .bool true := by rw [← Array.getD_eq_getD_getElem?]; exact (need 15 (by kernel_rfl) (by kernel_rfl))
                refine op_value (v := .bool true) (wanted_of (j := 3) rfl (need 3 (by kernel_rfl) (by kernel_rfl))) ?_ (hKx _ w1 rfl hG (Below.refl _ _))
                simp [execOp, go_sem, asBool, e0, e1]
              case o17 =>
                intro a w1 Kx hG need old hsz fresh hKx
                have e0 : a.tmps[18]?.getD undef = .bool false := by rw [← Array.getD_eq_getD_getElem?]; exact (need 3 (by kernel_rfl) (by kernel_rfl))
                have e1 : a.tmps[31]?.getD undef = .bool true := by rw [← Array.getD_eq_getD_getElem?]; exact (need 16 (by kernel_rfl) (by kernel_rfl))
                refine op_value (v := .bool true) (wanted_none rfl) ?_ (hKx _ w1 rfl hG (Below.refl _ _))
                simp [execOp, go_sem, asBool, e0, e1]
            case hend =>
              intro a w6 hG hde hsz hφ hold
              obtain rfl := act_puts [(15, .agg #[.string s, .int .i64 n]), (16, .bool true), (17, .bool false), (18, .bool false), (19, .int .i64 (jx : Nat)), (20, .bool true), (21, .bool true), (22, .slice (some ⟨B, o, none⟩) l.length c), (23, .int .i64 (jx : Nat)), (24, .int .i64 (k : Nat)), (25, .pointer (some ⟨B, o + k * 2, none⟩)), (26, .pointer (some ⟨B, o + k * 2, none⟩)), (27, .string z), (28, .pointer (some ⟨wr.heap.size, 0, none⟩)), (29, .string s), (30, .bool true), (31, .bool true), (32, .bool true)] [15, 16, 17, 18, 19, 20, 21, 22, 23, 24, 25, 26, 27, 28, 29, 30, 31, 32] rfl (by kernel_rfl) (by kernel_rfl) hde hsz (List.forall_mem_cons.2 ⟨(show a.tmps.getD 15 undef = .agg #[.string s, .int .i64 n] from (hφ 0 (by kernel_rfl))), (List.forall_mem_cons.2 ⟨(show a.tmps.getD 16 undef = .bool true from (hφ 1 (by kernel_rfl))), (List.forall_mem_cons.2 ⟨(show a.tmps.getD 17 undef = .bool false from (hφ 2 (by kernel_rfl))), (List.forall_mem_cons.2 ⟨(show a.tmps.getD 18 undef = .bool false from (hφ 3 (by kernel_rfl))), (List.forall_mem_cons.2 ⟨(show a.tmps.getD 19 undef = .int .i64 (jx : Nat) from (hφ 4 (by kernel_rfl))), (List.forall_mem_cons.2 ⟨(show a.tmps.getD 20 undef = .bool true from (hφ 5 (by kernel_rfl))), (List.forall_mem_cons.2 ⟨(show a.tmps.getD 21 undef = .bool true from (hφ 6 (by kernel_rfl))), (List.forall_mem_cons.2 ⟨(show a.tmps.getD 22 undef = .slice (some ⟨B, o, none⟩) l.length c from (hφ 7 (by kernel_rfl))), (List.forall_mem_cons.2 ⟨(show a.tmps.getD 23 undef = .int .i64 (jx : Nat) from (hφ 8 (by kernel_rfl))), (List.forall_mem_cons.2 ⟨(show a.tmps.getD 24 undef = .int .i64 (k : Nat) from (hφ 9 (by kernel_rfl))), (List.forall_mem_cons.2 ⟨(show a.tmps.getD 25 undef = .pointer (some ⟨B, o + k * 2, none⟩) from (hφ 10 (by kernel_rfl))), (List.forall_mem_cons.2 ⟨(show a.tmps.getD 26 undef = .pointer (some ⟨B, o + k * 2, none⟩) from (hφ 11 (by kernel_rfl))), (List.forall_mem_cons.2 ⟨(show a.tmps.getD 27 undef = .string z from (hφ 12 (by kernel_rfl))), (List.forall_mem_cons.2 ⟨(show a.tmps.getD 28 undef = .pointer (some ⟨wr.heap.size, 0, none⟩) from (hφ 13 (by kernel_rfl))), (List.forall_mem_cons.2 ⟨(show a.tmps.getD 29 undef = .string s from (hφ 14 (by kernel_rfl))), (List.forall_mem_cons.2 ⟨(show a.tmps.getD 30 undef = .bool true from (hφ 15 (by kernel_rfl))), (List.forall_mem_cons.2 ⟨(show a.tmps.getD 31 undef = .bool true from (hφ 16 (by kernel_rfl))), (List.forall_mem_cons.2 ⟨(show a.tmps.getD 32 undef = .bool true from (hφ 17 (by kernel_rfl))), (fun _ h => absurd h (by simp))⟩)⟩)⟩)⟩)⟩)⟩)⟩)⟩)⟩)⟩)⟩)⟩)⟩)⟩)⟩)⟩)⟩)⟩) hold
              clear hφ hold hsz hde
              simp only [putAll]
              go_frame
              go_wp2_with fail
              go_ret
              exact ⟨rfl, HBW.out.trans (hG.mono HBW.out.size)⟩
    · have d2 : decide ((jx : Int) < (l.length : Int)) = false := decide_eq_false (by omega)
      have hT : R = true := by rw [← hR.out]; exact mayEs_all h10 (fun i hi => HI.out.1 i hi (by omega)) (fun i hi => HI.out.2 i hi (by omega))
      subst hT
      go_wp2_with fail
      go_ret
      exact ⟨rfl, HB.out⟩
end Go.Proofs.Ytohiabkjbieflaa
