/- TurnSpots: for every blocks and pages the law answers true, and nothing that was there has turned. -/
import Derived.Test.YtemallklldebpaaQuiet
import Derived.Test.YtemallklldebpaaLeft
namespace Go.Proofs.Ytemallklldebpaa
open Go.RowKit Go.Shelf

attribute [local go_sem] Oper.semAt_some

theorem spot_neq_same (a b : Int) (w : World) : Sem.run Try.prog (binOp BinOp.neq 36 (.agg #[.int .i64 a, .int .i64 b]) (.agg #[.int .i64 a, .int .i64 b])) w = .ok (.bool false) w := by
  simp [go_sem]
theorem spot_neq_other (a b c d : Int) (h : ¬ (a = c ∧ b = d)) (w : World) : Sem.run Try.prog (binOp BinOp.neq 36 (.agg #[.int .i64 a, .int .i64 b]) (.agg #[.int .i64 c, .int .i64 d])) w = .ok (.bool true) w := by
  by_cases e : a = c
  · have e2 : ¬ b = d := fun e2 => h ⟨e, e2⟩
    simp [go_sem, e, e2]
  · simp [go_sem, e]

/-- Block b holds the spot (x, y). -/
def SpotAt (W : World) (b : Nat) (x y : Int) : Prop := W.heap[b]? = some (.cells #[.int .i64 x, .int .i64 y] 36 (0, 0))
theorem SpotAt.cell0 {W : World} {b : Nat} {x y : Int} (h : SpotAt W b x y) : W.cell? ⟨b, 0, none⟩ = some (.int .i64 x) := by simp [World.cell?, show W.heap[b]? = _ from h]
theorem SpotAt.cell1 {W : World} {b : Nat} {x y : Int} (h : SpotAt W b x y) : W.cell? ⟨b, 1, none⟩ = some (.int .i64 y) := by simp [World.cell?, show W.heap[b]? = _ from h]
theorem spotAt_own {β : Type} (b : Nat) (x y : Int) : Own (fun (_ : β) W => SpotAt W b x y) := fun _ _ _ _ hs hg hrow => (grownBy_keeps_cells hg hrow hs rfl).trans hs

/-- The last one of pre is not the spot that stands there. -/
def BadSpot (P : Nat) (pre : List (Int × Int × Int)) : Prop := ∃ q x, pre = q ++ [x] ∧ x ≠ spotAt P q.length
theorem not_badSpot {P k : Nat} {pre : List (Int × Int × Int)} (h : BadSpot P pre) (hp : pre <+: spotsTo P k) : False := by
  obtain ⟨q, x, rfl, hx⟩ := h
  obtain ⟨r, hr⟩ := hp
  have h1 : (spotsTo P k)[q.length]? = some x := by rw [← hr]; simp
  have hlt : q.length < k := by
    have := (List.getElem?_eq_some_iff.1 h1).1
    simpa [spotsTo] using this
  have h2 : (spotsTo P k)[q.length]? = some (spotAt P q.length) := by simp [spotsTo, hlt]
  rw [h1] at h2
  exact hx (by simpa using h2)

set_option maxRecDepth 100000 in
set_option maxHeartbeats 4000000 in
theorem spots_law_in (B P : Nat) (h1 : 1 ≤ B) (h2 : B ≤ 64) (h3 : 1 ≤ P) (h4 : P ≤ 32) (w : World) : Calls Try.prog 5 #[.int .i64 B, .int .i64 P] w (Holds w) := by
  have hnf := func_nil_33
  refine callsIn_wide.1 (callsIn_of_wp_marks (n := 3) Try.func5 rfl trivial ?_ rfl)
  simp only [Try.ntmps5, List.size_toArray, List.length_cons, List.length_nil, Nat.reduceAdd, Nat.reduceSub, Array.replicate_succ, Array.replicate_zero, List.push_toArray, List.append_toArray, List.nil_append, List.cons_append]
  gi_wp2_with (refine ⟨trivial, ?_⟩; (try refine ⟨wide_depth _, ?_⟩); gi_at_call 14; refine (callsIn_wide.2 (spots_any _ _ _)).mono ?_; rintro e w1 ⟨rfl, rfl⟩)
  obtain ⟨W0, hW0⟩ : ∃ W0, (((((w.alloc (.cells #[.int .i64 B] 3)).alloc (.cells #[.int .i64 P] 3)).alloc (.cells #[.bool false] 4)).alloc (.cells #[.int .i64 0] 3)).alloc (.cells #[.int .i64 B] 3)).alloc (.cells #[.int .i64 P] 3) = W0 := ⟨_, rfl⟩
  have hsz : w.heap.size + 6 ≤ W0.heap.size := by rw [← hW0]; simp
  have bB : Boxed W0 w.heap.size 3 (.int .i64 B) := by rw [← hW0]; exact (((((Boxed.new w 3 _).alloc _).alloc _).alloc _).alloc _).alloc _
  have bP : Boxed W0 (w.heap.size + 1) 3 (.int .i64 P) := by
    rw [← hW0]; have := Boxed.new (w.alloc (.cells #[.int .i64 B] 3)) 3 (.int .i64 P); rw [World.size_alloc] at this; exact (((this.alloc _).alloc _).alloc _).alloc _
  have bR : Boxed W0 (w.heap.size + 1 + 1) 4 (.bool false) := by
    rw [← hW0]; have := Boxed.new ((w.alloc (.cells #[.int .i64 B] 3)).alloc (.cells #[.int .i64 P] 3)) 4 (.bool false); simp only [World.size_alloc] at this; exact ((this.alloc _).alloc _).alloc _
  have bN : Boxed W0 (w.heap.size + 1 + 1 + 1) 3 (.int .i64 0) := by
    rw [← hW0]; have := Boxed.new (((w.alloc (.cells #[.int .i64 B] 3)).alloc (.cells #[.int .i64 P] 3)).alloc (.cells #[.bool false] 4)) 3 (.int .i64 0); simp only [World.size_alloc] at this; exact (this.alloc _).alloc _
  have bC : Boxed W0 (w.heap.size + 1 + 1 + 1 + 1) 3 (.int .i64 B) := by
    rw [← hW0]; have := Boxed.new ((((w.alloc (.cells #[.int .i64 B] 3)).alloc (.cells #[.int .i64 P] 3)).alloc (.cells #[.bool false] 4)).alloc (.cells #[.int .i64 0] 3)) 3 (.int .i64 B); simp only [World.size_alloc] at this; exact this.alloc _
  have bD : Boxed W0 (w.heap.size + 1 + 1 + 1 + 1 + 1) 3 (.int .i64 P) := by
    rw [← hW0]; have := Boxed.new (((((w.alloc (.cells #[.int .i64 B] 3)).alloc (.cells #[.int .i64 P] 3)).alloc (.cells #[.bool false] 4)).alloc (.cells #[.int .i64 0] 3)).alloc (.cells #[.int .i64 B] 3)) 3 (.int .i64 P); simp only [World.size_alloc] at this; exact this
  have hB0 : Below w.heap.size w W0 := by
    rw [← hW0]; exact ((((((Below.refl _ w).alloc (Nat.le_refl _) _).alloc (by simp) _).alloc (by simp; omega) _).alloc (by simp; omega) _).alloc (by simp; omega) _).alloc (by simp; omega) _
  rw [hW0]
  clear hW0
  have hsp : spotsL (B : Int) (P : Int) = spotsTo P (B * P) := by unfold spotsL; rw [if_pos (by omega)]; rfl
  have hseq := spots_stops (3 - 1) _ _ (B : Int) (P : Int) W0 bC.lt bD.lt bC.cell bD.cell
  rw [hsp, spotsTo_length] at hseq
  clear hsp
  refine wpIn_rangeFunc_ownH rfl (n := 3) (by omega) (gf := 21) (lb := #[.pointer (some ⟨w.heap.size + 1 + 1 + 1 + 1, 0, none⟩), .pointer (some ⟨w.heap.size + 1 + 1 + 1 + 1 + 1, 0, none⟩)]) rfl trivial (enters_of Try.func21 (by kernel_rfl) rfl)
    hseq KeepsBlk.trans (keepsBlk_b bD.lt) (Below.refl _ _) (fun _ => rfl)
    (fun pre W => Boxed W (w.heap.size + 1 + 1 + 1) 3 (.int .i64 (pre.length : Int)) ∧ (Boxed W w.heap.size 3 (.int .i64 B) ∧ (Boxed W (w.heap.size + 1) 3 (.int .i64 P) ∧ (Boxed W (w.heap.size + 1 + 1) 4 (.bool false) ∧ (W0.heap.size ≤ W.heap.size ∧ Below w.heap.size w W)))))
    (fun _ pre _ => BadSpot P pre)
    ?own ?ownx ?start
    (fun x a' W => ∃ Bx, W0.heap.size ≤ Bx ∧ SpotAt W Bx x.2.1 x.2.2 ∧ a' = { tmps := #[Value.int .i64 B, Value.int .i64 P, Value.pointer (some ⟨w.heap.size, 0, none⟩), Value.pointer (some ⟨w.heap.size + 1, 0, none⟩), Value.pointer (some ⟨w.heap.size + 1 + 1, 0, none⟩), Value.pointer (some ⟨w.heap.size + 1 + 1 + 1, 0, none⟩), Value.func (Fn.func 21) #[] #[Value.pointer (some ⟨w.heap.size + 1 + 1 + 1 + 1, 0, none⟩), Value.pointer (some ⟨w.heap.size + 1 + 1 + 1 + 1 + 1, 0, none⟩)], Value.int .i64 x.1, Value.pointer (some ⟨Bx, 0, none⟩), undef, Value.int .i64 B, Value.int .i64 P, Value.func (Fn.func 21) #[] #[Value.pointer (some ⟨w.heap.size + 1 + 1 + 1 + 1, 0, none⟩), Value.pointer (some ⟨w.heap.size + 1 + 1 + 1 + 1 + 1, 0, none⟩)], Value.func (Fn.func 21) #[] #[Value.pointer (some ⟨w.heap.size + 1 + 1 + 1 + 1, 0, none⟩), Value.pointer (some ⟨w.heap.size + 1 + 1 + 1 + 1 + 1, 0, none⟩)], Value.bool false, Value.func (Fn.func 21) #[] #[Value.pointer (some ⟨w.heap.size + 1 + 1 + 1 + 1, 0, none⟩), Value.pointer (some ⟨w.heap.size + 1 + 1 + 1 + 1 + 1, 0, none⟩)], Value.int .i64 x.1, Value.agg #[.int .i64 x.2.1, .int .i64 x.2.2], undef, undef, undef, undef, undef, undef, undef, undef, undef, undef, undef, undef, undef, undef, undef, undef, undef, undef, undef, undef, undef, undef, undef, undef, undef, undef, undef, undef, undef, undef, undef, undef, undef, undef, undef, undef, undef, undef, undef, undef, undef, undef, undef, undef, undef, undef, undef, undef, undef, undef, undef, undef, undef, undef, undef, undef, undef, undef, undef, undef, undef, undef], defers := [] }) ?ownA ?assign ?body ?done ?stop
  case own => exact OwnFrom.and (Own.from (boxed_own _ 3 (fun pre : List (Int × Int × Int) => .int .i64 (pre.length : Int))) _) (OwnFrom.and (Own.from (boxed_own _ 3 (fun _ => .int .i64 (B : Int))) _) (OwnFrom.and (Own.from (boxed_own _ 3 (fun _ => .int .i64 (P : Int))) _) (OwnFrom.and (Own.from (boxed_own _ 4 (fun _ => .bool false)) _) (OwnFrom.and (fun _ _ _ _ hs hg _ => Nat.le_trans hs hg.size) (ownFrom_below (Nat.le_refl _) (by omega))))))
  case ownx => exact fun c => ownFrom_pure _ _
  case start => exact ⟨bN, bB, bP, bR, Nat.le_refl _, hB0⟩
  case ownA =>
    rintro x a' _ X Y row ⟨Bx, hBx, hS, ha⟩ hg hrow
    exact ⟨Bx, hBx, (Own.from (spotAt_own Bx x.2.1 x.2.2) _) () X Y row hS hg hrow, ha⟩
  case assign =>
    rintro l pre x W K ⟨hN, hb, hp, hr, hs, hB⟩ hK
    gi_wp2
    exact hK _ _ ((KeepsOthers.alloc _ _).from _) (KeepsBlk.alloc _ (by omega) _) ⟨hN.alloc _, hb.alloc _, hp.alloc _, hr.alloc _, by simp; omega, hB.alloc (by omega) _⟩ ⟨W.heap.size, hs, World.alloc_heap_new _ _, rfl⟩
  case body =>
    rintro l pre ⟨i, sb, sp⟩ a' W hl hrec ⟨hN, hb, hp, hr, hs, hB⟩ ⟨Bx, hBx, hS, rfl⟩ hlt
    dsimp only at hS ⊢
    have d0 := hS.cell0
    have d1 := hS.cell1
    have c1 := hN.cell
    have f1 := hN.frozen
    have c2 := hb.cell
    have c3 := hp.cell
    have c4 := hr.cell
    have f4 := hr.frozen
    have hbp1 : 0 ≤ (B : Int) * P := Int.mul_nonneg (by omega) (by omega)
    have hbp2 : (B : Int) * P ≤ 2048 := by
      have := Int.mul_le_mul (show (B : Int) ≤ 64 by omega) (show (P : Int) ≤ 32 by omega) (by omega) (by omega)
      omega
    have hkm : (pre.length : Int) < (B : Int) * P := by
      have : ((pre.length : Nat) : Int) < ((B * P : Nat) : Int) := by omega
      rwa [Int.natCast_mul] at this
    clear hlt
    have hkeep : ∀ nq, KeepsFrom W0.heap.size W ((W.drewN nq).setCell ⟨w.heap.size + 1 + 1, 0, none⟩ (.bool false)) := fun nq =>
      ((show KeepsOthers W (W.drewN nq) from ⟨Nat.le_refl _, fun _ _ h _ => h⟩).trans (KeepsOthers.setCell _ _ _)).from _
    have hkeep2 : ∀ nq, KeepsFrom W0.heap.size W ((W.drewN nq).setCell ⟨w.heap.size + 1 + 1 + 1, 0, none⟩ (.int .i64 ((pre.length : Int) + 1))) := fun nq =>
      ((show KeepsOthers W (W.drewN nq) from ⟨Nat.le_refl _, fun _ _ h _ => h⟩).trans (KeepsOthers.setCell _ _ _)).from _
    have g1 : decide ((B : Int) < 1) = false := decide_eq_false (by omega)
    have g2 : decide ((P : Int) < 1) = false := decide_eq_false (by omega)
    have g3 : decide (64 < (B : Int)) = false := decide_eq_false (by omega)
    have g4 : decide (32 < (P : Int)) = false := decide_eq_false (by omega)
    have g5 : decide ((B : Int) * P ≤ (pre.length : Int)) = false := decide_eq_false (by omega)
    have g6 : ((P : Int) == 0) = false := beq_eq_false_iff_ne.2 (by omega)
    have g7 : ¬ (P : Int) = 0 := by omega
    by_cases hi : i = (pre.length : Int)
    · subst hi
      have hq0 : 0 ≤ (pre.length : Int) / (P : Int) := Int.ediv_nonneg (by omega) (by omega)
      have hq1 : (pre.length : Int) / (P : Int) ≤ 2048 := Int.le_trans (Int.ediv_le_self _ (by omega)) (by omega)
      have hr0 : 0 ≤ (pre.length : Int) % (P : Int) := Int.emod_nonneg _ (by omega)
      have hr1 : (pre.length : Int) % (P : Int) ≤ 2048 := Int.le_trans (Int.le_of_lt (Int.emod_lt_of_pos _ (by omega))) (by omega)
      have hat : spotAt P pre.length = ((pre.length : Int), (pre.length : Int) / (P : Int), (pre.length : Int) % (P : Int)) := by simp [spotAt]
      obtain ⟨q, hq⟩ : ∃ q : Int, (pre.length : Int) / (P : Int) = q := ⟨_, rfl⟩
      obtain ⟨r, hr'⟩ : ∃ r : Int, (pre.length : Int) % (P : Int) = r := ⟨_, rfl⟩
      rw [hq] at hq0 hq1 hat
      rw [hr'] at hr0 hr1 hat
      have Hat := Lib.hid hat
      clear hat
      by_cases hx : sb = q ∧ sp = r
      · obtain ⟨rfl, rfl⟩ := hx
        have hss := spot_neq_same sb sp
        as_aux_lemma =>
        gi_wp2
        refine region_quiet_round (by simp) (by kernel_rfl) (by kernel_rfl) ?_
        repeat (gi_big_quiet_step (fail))
        refine wpQuietIn_nil ?_
        rintro _ ⟨nq, rfl⟩
        gi_wp2
        exact ⟨hkeep2 nq, KeepsBlk.setCell (W.drewN nq) _ (by simp; omega) _, by simpa using (show Boxed (W.drewN nq) _ 3 _ from hN).set (.int .i64 ((pre.length : Int) + 1)), (show Boxed (W.drewN nq) _ 3 _ from hb).other (by omega) _, (show Boxed (W.drewN nq) _ 3 _ from hp).other (by omega) _, (show Boxed (W.drewN nq) _ 4 _ from hr).other (by omega) _, by simpa using hs, (below_draws hB nq).setCell (p := ⟨w.heap.size + 1 + 1 + 1, 0, none⟩) (by simp; omega) _⟩
      · have hss := spot_neq_other _ _ _ _ hx
        have Hbad := Lib.hid (show BadSpot P (pre ++ [((pre.length : Int), sb, sp)]) from ⟨pre, _, rfl, fun e => hx (by
          rw [Hat.out] at e
          simp only [Prod.mk.injEq] at e
          exact e.2)⟩)
        clear hx
        as_aux_lemma =>
        gi_wp2
        refine region_quiet_round (by simp) (by kernel_rfl) (by kernel_rfl) ?_
        repeat (gi_big_quiet_step (fail))
        refine wpQuietIn_nil ?_
        rintro _ ⟨nq, rfl⟩
        gi_wp2
        exact ⟨hkeep nq, Hbad.out⟩
    · have hi1 : (i != (pre.length : Int)) = true := by simpa using hi
      have Hbad := Lib.hid (show BadSpot P (pre ++ [(i, sb, sp)]) from ⟨pre, _, rfl, fun e => hi (by have := congrArg Prod.fst e; simpa [spotAt] using this)⟩)
      clear hi
      as_aux_lemma =>
      gi_wp2
      refine region_quiet_round (by simp) (by kernel_rfl) (by kernel_rfl) ?_
      repeat (gi_big_quiet_step (fail))
      refine wpQuietIn_nil ?_
      rintro _ ⟨nq, rfl⟩
      gi_wp2
      exact ⟨hkeep nq, Hbad.out⟩
  case done =>
    rintro D ys W hD rfl ⟨hN, hb, hp, hr, hs, hB⟩ hK
    rw [spotsTo_length, Int.natCast_mul] at hN
    have c1 := hN.cell
    have c2 := hb.cell
    have c3 := hp.cell
    have hbp1 : 0 ≤ (B : Int) * P := Int.mul_nonneg (by omega) (by omega)
    have hbp2 : (B : Int) * P ≤ 2048 := by
      have := Int.mul_le_mul (show (B : Int) ≤ 64 by omega) (show (P : Int) ≤ 32 by omega) (by omega) (by omega)
      omega
    have hDlt := (Array.getElem?_eq_some_iff.1 hK).1
    clear hseq
    gi_wp2_with (refine ⟨trivial, ?_⟩; (try refine ⟨wide_depth _, ?_⟩); gi_at_call 10; refine (callsIn_wide.2 (awake_any _)).mono ?_; rintro e w8 ⟨rfl, hb8⟩; have hR8 := boxed_later hr hb8; have c8 := hR8.cell; have f8 := hR8.frozen)
    have hK8 : w8.heap[D]? = some (.deferred (some [])) := (hb8.block D hDlt).trans hK
    have hK9 := (KeepsOthers.setCell w8 ⟨w.heap.size + 1 + 1, 0, none⟩ (.bool true)).same D _ hK8 rfl
    have hc9 := cell_kept (hR8.set (.bool true)).cell (grownBy_putObj' _ D (.deferred none)) (fun r e => by cases e; exact ⟨_, hK9, rfl⟩)
    refine ⟨by simp, .inl ⟨_, _, rfl, run_takeDeferred hK9, ?_⟩⟩
    refine ⟨.bool true, by simp [results, Try.f5, go_sem, hc9], rfl, ?_⟩
    exact ((below_on hB hb8).setCell (p := ⟨w.heap.size + 1 + 1, 0, none⟩) (by simp; omega) _).trans (belowK_b (w := w) (Nat.le_refl _) _ D _ _ (by omega) hK9 rfl rfl)
  case stop =>
    rintro D c pre W hD hpre hbad hK
    exact (not_badSpot hbad hpre).elim
end Go.Proofs.Ytemallklldebpaa
