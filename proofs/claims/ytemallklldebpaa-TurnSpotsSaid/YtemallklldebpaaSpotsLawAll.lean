/- TurnSpots where there are no spots, and in all: for every blocks and pages the law answers true, and nothing that was there has turned. -/
import Derived.Test.YtemallklldebpaaSpotsLaw
namespace Go.Proofs.Ytemallklldebpaa
open Go.RowKit Go.Shelf

attribute [local go_sem] Oper.semAt_some

set_option maxRecDepth 100000 in
set_option maxHeartbeats 2000000 in
theorem spots_law_out (bb pp : Int) (h : ¬ (1 ≤ bb ∧ bb ≤ 64 ∧ 1 ≤ pp ∧ pp ≤ 32)) (w : World) : Calls Try.prog 5 #[.int .i64 bb, .int .i64 pp] w (Holds w) := by
  have hnf := func_nil_33
  refine callsIn_wide.1 (callsIn_of_wp_marks (n := 3) Try.func5 rfl trivial ?_ rfl)
  simp only [Try.ntmps5, List.size_toArray, List.length_cons, List.length_nil, Nat.reduceAdd, Nat.reduceSub, Array.replicate_succ, Array.replicate_zero, List.push_toArray, List.append_toArray, List.nil_append, List.cons_append]
  gi_wp2_with (refine ⟨trivial, ?_⟩; (try refine ⟨wide_depth _, ?_⟩); gi_at_call 14; refine (callsIn_wide.2 (spots_any _ _ _)).mono ?_; rintro e w1 ⟨rfl, rfl⟩)
  obtain ⟨W0, hW0⟩ : ∃ W0, (((((w.alloc (.cells #[.int .i64 bb] 3)).alloc (.cells #[.int .i64 pp] 3)).alloc (.cells #[.bool false] 4)).alloc (.cells #[.int .i64 0] 3)).alloc (.cells #[.int .i64 bb] 3)).alloc (.cells #[.int .i64 pp] 3) = W0 := ⟨_, rfl⟩
  have hsz : w.heap.size + 6 ≤ W0.heap.size := by rw [← hW0]; simp
  have bB : Boxed W0 w.heap.size 3 (.int .i64 bb) := by rw [← hW0]; exact (((((Boxed.new w 3 _).alloc _).alloc _).alloc _).alloc _).alloc _
  have bP : Boxed W0 (w.heap.size + 1) 3 (.int .i64 pp) := by
    rw [← hW0]; have := Boxed.new (w.alloc (.cells #[.int .i64 bb] 3)) 3 (.int .i64 pp); rw [World.size_alloc] at this; exact (((this.alloc _).alloc _).alloc _).alloc _
  have bR : Boxed W0 (w.heap.size + 1 + 1) 4 (.bool false) := by
    rw [← hW0]; have := Boxed.new ((w.alloc (.cells #[.int .i64 bb] 3)).alloc (.cells #[.int .i64 pp] 3)) 4 (.bool false); simp only [World.size_alloc] at this; exact ((this.alloc _).alloc _).alloc _
  have bN : Boxed W0 (w.heap.size + 1 + 1 + 1) 3 (.int .i64 0) := by
    rw [← hW0]; have := Boxed.new (((w.alloc (.cells #[.int .i64 bb] 3)).alloc (.cells #[.int .i64 pp] 3)).alloc (.cells #[.bool false] 4)) 3 (.int .i64 0); simp only [World.size_alloc] at this; exact (this.alloc _).alloc _
  have bC : Boxed W0 (w.heap.size + 1 + 1 + 1 + 1) 3 (.int .i64 bb) := by
    rw [← hW0]; have := Boxed.new ((((w.alloc (.cells #[.int .i64 bb] 3)).alloc (.cells #[.int .i64 pp] 3)).alloc (.cells #[.bool false] 4)).alloc (.cells #[.int .i64 0] 3)) 3 (.int .i64 bb); simp only [World.size_alloc] at this; exact this.alloc _
  have bD : Boxed W0 (w.heap.size + 1 + 1 + 1 + 1 + 1) 3 (.int .i64 pp) := by
    rw [← hW0]; have := Boxed.new (((((w.alloc (.cells #[.int .i64 bb] 3)).alloc (.cells #[.int .i64 pp] 3)).alloc (.cells #[.bool false] 4)).alloc (.cells #[.int .i64 0] 3)).alloc (.cells #[.int .i64 bb] 3)) 3 (.int .i64 pp); simp only [World.size_alloc] at this; exact this
  have hB0 : Below w.heap.size w W0 := by
    rw [← hW0]; exact ((((((Below.refl _ w).alloc (Nat.le_refl _) _).alloc (by simp) _).alloc (by simp; omega) _).alloc (by simp; omega) _).alloc (by simp; omega) _).alloc (by simp; omega) _
  rw [hW0]
  clear hW0
  have hsp : spotsL bb pp = [] := by unfold spotsL; rw [if_neg h]
  have hseq := spots_stops (3 - 1) _ _ bb pp W0 bC.lt bD.lt bC.cell bD.cell
  rw [hsp] at hseq
  clear hsp
  refine wpIn_rangeFunc_ownH rfl (n := 3) (by omega) (gf := 21) (lb := #[.pointer (some ⟨w.heap.size + 1 + 1 + 1 + 1, 0, none⟩), .pointer (some ⟨w.heap.size + 1 + 1 + 1 + 1 + 1, 0, none⟩)]) rfl trivial (enters_of Try.func21 (by kernel_rfl) rfl)
    hseq KeepsBlk.trans (keepsBlk_b bD.lt) (Below.refl _ _) (fun _ => rfl)
    (fun pre W => Boxed W (w.heap.size + 1 + 1 + 1) 3 (.int .i64 0) ∧ (Boxed W w.heap.size 3 (.int .i64 bb) ∧ (Boxed W (w.heap.size + 1) 3 (.int .i64 pp) ∧ (Boxed W (w.heap.size + 1 + 1) 4 (.bool false) ∧ (W0.heap.size ≤ W.heap.size ∧ Below w.heap.size w W)))))
    (fun _ _ _ => False)
    ?own (fun _ _ _ _ _ hs _ _ => hs) ?start
    (fun _ _ _ => True) (fun _ _ _ _ _ _ _ _ _ => trivial) ?assign ?body ?done ?stop
  case own => exact OwnFrom.and (Own.from (boxed_own _ 3 (fun _ => .int .i64 0)) _) (OwnFrom.and (Own.from (boxed_own _ 3 (fun _ => .int .i64 bb)) _) (OwnFrom.and (Own.from (boxed_own _ 3 (fun _ => .int .i64 pp)) _) (OwnFrom.and (Own.from (boxed_own _ 4 (fun _ => .bool false)) _) (OwnFrom.and (fun _ _ _ _ hs hg _ => Nat.le_trans hs hg.size) (ownFrom_below (Nat.le_refl _) (by omega))))))
  case start => exact ⟨bN, bB, bP, bR, Nat.le_refl _, hB0⟩
  case assign =>
    rintro l pre x W K ⟨hN, hb, hp, hr, hs, hB⟩ hK
    gi_wp2
    exact hK _ _ ((KeepsOthers.alloc _ _).from _) (KeepsBlk.alloc _ (by omega) _) ⟨hN.alloc _, hb.alloc _, hp.alloc _, hr.alloc _, by simp; omega, hB.alloc (by omega) _⟩ trivial
  case body =>
    rintro l pre x a' W _ _ _ _ hlt
    simp at hlt
  case done =>
    rintro D ys W hD rfl ⟨hN, hb, hp, hr, hs, hB⟩ hK
    have c1 := hN.cell
    have c2 := hb.cell
    have c3 := hp.cell
    have hDlt := (Array.getElem?_eq_some_iff.1 hK).1
    clear hseq
    have h4 : bb < 1 ∨ (1 ≤ bb ∧ pp < 1) ∨ (1 ≤ bb ∧ 1 ≤ pp ∧ 64 < bb) ∨ (1 ≤ bb ∧ 1 ≤ pp ∧ bb ≤ 64 ∧ 32 < pp) := by omega
    rcases h4 with g1 | ⟨g1, g2⟩ | ⟨g1, g2, g3⟩ | ⟨g1, g2, g3, g4⟩
    all_goals
      gi_wp2_with (refine ⟨trivial, ?_⟩; (try refine ⟨wide_depth _, ?_⟩); gi_at_call 10; refine (callsIn_wide.2 (awake_any _)).mono ?_; rintro e w8 ⟨rfl, hb8⟩; have hR8 := boxed_later hr hb8; have c8 := hR8.cell; have f8 := hR8.frozen)
      have hK8 : w8.heap[D]? = some (.deferred (some [])) := (hb8.block D hDlt).trans hK
      have hK9 := (KeepsOthers.setCell w8 ⟨w.heap.size + 1 + 1, 0, none⟩ (.bool true)).same D _ hK8 rfl
      have hc9 := cell_kept (hR8.set (.bool true)).cell (grownBy_putObj' _ D (.deferred none)) (fun r e => by cases e; exact ⟨_, hK9, rfl⟩)
      refine ⟨by simp, .inl ⟨_, _, rfl, run_takeDeferred hK9, ?_⟩⟩
      refine ⟨.bool true, by simp [results, Try.f5, go_sem, hc9], rfl, ?_⟩
      exact ((below_on hB hb8).setCell (p := ⟨w.heap.size + 1 + 1, 0, none⟩) (by simp; omega) _).trans (belowK_b (w := w) (Nat.le_refl _) _ D _ _ (by omega) hK9 rfl rfl)
  case stop =>
    rintro D c pre W _ _ h _
    exact h.elim

theorem spots_law_any (bb pp : Int) (w : World) : Calls Try.prog 5 #[.int .i64 bb, .int .i64 pp] w (Holds w) := by
  by_cases h : 1 ≤ bb ∧ bb ≤ 64 ∧ 1 ≤ pp ∧ pp ≤ 32
  · obtain ⟨B, rfl⟩ := Int.eq_ofNat_of_zero_le (show 0 ≤ bb by omega)
    obtain ⟨P, rfl⟩ := Int.eq_ofNat_of_zero_le (show 0 ≤ pp by omega)
    exact spots_law_in B P (by omega) (by omega) (by omega) (by omega) w
  · exact spots_law_out bb pp h w
end Go.Proofs.Ytemallklldebpaa
