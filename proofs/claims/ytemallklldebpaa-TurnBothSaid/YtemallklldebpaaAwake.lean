/- awake: the numbers that the law's own check asks for: true, and nothing that was there has turned. -/
import Derived.Test.YtemallklldebpaaWhere
import Derived.Test.YtemallklldebpaaSpots
namespace Go.Proofs.Ytemallklldebpaa
open Go.RowKit Go.Shelf

attribute [local go_sem] Oper.semAt_some

/-- Turn's value, given by Turn, is an iterator over turnL. -/
theorem turn_gives (nn ff : Int) (hnn : nn ≤ 9223372036854775807) (w : World) :
    Gives 16 #[.pointer (some ⟨w.heap.size, 0, none⟩), .pointer (some ⟨w.heap.size + 1, 0, none⟩)] (turnL nn ff) ((w.alloc (.cells #[.int .i64 nn] 3)).alloc (.cells #[.int .i64 ff] 3)).heap.size ((w.alloc (.cells #[.int .i64 nn] 3)).alloc (.cells #[.int .i64 ff] 3)) := by
  have b1 := (Boxed.new w 3 (.int .i64 nn)).alloc (.cells #[.int .i64 ff] 3)
  have b2 := Boxed.new (w.alloc (.cells #[.int .i64 nn] 3)) 3 (.int .i64 ff)
  rw [World.size_alloc] at b2
  exact ⟨enters_of Try.func16 (by kernel_rfl) rfl, fun m => turn_stops _ m _ _ nn ff hnn _ (by simp; omega) (by simp) b1.cell b2.cell⟩

theorem turnL_42 : turnL 4 2 = [2, 3, 0, 1] := by decide
theorem where_ft : whereTo [false, true] 2 = [1] := by decide
theorem spotsL_23 : (spotsL 2 3).length = 6 := by decide

set_option maxRecDepth 100000 in
set_option maxHeartbeats 2000000 in
theorem awake_in (n : Nat) (hn : 1 ≤ n) (w : World) :
    CallsIn Fence.wide n Try.prog 10 #[] w fun e w' => e = .returned (.bool true) ∧ Below w.heap.size w w' := by
  have hmf : ∀ (fn : Fn) (first cap : Array Value) (w : World), (Instr.makeFunc fn first cap).run Try.prog w = .ok (.func fn first cap) w := fun _ _ _ _ => rfl
  have hnf := func_nil_33
  have k1 := turn_any 4 2 w
  have k2 := first_any 16 _ (turnL 4 2) 9 (by rw [turnL_42]; decide) _ (turn_gives 4 2 (by omega) w)
  refine callsIn_of_wp_marks Try.func10 rfl trivial ?_ rfl
  simp only [Try.ntmps10, List.size_toArray, List.length_nil, Nat.reduceSub, Array.replicate_succ, Array.replicate_zero, List.push_toArray, List.append_toArray, List.nil_append, List.cons_append]
  gi_wp2_with (first
    | (refine ⟨trivial, ?_⟩; (try refine ⟨wide_depth _, ?_⟩); gi_at_call 12; refine (callsIn_wide.2 k1).mono ?_; clear k1; rintro e w1 ⟨rfl, rfl⟩)
    | (refine ⟨trivial, ?_⟩; (try refine ⟨wide_depth _, ?_⟩); gi_at_call 11; refine (callsIn_wide.2 k2).mono ?_; clear k2; rintro e w2 ⟨v, rfl, hr, hb⟩; rw [turnL_42] at hr; obtain ⟨g, cap, rfl⟩ := ownsRow_succ hr)
    | (refine ⟨trivial, ?_⟩; (try refine ⟨wide_depth _, ?_⟩); gi_at_call 14; refine (callsIn_wide.2 (spots_any _ _ _)).mono ?_; rintro e w1 ⟨rfl, rfl⟩))
  have c0 : w2.cell? ⟨g, 0, none⟩ = some (.int .i64 2) := by rw [hr.cellAt 0 (by decide)]; rfl
  have c3 : w2.cell? ⟨g, 3, none⟩ = some (.int .i64 1) := by rw [hr.cellAt 3 (by decide)]; rfl
  have hsz := hb.size
  have hgl := (hr.lt g rfl).2
  simp only [World.size_alloc] at hsz
  have bC := Boxed.new w2 3 (.int .i64 0)
  have bB := (Boxed.new (w2.alloc (.cells #[.int .i64 0] 3)) 3 (.int .i64 2)).alloc (.cells #[.int .i64 3] 3)
  have bP := Boxed.new ((w2.alloc (.cells #[.int .i64 0] 3)).alloc (.cells #[.int .i64 2] 3)) 3 (.int .i64 3)
  simp only [World.size_alloc] at bB bP
  have hB2 : Below w.heap.size w w2 := (((Below.refl _ w).alloc (Nat.le_refl _) _).alloc (by simp) _).trans (hb.mono (by simp; omega))
  have hB0 : Below w.heap.size w (((w2.alloc (.cells #[.int .i64 0] 3)).alloc (.cells #[.int .i64 2] 3)).alloc (.cells #[.int .i64 3] 3)) := ((hB2.alloc (by omega) _).alloc (by simp; omega) _).alloc (by simp; omega) _
  have eS : (spotsL 2 3).length = 6 := spotsL_23
  refine wpIn_rangeFunc_ownG rfl (n := n) hn (gf := 21) (lb := #[.pointer (some ⟨w2.heap.size + 1, 0, none⟩), .pointer (some ⟨w2.heap.size + 1 + 1, 0, none⟩)]) rfl trivial (enters_of Try.func21 (by kernel_rfl) rfl)
    (spots_stops (n - 1) (w2.heap.size + 1) (w2.heap.size + 1 + 1) 2 3 (((w2.alloc (.cells #[.int .i64 0] 3)).alloc (.cells #[.int .i64 2] 3)).alloc (.cells #[.int .i64 3] 3)) (by simp) (by simp) bB.cell bP.cell) KeepsBlk.trans (keepsBlk_b (by simp)) (Below.refl _ _) (fun _ => rfl)
    (fun pre W => Boxed W w2.heap.size 3 (.int .i64 (pre.length : Int)) ∧ ((W.cell? ⟨g, 0, none⟩ = some (.int .i64 2) ∧ W.cell? ⟨g, 3, none⟩ = some (.int .i64 1)) ∧ Below w.heap.size w W))
    (fun _ _ _ => False)
    ?own (fun _ _ _ _ _ hs _ _ => hs) ?start
    (fun x => { tmps := #[Value.bool false, Value.slice (some ⟨g, 0, none⟩) 4 cap, Value.pointer (some ⟨w2.heap.size, 0, none⟩), Value.func (Fn.func 21) #[] #[Value.pointer (some ⟨w2.heap.size + 1, 0, none⟩), Value.pointer (some ⟨w2.heap.size + 1 + 1, 0, none⟩)], Value.func (Fn.func 16) #[] #[Value.pointer (some ⟨w.heap.size, 0, none⟩), Value.pointer (some ⟨w.heap.size + 1, 0, none⟩)], Value.slice (some ⟨g, 0, none⟩) 4 cap, Value.func (Fn.func 21) #[] #[Value.pointer (some ⟨w2.heap.size + 1, 0, none⟩), Value.pointer (some ⟨w2.heap.size + 1 + 1, 0, none⟩)], Value.func (Fn.func 21) #[] #[Value.pointer (some ⟨w2.heap.size + 1, 0, none⟩), Value.pointer (some ⟨w2.heap.size + 1 + 1, 0, none⟩)], Value.bool false, Value.func (Fn.func 21) #[] #[Value.pointer (some ⟨w2.heap.size + 1, 0, none⟩), Value.pointer (some ⟨w2.heap.size + 1 + 1, 0, none⟩)], Value.int .i64 x.1, Value.agg #[.int .i64 x.2.1, .int .i64 x.2.2], undef, undef, undef, undef, undef, undef, undef, undef, undef, undef, undef, undef, undef, undef, undef, undef, undef, undef, undef, undef, undef, undef, undef, undef, undef, undef, undef, undef, undef, undef], defers := [] }) ?assign ?body ?done ?stop
  case own => exact OwnFrom.and (Own.from (boxed_own w2.heap.size 3 (fun pre : List (Int × Int × Int) => .int .i64 (pre.length : Int))) _) (OwnFrom.and (Own.from (fun s A B row hs hg hr => ⟨cell_kept hs.1 hg hr, cell_kept hs.2 hg hr⟩) _) (ownFrom_below (Nat.le_refl _) (by simp; omega)))
  case start => exact ⟨(bC.alloc _).alloc _, ⟨cell_later _ (cell_later _ (cell_later _ c0)), cell_later _ (cell_later _ (cell_later _ c3))⟩, hB0⟩
  case assign =>
    intro l x W K hK
    gi_wp2
    exact hK
  case body =>
    rintro l pre x W ⟨hbx, ⟨d0, d3⟩, hB⟩ hlt
    rw [eS] at hlt
    have hc := hbx.cell
    have hf := hbx.frozen
    gi_wp2
    exact ⟨(KeepsOthers.setCell _ _ _).from _, KeepsBlk.setCell _ _ (by simp; omega) _, by simpa using hbx.set (.int .i64 ((pre.length : Int) + 1)), ⟨cell_other _ d0 (by simp; omega), cell_other _ d3 (by simp; omega)⟩, hB.setCell (p := ⟨w2.heap.size, 0, none⟩) (by simp; omega) _⟩
  case done =>
    rintro D ys W hD rfl ⟨hbx, ⟨d0, d3⟩, hB⟩ hK
    rw [eS] at hbx
    have hc := hbx.cell
    have hszW := hB.size
    have hDlt := (Array.getElem?_eq_some_iff.1 hK).1
    have hbl : BoolsIn (W.alloc (.cells #[.bool false, .bool true] 4)) (.slice (some ⟨W.heap.size, 0, none⟩) 2 2) [false, true] := by
      refine .inr ⟨_, 2, rfl, fun j hj => ?_⟩
      have hx := (World.ownsRow_lit (base := W.heap.size) (e := 4) (size := 1) W #[.bool false, .bool true] 2 (Nat.le_refl _) (by unfold maxLen; omega) rfl).cellAt j (by simpa using hj)
      rw [show (⟨W.heap.size, 0, none⟩ : Addr).add j = ⟨W.heap.size, j, none⟩ from by simp [Addr.add]; omega, hx]
      match j, hj with
      | 0, _ => rfl
      | 1, _ => rfl
    have k3 := where_any _ [false, true] (by decide) _ hbl
    have hK1 := (Below.heap_alloc W (.cells #[.bool false, .bool true] 4) D hDlt).trans hK
    gi_wp2_with (first
      | (refine ⟨trivial, ?_⟩; (try refine ⟨wide_depth _, ?_⟩); gi_at_call 13; refine (callsIn_wide.2 k3).mono ?_; clear k3; rintro e w3 ⟨B, b, rfl, _, hbw, hseq, hb3⟩)
      | (refine ⟨trivial, ?_⟩; (try refine ⟨wide_depth _, ?_⟩); gi_at_call 11; refine (callsIn_wide.2 (first_any 20 _ _ 3 (by decide) w3 (where_gives hseq hbw))).mono ?_; rintro e w4 ⟨v4, rfl, hr4, hb4⟩; obtain ⟨p4, cap4, rfl⟩ := ownsRow_slice hr4))
    have hs3 := hb3.size
    have hs4 := hb4.size
    simp only [World.size_alloc] at hs3
    have hK4 : w4.heap[D]? = some (.deferred (some [])) := (hb4.block D (by omega)).trans ((hb3.block D (by simp; omega)).trans hK1)
    have hB4 : Below w.heap.size w w4 := ((hB.alloc (by omega) _).trans (hb3.mono (by simp; omega))).trans (hb4.mono (by omega))
    have hq : (((min 3 (whereTo [false, true] 2).length : Nat) : Int) == 1) = true := by decide
    rw [hq]
    refine ⟨by simp, .inl ⟨_, _, rfl, run_takeDeferred hK4, ?_⟩⟩
    exact ⟨_, results_tmp rfl _ _ _, rfl, hB4.trans (belowK_b (w := w) (Nat.le_refl _) w4 D _ _ (by simp at hD; omega) hK4 rfl rfl)⟩
  case stop =>
    rintro D c pre W _ _ h _
    exact h.elim

theorem awake_any (w : World) : Calls Try.prog 10 #[] w fun e w' => e = .returned (.bool true) ∧ Below w.heap.size w w' :=
  callsIn_wide.1 (awake_in 3 (by omega) w)
end Go.Proofs.Ytemallklldebpaa
