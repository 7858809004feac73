/- TurnLeft: for every n, from and k the law answers true, and nothing that was there has turned. -/
import Derived.RegionIn
import Derived.Test.YtemallklldebpaaShift
namespace Go.Proofs.Ytemallklldebpaa
open Go.RowKit Go.Shelf

attribute [local go_sem] Oper.semAt_some

theorem enters16 : ∀ args w, (callFunc 16 args).run Try.prog w = .ok (.enter 16 args) w := enters_of Try.func16 (by kernel_rfl) rfl
theorem turn_gives_at (nn ff : Int) (hnn : nn ≤ 9223372036854775807) (Bn Bf : Nat) (w : World) (h1 : Boxed w Bn 3 (.int .i64 nn)) (h2 : Boxed w Bf 3 (.int .i64 ff)) :
    Gives 16 #[.pointer (some ⟨Bn, 0, none⟩), .pointer (some ⟨Bf, 0, none⟩)] (turnL nn ff) w.heap.size w :=
  ⟨enters16, fun m => turn_stops _ m _ _ nn ff hnn _ h1.lt h2.lt h1.cell h2.cell⟩
theorem boxed_later {W W' : World} {b : Nat} {t : TypeId} {v : Value} (h : Boxed W b t v) (hb : Below W.heap.size W W') : Boxed W' b t v := (hb.block b h.lt).trans h

theorem left_out (n f k : Int) (w : World) (h : n < 1 ∨ 300 < n) : Calls Try.prog 6 #[.int .i64 n, .int .i64 f, .int .i64 k] w (Holds w) := by
  by_cases h1 : n < 1
  · go_enter Try.func6, Try.ntmps6
    go_wp2_with (go_at_call 10; refine (awake_any _).mono ?_; rintro e w' ⟨rfl, hb⟩)
    go_ret
    exact ⟨rfl, ((Below.refl _ w).alloc (Nat.le_refl _) _).trans (hb.mono (by simp))⟩
  · have h2 : 300 < n := by omega
    go_enter Try.func6, Try.ntmps6
    go_wp2_with (go_at_call 10; refine (awake_any _).mono ?_; rintro e w' ⟨rfl, hb⟩)
    go_ret
    exact ⟨rfl, ((Below.refl _ w).alloc (Nat.le_refl _) _).trans (hb.mono (by simp))⟩

set_option maxRecDepth 100000 in
set_option maxHeartbeats 2000000 in
theorem left_in (n : Nat) (f k : Int) (w : World) (h1 : 1 ≤ n) (h2 : n ≤ 300) : Calls Try.prog 6 #[.int .i64 n, .int .i64 f, .int .i64 k] w (Holds w) := by
  have hnf := func_nil_26
  obtain ⟨s, hs1, hs⟩ := small_of k n (by omega) (by omega)
  refine callsIn_wide.1 (callsIn_of_wp_marks (n := 3) Try.func6 rfl trivial ?_ rfl)
  simp only [Try.ntmps6, List.size_toArray, List.length_cons, List.length_nil, Nat.reduceAdd, Nat.reduceSub, Array.replicate_succ, Array.replicate_zero, List.push_toArray, List.append_toArray, List.nil_append, List.cons_append]
  gi_wp2_with (refine ⟨trivial, ?_⟩; (try refine ⟨wide_depth _, ?_⟩); gi_at_call 12; refine (callsIn_wide.2 (turn_any _ _ _)).mono ?_; rintro e w1 ⟨rfl, rfl⟩)
  obtain ⟨W0, hW0⟩ : ∃ W0, (((w.alloc (.cells #[.int .i64 s] 3)).alloc (.cells #[.int .i64 n] 3)).alloc (.cells #[.int .i64 f] 3)).alloc (.cells #[.int .i64 0] 3) = W0 := ⟨_, rfl⟩
  have hsz : w.heap.size + 4 ≤ W0.heap.size := by rw [← hW0]; simp
  have bK : Boxed W0 w.heap.size 3 (.int .i64 s) := by rw [← hW0]; exact (((Boxed.new w 3 _).alloc _).alloc _).alloc _
  have bN : Boxed W0 (w.heap.size + 1) 3 (.int .i64 n) := by
    rw [← hW0]; have := Boxed.new (w.alloc (.cells #[.int .i64 s] 3)) 3 (.int .i64 n); rw [World.size_alloc] at this; exact (this.alloc _).alloc _
  have bF : Boxed W0 (w.heap.size + 1 + 1) 3 (.int .i64 f) := by
    rw [← hW0]; have := Boxed.new ((w.alloc (.cells #[.int .i64 s] 3)).alloc (.cells #[.int .i64 n] 3)) 3 (.int .i64 f); simp only [World.size_alloc] at this; exact this.alloc _
  have bC : Boxed W0 (w.heap.size + 1 + 1 + 1) 3 (.int .i64 0) := by
    rw [← hW0]; have := Boxed.new (((w.alloc (.cells #[.int .i64 s] 3)).alloc (.cells #[.int .i64 n] 3)).alloc (.cells #[.int .i64 f] 3)) 3 (.int .i64 0); simp only [World.size_alloc] at this; exact this
  have hB0 : Below w.heap.size w W0 := by
    rw [← hW0]; exact ((((Below.refl _ w).alloc (Nat.le_refl _) _).alloc (by simp) _).alloc (by simp; omega) _).alloc (by simp; omega) _
  rw [hW0]
  have hlN : (turnL n f).length = n := turnL_length n f
  apply wpIn_rangeFunc_ownG rfl (n := 3) (by omega) (gf := 16) (lb := #[.pointer (some ⟨w.heap.size + 1, 0, none⟩), .pointer (some ⟨w.heap.size + 1 + 1, 0, none⟩)]) rfl trivial enters16
    (turn_stops (fun _ _ => True) (3 - 1) _ _ n f (by omega) W0 bN.lt bF.lt bN.cell bF.cell) (fun _ _ => trivial) (fun _ _ _ _ _ _ _ _ => trivial) (Below.refl _ _) (fun _ => rfl)
    (fun pre W => Boxed W (w.heap.size + 1 + 1 + 1) 3 (.int .i64 (pre.length : Int)) ∧ ((Boxed W w.heap.size 3 (.int .i64 s) ∧ Boxed W (w.heap.size + 1) 3 (.int .i64 n) ∧ Boxed W (w.heap.size + 1 + 1) 3 (.int .i64 f)) ∧ pre.length ≤ s ∧ Below w.heap.size w W))
    (fun c pre W => Boxed W (w.heap.size + 1 + 1 + 1) 3 (.int .i64 (s + 1 : Int)) ∧ ((Boxed W w.heap.size 3 (.int .i64 s) ∧ Boxed W (w.heap.size + 1) 3 (.int .i64 n) ∧ Boxed W (w.heap.size + 1 + 1) 3 (.int .i64 f)) ∧ c = .exit 0 ∧ Below w.heap.size w W))
    ?own ?ownx ?start
  case own => exact OwnFrom.and (Own.from (boxed_own _ 3 (fun pre : List Int => .int .i64 (pre.length : Int))) _) (OwnFrom.and (OwnFrom.and (Own.from (boxed_own _ 3 (fun _ => .int .i64 (s : Int))) _) (OwnFrom.and (Own.from (boxed_own _ 3 (fun _ => .int .i64 (n : Int))) _) (Own.from (boxed_own _ 3 (fun _ => .int .i64 f)) _))) (OwnFrom.and (ownFrom_pure _ _) (ownFrom_below (Nat.le_refl _) (by omega))))
  case ownx => exact fun c => OwnFrom.and (Own.from (boxed_own _ 3 (fun _ => .int .i64 (s + 1 : Int))) _) (OwnFrom.and (OwnFrom.and (Own.from (boxed_own _ 3 (fun _ => .int .i64 (s : Int))) _) (OwnFrom.and (Own.from (boxed_own _ 3 (fun _ => .int .i64 (n : Int))) _) (Own.from (boxed_own _ 3 (fun _ => .int .i64 f)) _))) (OwnFrom.and (ownFrom_pure _ _) (ownFrom_below (Nat.le_refl _) (by omega))))
  case start => exact ⟨bC, ⟨bK, bN, bF⟩, Nat.zero_le _, hB0⟩
  case hassign =>
    intro l x W K hK
    gi_wp2
    exact hK
  case hbody =>
    rintro l pre x W ⟨hbx, ⟨hk, hn, hf⟩, hle, hB⟩ hlt
    rw [hlN] at hlt
    have c1 := hbx.cell
    have f1 := hbx.frozen
    have c2 := hk.cell
    have hkw : KeepsFrom W0.heap.size W (W.setCell ⟨w.heap.size + 1 + 1 + 1, 0, none⟩ (.int .i64 ((pre.length : Int) + 1))) := (KeepsOthers.setCell _ _ _).from _
    have hB1 : Below w.heap.size w (W.setCell ⟨w.heap.size + 1 + 1 + 1, 0, none⟩ (.int .i64 ((pre.length : Int) + 1))) := hB.setCell (p := ⟨w.heap.size + 1 + 1 + 1, 0, none⟩) (by simp; omega) _
    have hs1 := hbx.set (.int .i64 ((pre.length : Int) + 1))
    have hk1 := hk.other (B' := w.heap.size + 1 + 1 + 1) (by omega) (.int .i64 ((pre.length : Int) + 1))
    have hn1 := hn.other (B' := w.heap.size + 1 + 1 + 1) (by omega) (.int .i64 ((pre.length : Int) + 1))
    have hf1 := hf.other (B' := w.heap.size + 1 + 1 + 1) (by omega) (.int .i64 ((pre.length : Int) + 1))
    by_cases hps : pre.length < s
    · gi_wp2
      exact ⟨hkw, trivial, by simpa using hs1, ⟨hk1, hn1, hf1⟩, by simp; omega, hB1⟩
    · have hpe : (pre.length : Int) = s := by omega
      rw [hpe] at hkw hB1 hs1 hk1 hn1 hf1 c1
      have : ¬ ((s : Int) + 1 ≤ s) := by omega
      gi_wp2
      exact ⟨hkw, hs1, ⟨hk1, hn1, hf1⟩, rfl, hB1⟩
  case hdone =>
    rintro D ys W hD rfl ⟨_, _, hle, _⟩ hK
    omega
  case hstop =>
    rintro D c pre W hD hpre ⟨hbx, ⟨hk, hn, hf⟩, rfl, hB⟩ hK
    have Ht := Lib.hid (show (turnL n f).take (n : Int).toNat = turnL n f from List.take_of_length_le (by rw [turnL_length]; omega))
    have Hl := Lib.hid hlN
    clear hlN
    gi_wp2_with (first
      | (refine ⟨trivial, ?_⟩; (try refine ⟨wide_depth _, ?_⟩); gi_at_call 11; refine (callsIn_wide.2 (first_any 16 _ (turnL n f) n (by rw [Hl.out]; omega) W (turn_gives_at n f (by omega) _ _ W hn hf))).mono ?_; rintro e w2 ⟨v, rfl, hr, hb2⟩; rw [Ht.out, Hl.out] at hr; obtain ⟨g, cap, rfl⟩ := ownsRow_pos hr h1; have hA := intsAt_of_owns hr; have hbx2 := boxed_later hbx hb2; have hk2 := boxed_later hk hb2; have hn2 := boxed_later hn hb2; have hf2 := boxed_later hf hb2; clear hr hbx hk hn hf)
      | (refine ⟨trivial, ?_⟩; (try refine ⟨wide_depth _, ?_⟩); gi_at_call 11; refine (callsIn_wide.2 (first_any 16 _ (turnL n f) n (by rw [Hl.out]; omega) w2 (turn_gives_at n f (by omega) _ _ w2 hn2 hf2))).mono ?_; rintro e w3 ⟨v, rfl, hr, hb3⟩; rw [Ht.out, Hl.out] at hr; obtain ⟨g3, cap3, rfl⟩ := ownsRow_pos hr h1; have hB3 := intsAt_of_owns hr; have hA3 := hA.later hb3; have c1 := (boxed_later hbx2 hb3).cell; have c2 := (boxed_later hk2 hb3).cell; clear hr hbx2 hk2 hn2 hf2)
      | (refine ⟨trivial, ?_⟩; (try refine ⟨wide_depth _, ?_⟩); gi_at_call 11; refine (callsIn_wide.2 (first_nil _ _)).mono ?_; rintro e w4 ⟨rfl, rfl⟩))
    gi_loopw [67] (fun i wr => ∃ j : Nat, j ≤ n ∧ i = .int .i64 j ∧ ∃ d, wr = w3.drewN d) (fun i _ => n - (intOf i).toNat)
    case atStart => exact ⟨0, Nat.zero_le _, rfl, 0, rfl⟩
    case round =>
      obtain ⟨j, hj, rfl, d, rfl⟩ := hrel
      by_cases hjn : j < n
      · have c3 : w3.cell? ⟨g, j, none⟩ = some (.int .i64 ((f + j) % n)) := hA3.2 j _ (turnL_at (by omega) (by omega))
        have c4 : w3.cell? ⟨g3, j, none⟩ = some (.int .i64 ((f + j) % n)) := hB3.2 j _ (turnL_at (by omega) (by omega))
        gi_wp2
        gi_region
        gi_wp2
        go_roundw
        case rel => exact ⟨j + 1, by omega, by simp, _, rfl⟩
        case measure => simp [intOf]; omega
      · obtain rfl : n = j := by omega
        gi_wp2_with (refine ⟨trivial, ?_⟩; (try refine ⟨wide_depth _, ?_⟩); gi_at_call 10; refine (callsIn_wide.2 (awake_any _)).mono ?_; rintro e w5 ⟨rfl, hb5⟩)
        have hDlt := (Array.getElem?_eq_some_iff.1 hK).1
        have hB5 : Below W.heap.size W w5 := below_on (below_draws (below_on hb2 hb3) d) hb5
        have hK5 : w5.heap[D]? = some (.deferred (some [])) := (hB5.block D hDlt).trans hK
        refine ⟨by simp, .inl ⟨_, _, rfl, run_takeDeferred hK5, ?_⟩⟩
        exact ⟨_, results_tmp rfl _ _ _, rfl, (below_on hB hB5).trans (belowK_b (w := w) (Nat.le_refl _) w5 D _ _ (by omega) hK5 rfl rfl)⟩

theorem left_any (n f k : Int) (w : World) : Calls Try.prog 6 #[.int .i64 n, .int .i64 f, .int .i64 k] w (Holds w) := by
  by_cases h : n < 1 ∨ 300 < n
  · exact left_out n f k w h
  · obtain ⟨m, rfl⟩ := Int.eq_ofNat_of_zero_le (show 0 ≤ n by omega)
    exact left_in m f k w (by omega) (by omega)
end Go.Proofs.Ytemallklldebpaa
