/- TurnShift: for every n and from the law answers true, and nothing that was there has turned. -/
import Derived.BigQuiet
import Derived.Deep.QuietTactic
import Derived.Test.YtemallklldebpaaOnce
namespace Go.Proofs.Ytemallklldebpaa
open Go.RowKit Go.Shelf

theorem turnL_at {n f : Int} (h1 : 1 ≤ n) {j : Nat} (hj : (j : Int) < n) : (turnL n f)[j]? = some ((f + j) % n) := by
  rw [turnL_get h1 hj, Int.emod_add_emod]

/-- Block g holds the ints xs, from its first cell on. -/
def IntsAt (W : World) (g : Nat) (xs : List Int) : Prop := g < W.heap.size ∧ ∀ (j : Nat) (x : Int), xs[j]? = some x → W.cell? ⟨g, j, none⟩ = some (.int .i64 x)
theorem IntsAt.later {W W' : World} {g : Nat} {xs : List Int} (h : IntsAt W g xs) (hb : Below W.heap.size W W') : IntsAt W' g xs :=
  ⟨Nat.lt_of_lt_of_le h.1 hb.size, fun j x hx => (hb.cell (p := ⟨g, j, none⟩) h.1).trans (h.2 j x hx)⟩
theorem IntsAt.two {W W' : World} {o1 o2 : Obj} {g : Nat} {xs : List Int} (h : IntsAt W g xs) (hb : Below ((W.alloc o1).alloc o2).heap.size ((W.alloc o1).alloc o2) W') : IntsAt W' g xs := h.later (below_two hb)
theorem intsAt_of_owns {W : World} {base g n cap : Nat} {xs : List Int} (h : W.ownsRow base 3 1 (.slice (some ⟨g, 0, none⟩) n cap) n (xs.map (Value.int .i64))) : IntsAt W g xs := by
  refine ⟨(h.lt g rfl).2, fun j x hx => ?_⟩
  have hl := h.1
  have hj : j < xs.length := (List.getElem?_eq_some_iff.1 hx).1
  rw [List.length_map] at hl
  rw [h.cellAt j (by omega), List.getElem?_map, hx]; rfl

theorem below_draws {B : Nat} {a b : World} (h : Below B a b) (d : Nat) : Below B a (b.drewN d) := h.trans ⟨rfl, rfl, rfl, Nat.le_refl _, fun _ _ => rfl⟩

theorem shift_out (n f : Int) (w : World) (h : n < 1 ∨ 300 < n) : Calls Try.prog 7 #[.int .i64 n, .int .i64 f] w (Holds w) := by
  by_cases h1 : n < 1
  · go_enter Try.func7, Try.ntmps7
    go_wp2_with (go_at_call 10; refine (awake_any _).mono ?_; rintro e w' ⟨rfl, hb⟩)
    go_ret
    exact ⟨rfl, hb⟩
  · have h2 : 300 < n := by omega
    go_enter Try.func7, Try.ntmps7
    go_wp2_with (go_at_call 10; refine (awake_any _).mono ?_; rintro e w' ⟨rfl, hb⟩)
    go_ret
    exact ⟨rfl, hb⟩

theorem small_of (f : Int) (d : Int) (h1 : 1 ≤ d) (h2 : d ≤ 1000) : ∃ s : Nat, (s : Int) < d ∧ wrap64 ((IntKind.u64.wrap f).tmod d) = (s : Int) := by
  have hu : 0 ≤ IntKind.u64.wrap f := by
    have : IntKind.u64.wrap f = f % (2 ^ 64 : Int) := by simp [IntKind.wrap, IntKind.bits, IntKind.signed]
    rw [this]; exact Int.emod_nonneg _ (by decide)
  rw [Int.tmod_eq_emod_of_nonneg hu]
  have e1 := Int.emod_nonneg (IntKind.u64.wrap f) (show d ≠ 0 by omega)
  have e2 := Int.emod_lt_of_pos (IntKind.u64.wrap f) (show 0 < d by omega)
  obtain ⟨s, hs⟩ := Int.eq_ofNat_of_zero_le e1
  exact ⟨s, by omega, by rw [IntWalk.wrap64_in _ ⟨by omega, by omega⟩, hs]⟩

set_option maxRecDepth 100000 in
set_option maxHeartbeats 2000000 in
theorem shift_in (n : Nat) (f : Int) (w : World) (h1 : 1 ≤ n) (h2 : n ≤ 300) : Calls Try.prog 7 #[.int .i64 n, .int .i64 f] w (Holds w) := by
  obtain ⟨s, hs1, hs⟩ := small_of f 1000 (by omega) (by omega)
  have ka := fun w => first_any 16 _ (turnL n s) n (by rw [turnL_length]; omega) _ (turn_gives n s (by omega) w)
  have kb := fun w => first_any 16 _ (turnL n ((s : Int) + 1)) n (by rw [turnL_length]; omega) _ (turn_gives n ((s : Int) + 1) (by omega) w)
  have kc := fun w => first_any 16 _ (turnL n ((s : Int) + n)) n (by rw [turnL_length]; omega) _ (turn_gives n ((s : Int) + n) (by omega) w)
  have Ht := Lib.hid (fun f : Int => show (turnL n f).take (n : Int).toNat = turnL n f from List.take_of_length_le (by rw [turnL_length]; omega))
  have Hl := Lib.hid (fun f : Int => show (turnL n f).length = n from turnL_length n f)
  go_enter Try.func7, Try.ntmps7
  go_wp2_with (first
    | (go_at_call 12; refine (turn_any _ _ _).mono ?_; rintro e w1 ⟨rfl, rfl⟩)
    | (go_at_call 11; refine (ka _).mono ?_; clear ka; rintro e w2 ⟨v, rfl, hr, hb⟩; rw [Ht.out, Hl.out] at hr; obtain ⟨g, cap, rfl⟩ := ownsRow_pos hr h1; have hA := intsAt_of_owns hr; clear hr)
    | (go_at_call 11; refine (kb _).mono ?_; clear kb; rintro e w3 ⟨v, rfl, hr, hb3⟩; rw [Ht.out, Hl.out] at hr; obtain ⟨g3, cap3, rfl⟩ := ownsRow_pos hr h1; have hA3 := hA.two hb3; have hB3 := intsAt_of_owns hr; clear hr hA)
    | (go_at_call 11; refine (kc _).mono ?_; clear kc; rintro e w4 ⟨v, rfl, hr, hb4⟩; rw [Ht.out, Hl.out] at hr; obtain ⟨g4, cap4, rfl⟩ := ownsRow_pos hr h1; have hA4 := hA3.two hb4; have hB4 := hB3.two hb4; have hC4 := intsAt_of_owns hr; clear hr hA3 hB3))
  go_loopw [56] (fun i wr => ∃ j : Nat, j ≤ n ∧ i = .int .i64 j ∧ ∃ d, wr = w4.drewN d) (fun i _ => n - (intOf i).toNat)
  case atStart => exact ⟨0, Nat.zero_le _, rfl, 0, rfl⟩
  case round =>
    obtain ⟨j, hj, rfl, d, rfl⟩ := hrel
    by_cases hjn : j < n
    · have hm1 : (j + 1) % n < n := Nat.mod_lt _ (by omega)
      have hm : (((j + 1) % n : Nat) : Int) = ((j : Int) + 1) % (n : Int) := by simp
      have x1 : ((s : Int) + (((j + 1) % n : Nat) : Int)) % (n : Int) = ((s : Int) + 1 + j) % n := by
        rw [hm, Int.add_emod_emod]; congr 1; omega
      have x2 : ((s : Int) + n + j) % (n : Int) = ((s : Int) + j) % n := by
        rw [show (s : Int) + n + j = (s + j) + n * 1 by omega, Int.add_mul_emod_self_left]
      have c1 : w4.cell? ⟨g3, j, none⟩ = some (.int .i64 (((s : Int) + 1 + j) % n)) := hB4.2 j _ (turnL_at (by omega) (by omega))
      have c2 : w4.cell? ⟨g, (j + 1) % n, none⟩ = some (.int .i64 (((s : Int) + 1 + j) % n)) := by rw [← x1]; exact hA4.2 _ _ (turnL_at (by omega) (by omega))
      have c3 : w4.cell? ⟨g4, j, none⟩ = some (.int .i64 (((s : Int) + j) % n)) := by rw [← x2]; exact hC4.2 j _ (turnL_at (by omega) (by omega))
      have c4 : w4.cell? ⟨g, j, none⟩ = some (.int .i64 (((s : Int) + j) % n)) := hA4.2 j _ (turnL_at (by omega) (by omega))
      have hmb : ((j : Int) + 1) % (n : Int) < n := Int.emod_lt_of_pos _ (by omega)
      have hma : 0 ≤ ((j : Int) + 1) % (n : Int) := Int.emod_nonneg _ (by omega)
      clear x1 x2 hm
      go_wp2
      go_quiet (fail)
      go_wp2
      go_roundw
      case rel => exact ⟨j + 1, by omega, by go_num, _, rfl⟩
      case measure => simp [intOf]; omega
    · obtain rfl : n = j := by omega
      go_wp2_with (go_at_call 10; refine (awake_any _).mono ?_; rintro e w5 ⟨rfl, hb5⟩)
      go_ret
      exact ⟨rfl, below_on (below_draws (below_on (below_on (below_two hb) (below_two hb3)) (below_two hb4)) d) hb5⟩

theorem shift_any (n f : Int) (w : World) : Calls Try.prog 7 #[.int .i64 n, .int .i64 f] w (Holds w) := by
  by_cases h : n < 1 ∨ 300 < n
  · exact shift_out n f w h
  · obtain ⟨m, rfl⟩ := Int.eq_ofNat_of_zero_le (show 0 ≤ n by omega)
    exact shift_in m f w (by omega) (by omega)
end Go.Proofs.Ytemallklldebpaa
