/- TurnOnce: for every n, from, k the law answers true, and nothing that was there has turned. -/
import Derived.Test.YtemallklldebpaaAwake
namespace Go.Proofs.Ytemallklldebpaa
open Go.RowKit Go.Shelf

theorem ints_get (a k j : Nat) (h : j < k) : (ints a k)[j]? = some ((a : Int) + j) := by simp [ints, h]
theorem turnL_get {n f : Int} (h1 : 1 ≤ n) {j : Nat} (hj : (j : Int) < n) : (turnL n f)[j]? = some ((f % n + j) % n) := by
  have e1 := Int.emod_nonneg f (show n ≠ 0 by omega)
  have e2 := Int.emod_lt_of_pos f (show 0 < n by omega)
  rw [turnL_some f h1]
  generalize f % n = s at *
  obtain ⟨s, rfl⟩ := Int.eq_ofNat_of_zero_le e1
  obtain ⟨m, rfl⟩ := Int.eq_ofNat_of_zero_le (show 0 ≤ n by omega)
  simp only [Int.toNat_natCast]
  by_cases h : j < m - s
  · rw [List.getElem?_append_left (by rw [ints_length]; exact h), ints_get _ _ _ h, Int.emod_eq_of_lt (by omega) (by omega)]
  · rw [List.getElem?_append_right (by rw [ints_length]; omega), ints_length, ints_get _ _ _ (by omega)]
    have : ((s : Int) + j) = ((0 : Nat) + ((j - (m - s) : Nat) : Int)) + m * 1 := by omega
    rw [this, Int.add_mul_emod_self_left, Int.emod_eq_of_lt (by omega) (by omega)]

theorem below_two {w w2 : World} {o1 o2 : Obj} (hb : Below ((w.alloc o1).alloc o2).heap.size ((w.alloc o1).alloc o2) w2) : Below w.heap.size w w2 :=
  (((Below.refl _ w).alloc (Nat.le_refl _) _).alloc (by simp) _).trans (hb.mono (by simp; omega))
theorem below_on {w w1 w2 : World} (h : Below w.heap.size w w1) (k : Below w1.heap.size w1 w2) : Below w.heap.size w w2 := h.trans (k.mono h.size)

/-- A law's answer: true, and nothing that was there has turned. -/
def Holds (w : World) (e : Ending) (w' : World) : Prop := e = .returned (.bool true) ∧ Below w.heap.size w w'

set_option maxHeartbeats 1000000 in
theorem once_big (n f k : Int) (w : World) (h : 500 < n) : Calls Try.prog 3 #[.int .i64 n, .int .i64 f, .int .i64 k] w (Holds w) := by
  go_enter Try.func3, Try.ntmps3
  go_wp2_with (go_at_call 10; refine (awake_any _).mono ?_; rintro e w' ⟨rfl, hb⟩)
  go_ret
  exact ⟨rfl, hb⟩

set_option maxHeartbeats 1000000 in
theorem once_none (n f k : Int) (w : World) (h : n < 1) (hn : -9223372036854775808 ≤ n) : Calls Try.prog 3 #[.int .i64 n, .int .i64 f, .int .i64 k] w (Holds w) := by
  have k1 := turn_any n f w
  have k2 := first_any 16 _ (turnL n f) (n + 5) (by rw [turnL_length]; omega) _ (turn_gives n f (by omega) w)
  have hL : (turnL n f).length = 0 := by rw [turnL_length]; omega
  have hl : ∀ j, ((turnL n f).take j).length = 0 := fun j => by rw [List.length_take]; omega
  clear hL
  go_enter Try.func3, Try.ntmps3
  go_wp2_with (first
    | (go_at_call 12; refine k1.mono ?_; clear k1; rintro e w1 ⟨rfl, rfl⟩)
    | (go_at_call 11; refine k2.mono ?_; clear k2; rintro e w2 ⟨v, rfl, hr, hb⟩; rw [hl] at hr; obtain ⟨p, cap, rfl⟩ := ownsRow_slice hr)
    | (go_at_call 10; refine (awake_any _).mono ?_; rintro e w' ⟨rfl, hb2⟩))
  go_ret
  exact ⟨rfl, below_on (below_two hb) hb2⟩

set_option maxRecDepth 100000 in
set_option maxHeartbeats 2000000 in
theorem once_some (n : Nat) (f k : Int) (w : World) (h1 : 1 ≤ n) (h2 : n ≤ 500) : Calls Try.prog 3 #[.int .i64 n, .int .i64 f, .int .i64 k] w (Holds w) := by
  have k1 := turn_any n f w
  have k2 := first_any 16 _ (turnL n f) (n + 5) (by rw [turnL_length]; omega) _ (turn_gives n f (by omega) w)
  have k3 := fun w => turn_any n f w
  have k4 := fun w => first_any 16 _ (turnL n f) k (by rw [turnL_length]; omega) _ (turn_gives n f (by omega) w)
  have ht : (turnL n f).take ((n : Int) + 5).toNat = turnL n f := List.take_of_length_le (by rw [turnL_length]; omega)
  have hln : (turnL n f).length = n := turnL_length n f
  have hm1 := Int.emod_nonneg f (show (n : Int) ≠ 0 by omega)
  have hm2 := Int.emod_lt_of_pos f (show 0 < (n : Int) by omega)
  have hg := fun (j : Nat) (hj : (j : Int) < (n : Int)) => turnL_get (f := f) (show 1 ≤ (n : Int) by omega) hj
  have e1 := Lib.hid (emod_tmod_neg f n (by omega))
  have e2 := Lib.hid (emod_tmod_pos f n (by omega))
  obtain ⟨s, hs⟩ := Int.eq_ofNat_of_zero_le hm1
  rw [hs] at e1 e2 hm2
  simp only [hs] at hg
  have Hg := Lib.hid hg
  clear hg hs hm1
  obtain ⟨ht1, ht2⟩ := tmod_bounds f n (by omega)
  go_enter Try.func3, Try.ntmps3
  go_wp2_with (first
    | (go_at_call 12; refine k1.mono ?_; clear k1; rintro e w1 ⟨rfl, rfl⟩)
    | (go_at_call 11; refine k2.mono ?_; clear k2; rintro e w2 ⟨v, rfl, hr, hb⟩; rw [ht, hln] at hr; clear ht hln; obtain ⟨g, cap, rfl⟩ := ownsRow_pos hr h1))
  · have hlt : f.tmod n < 0 := by assumption
    rw [← e1.out hlt]
    go_loop [42] (fun i => ∃ j : Nat, j ≤ n ∧ i = .int .i64 j) (fun i => n - (intOf i).toNat)
    case atStart => exact ⟨0, Nat.zero_le _, rfl⟩
    case round =>
      obtain ⟨j, hj, rfl⟩ := hrel
      by_cases hjn : j < n
      · have hc : w2.cell? ⟨g, j, none⟩ = some (.int .i64 (((s : Int) + j) % n)) := by
          rw [hr.cellAt j (by omega), List.getElem?_map, Hg.out j (by omega)]; rfl
        go_wp2
        go_round
        case rel => exact ⟨j + 1, by omega, by go_num⟩
        case measure => simp [intOf]; omega
      · obtain rfl : n = j := by omega
        go_wp2_with (first
          | (go_at_call 12; refine (k3 _).mono ?_; rintro e w3 ⟨rfl, rfl⟩)
          | (go_at_call 11; refine (k4 _).mono ?_; rintro e w4 ⟨v4, rfl, hr4, hb4⟩; obtain ⟨p4, cap4, rfl⟩ := ownsRow_slice hr4)
          | (go_at_call 10; refine (awake_any _).mono ?_; rintro e w5 ⟨rfl, hb5⟩))
        all_goals first
          | (exfalso; have hl2 := turnL_length n f; omega)
          | (go_ret; exact ⟨rfl, below_on (below_on (below_two hb) (below_two hb4)) hb5⟩)
          | (go_ret; exact ⟨ret_bool (a := ((min k.toNat (turnL n f).length : Nat) : Int) == 0) (b := true) (beq_iff_eq.2 (by omega)), below_on (below_on (below_two hb) (below_two hb4)) hb5⟩)
  · have hlt : 0 ≤ f.tmod n := by assumption
    rw [← e2.out hlt]
    go_loop [42] (fun i => ∃ j : Nat, j ≤ n ∧ i = .int .i64 j) (fun i => n - (intOf i).toNat)
    case atStart => exact ⟨0, Nat.zero_le _, rfl⟩
    case round =>
      obtain ⟨j, hj, rfl⟩ := hrel
      by_cases hjn : j < n
      · have hc : w2.cell? ⟨g, j, none⟩ = some (.int .i64 (((s : Int) + j) % n)) := by
          rw [hr.cellAt j (by omega), List.getElem?_map, Hg.out j (by omega)]; rfl
        go_wp2
        go_round
        case rel => exact ⟨j + 1, by omega, by go_num⟩
        case measure => simp [intOf]; omega
      · obtain rfl : n = j := by omega
        go_wp2_with (first
          | (go_at_call 12; refine (k3 _).mono ?_; rintro e w3 ⟨rfl, rfl⟩)
          | (go_at_call 11; refine (k4 _).mono ?_; rintro e w4 ⟨v4, rfl, hr4, hb4⟩; obtain ⟨p4, cap4, rfl⟩ := ownsRow_slice hr4)
          | (go_at_call 10; refine (awake_any _).mono ?_; rintro e w5 ⟨rfl, hb5⟩))
        all_goals first
          | (exfalso; have hl2 := turnL_length n f; omega)
          | (go_ret; exact ⟨rfl, below_on (below_on (below_two hb) (below_two hb4)) hb5⟩)
          | (go_ret; exact ⟨ret_bool (a := ((min k.toNat (turnL n f).length : Nat) : Int) == 0) (b := true) (beq_iff_eq.2 (by omega)), below_on (below_on (below_two hb) (below_two hb4)) hb5⟩)

theorem once_any (n f k : Int) (w : World) (hn : -9223372036854775808 ≤ n) : Calls Try.prog 3 #[.int .i64 n, .int .i64 f, .int .i64 k] w (Holds w) := by
  by_cases h1 : 500 < n
  · exact once_big n f k w h1
  · by_cases h2 : n < 1
    · exact once_none n f k w h2 hn
    · obtain ⟨m, rfl⟩ := Int.eq_ofNat_of_zero_le (show 0 ≤ n by omega)
      exact once_some m f k w (by omega) (by omega)
end Go.Proofs.Ytemallklldebpaa
