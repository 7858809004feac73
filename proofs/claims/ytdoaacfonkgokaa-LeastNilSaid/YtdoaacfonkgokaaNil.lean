/- LeastNil: a tally that there isn't tells zero values, whatever is asked of it. -/
import Derived.Test.YtdoaacfonkgokaaAwake
namespace Go.Proofs.Ytdoaacfonkgokaa
open Go.RowKit Go.Maps

theorem pick_none_least {v0 v1 v2 : Value} (h : PickIs_least_int (fun _ => 0) v0 v1 v2) : v0 = .int .i64 0 ∧ v1 = .int .i64 0 ∧ v2 = .bool false := by
  rcases h with ⟨_, h⟩ | ⟨x, hx, _⟩
  · exact h
  · exact absurd rfl hx
theorem pick_none_most {v0 v1 v2 : Value} (h : PickIs_most_int (fun _ => 0) v0 v1 v2) : v0 = .int .i64 0 ∧ v1 = .int .i64 0 ∧ v2 = .bool false := by
  rcases h with ⟨_, h⟩ | ⟨x, hx, _⟩
  · exact h
  · exact absurd rfl hx

set_option maxRecDepth 100000 in
set_option maxHeartbeats 1000000 in
theorem nil_any (k n : Int) (w : World) : Calls Try.prog 5 #[.int .i64 k, .int .i64 n] w (Holds w) := by
  go_enter Try.func5, Try.ntmps5
  go_wp2_with fail
  refine (least_nil_int _).mono ?_
  rintro e w1 ⟨v0, v1, v2, rfl, hb1, hp⟩
  obtain ⟨rfl, rfl, rfl⟩ := pick_none_least hp
  clear hp
  go_wp2_with fail
  refine (most_nil_int _).mono ?_
  rintro e w2 ⟨v0, v1, v2, rfl, hb2, hp⟩
  obtain ⟨rfl, rfl, rfl⟩ := pick_none_most hp
  clear hp
  have hb3 := hb1.trans (hb2.mono hb1.size)
  clear hb1 hb2
  go_wp2_with fail
  refine (add_nil_int _ _ _).mono ?_
  rintro e w3 ⟨rfl, rfl⟩
  go_wp2_with fail
  refine (of_nil_int _ _).mono ?_
  rintro e w3 ⟨rfl, rfl⟩
  go_wp2_with fail
  refine (keys_nil_int _).mono ?_
  rintro e w4 ⟨sv, ks, rfl, _, _, hk3, hown, hb4⟩
  obtain ⟨p, cap, rfl⟩ := own_slice hown
  obtain rfl : ks = [] := List.eq_nil_of_length_eq_zero (by omega)
  have hb5 := hb3.trans (hb4.mono hb3.size)
  clear hown hb3 hb4 hk3
  go_wp2_with fail
  refine (awake_any _).mono ?_
  rintro e w5 ⟨rfl, hb6⟩
  go_wp2
  go_ret
  exact ⟨rfl, hb5.trans (hb6.mono hb5.size)⟩
end Go.Proofs.Ytdoaacfonkgokaa
