/- LeastEnds: Low and High tell the first of the lowest, of the greatest, of numbers and of texts. -/
import Derived.Test.YtdoaacfonkgokaaAwake
namespace Go.Proofs.Ytdoaacfonkgokaa
open Go.RowKit Go.Maps

theorem best_cons {α : Type} {bt : α → α → Bool} {zs : List α} {r : Int} (h : Best bt zs r) (hz : zs ≠ []) : ∃ a : Nat, r = (a : Int) ∧ a < zs.length ∧ BestAt bt zs a := by
  rcases h with ⟨h, _⟩ | ⟨a, ha, hr, h1, h2⟩
  · exact absurd h hz
  · exact ⟨a, hr, ha, ha, h1, h2⟩
theorem best_nil {α : Type} {bt : α → α → Bool} {r : Int} (h : Best bt [] r) : r = -1 := by
  rcases h with ⟨_, h⟩ | ⟨a, ha, _⟩
  · exact h
  · exact absurd ha (by simp)
theorem bestAt_out {α : Type} {bt : α → α → Bool} {zs : List α} {a k : Nat} (h : BestAt bt zs a) (ha : a < zs.length) (hk : k < zs.length) : bt zs[k] zs[a] = false ∧ (k < a → bt zs[a] zs[k] = true) := by
  obtain ⟨_, h1, h2⟩ := h
  exact ⟨h1 k hk, fun h => h2 k h⟩
theorem low_int_out {zs : List Int} {a k : Nat} (h : BestAt ltInt zs a) (ha : a < zs.length) (hk : k < zs.length) : decide (zs[k] < zs[a]) = false ∧ ((zs[k] == zs[a]) = true → decide (k < a) = false) := by
  obtain ⟨h1, h2⟩ := bestAt_out h ha hk
  refine ⟨h1, fun h3 => ?_⟩
  simp [ltInt] at h1 h2 h3 ⊢
  omega
theorem high_int_out {zs : List Int} {a k : Nat} (h : BestAt gtInt zs a) (ha : a < zs.length) (hk : k < zs.length) : decide (zs[a] < zs[k]) = false ∧ ((zs[k] == zs[a]) = true → decide (k < a) = false) := by
  obtain ⟨h1, h2⟩ := bestAt_out h ha hk
  refine ⟨h1, fun h3 => ?_⟩
  simp [gtInt] at h1 h2 h3 ⊢
  omega
theorem low_str_out {zs : List (List UInt8)} {a k : Nat} (h : BestAt ltStr zs a) (ha : a < zs.length) (hk : k < zs.length) : Op.bytesLess zs[k] zs[a] = false ∧ ((zs[k] == zs[a]) = true → decide (k < a) = false) := by
  obtain ⟨h1, h2⟩ := bestAt_out h ha hk
  rw [bytes_lt]
  refine ⟨h1, fun h3 => ?_⟩
  have h3 : zs[k] = zs[a] := by simpa using h3
  simp only [decide_eq_false_iff_not]
  intro hka
  have := h2 hka
  rw [h3] at this
  simp [ltStr, List.lt_irrefl] at this
theorem high_str_out {zs : List (List UInt8)} {a k : Nat} (h : BestAt gtStr zs a) (ha : a < zs.length) (hk : k < zs.length) : (Op.bytesLess zs[k] zs[a] || zs[k] == zs[a]) = true ∧ ((zs[k] == zs[a]) = true → decide (k < a) = false) := by
  obtain ⟨h1, h2⟩ := bestAt_out h ha hk
  rw [bytes_lt]
  constructor
  · simp only [gtStr, decide_eq_false_iff_not, List.not_lt] at h1
    by_cases e : zs[k] = zs[a]
    · simp [e]
    · simp only [Bool.or_eq_true, decide_eq_true_eq, beq_iff_eq]
      exact .inl (List.not_le.1 fun h4 => e (List.le_antisymm h1 h4))
  · intro h3
    have h3 : zs[k] = zs[a] := by simpa using h3
    simp only [decide_eq_false_iff_not]
    intro hka
    have := h2 hka
    rw [h3] at this
    simp [gtStr, List.lt_irrefl] at this
theorem row_slice {α : Type} {enc : α → Value} {w : World} {sv : Value} {zs : List α} (h : Row enc w sv zs) : ∃ ad cap, sv = .slice ad zs.length cap := by
  rcases h with ⟨rfl, rfl⟩ | ⟨ad, cap, rfl, _⟩
  · exact ⟨_, _, rfl⟩
  · exact ⟨_, _, rfl⟩
theorem row_some {α : Type} {enc : α → Value} {w : World} {sv : Value} {zs : List α} (h : Row enc w sv zs) (hz : zs ≠ []) : ∃ ad cap, sv = .slice (some ad) zs.length cap ∧ ∀ j (h : j < zs.length), w.cell? (ad.add j) = some (enc zs[j]) := by
  rcases h with ⟨_, h⟩ | h
  · exact absurd h hz
  · exact h

set_option maxRecDepth 100000 in
set_option maxHeartbeats 1000000 in
theorem ends_big (sv tv : Value) (zs : List Int) (ss : List (List UInt8)) (w : World) (h1 : Row (Value.int .i64) w sv zs) (h2 : Row encStr w tv ss) (hz : zs.length ≤ 9223372036854775807) (hs : ss.length ≤ 9223372036854775807) (hb : 200 < zs.length ∨ 200 < ss.length) :
    Calls Try.prog 4 #[sv, tv] w (Holds w) := by
  obtain ⟨ad, c1, rfl⟩ := row_slice h1
  obtain ⟨ae, c2, rfl⟩ := row_slice h2
  clear h1 h2
  by_cases hl : 200 < zs.length
  · clear hb
    go_enter Try.func4, Try.ntmps4
    go_wp2_with (go_at_call 9; refine (awake_any _).mono ?_; rintro e w' ⟨rfl, hb⟩)
    go_ret
    exact ⟨rfl, hb⟩
  · have hl2 : 200 < ss.length := by omega
    clear hb
    go_enter Try.func4, Try.ntmps4
    go_wp2_with (go_at_call 9; refine (awake_any _).mono ?_; rintro e w' ⟨rfl, hb⟩)
    go_ret
    exact ⟨rfl, hb⟩

set_option maxRecDepth 100000 in
set_option maxHeartbeats 4000000 in
theorem ends_nil_nil (sv tv : Value) (w : World) (h1 : Row (Value.int .i64) w sv []) (h2 : Row encStr w tv []) :
    Calls Try.prog 4 #[sv, tv] w (Holds w) := by
  obtain ⟨ad, c1, rfl⟩ := row_slice h1
  obtain ⟨ae, c2, rfl⟩ := row_slice h2
  go_enter Try.func4, Try.ntmps4
  go_wp2_with fail
  refine (low_int_any _ [] _ h1 (by simp)).mono ?_
  rintro e w8 ⟨r, rfl, hr, rfl⟩
  obtain rfl := best_nil hr
  clear hr
  go_wp2_with fail
  refine (high_int_any _ [] _ h1 (by simp)).mono ?_
  rintro e w8 ⟨r, rfl, hr, rfl⟩
  obtain rfl := best_nil hr
  clear hr
  go_wp2
  refine wp_loop_rounds 1 ?_
  rw [rounds_succ]
  go_wp2_with fail
  refine (low_string_any _ [] _ h2 (by simp)).mono ?_
  rintro e w8 ⟨r, rfl, hr, rfl⟩
  obtain rfl := best_nil hr
  clear hr
  go_wp2_with fail
  refine (high_string_any _ [] _ h2 (by simp)).mono ?_
  rintro e w8 ⟨r, rfl, hr, rfl⟩
  obtain rfl := best_nil hr
  clear hr
  go_wp2_with (go_at_call 9; refine (awake_any _).mono ?_; rintro e w' ⟨rfl, hb⟩)
  go_ret
  exact ⟨rfl, hb⟩

set_option maxRecDepth 100000 in
set_option maxHeartbeats 4000000 in
theorem ends_nil_cons (sv tv : Value) (ss : List (List UInt8)) (w : World) (h1 : Row (Value.int .i64) w sv []) (h2 : Row encStr w tv ss) (hs : (ss : List (List UInt8)).length ≤ 200) (hs0 : ss ≠ []) :
    Calls Try.prog 4 #[sv, tv] w (Holds w) := by
  obtain ⟨ad, c1, rfl⟩ := row_slice h1
  obtain ⟨ae, c2, rfl, hcs⟩ := row_some h2 hs0
  go_enter Try.func4, Try.ntmps4
  go_wp2_with fail
  refine (low_int_any _ [] _ h1 (by simp)).mono ?_
  rintro e w8 ⟨r, rfl, hr, rfl⟩
  obtain rfl := best_nil hr
  clear hr
  go_wp2_with fail
  refine (high_int_any _ [] _ h1 (by simp)).mono ?_
  rintro e w8 ⟨r, rfl, hr, rfl⟩
  obtain rfl := best_nil hr
  clear hr
  go_wp2
  refine wp_loop_rounds 1 ?_
  rw [rounds_succ]
  go_wp2_with fail
  refine (low_string_any _ ss _ h2 (by omega)).mono ?_
  rintro e w8 ⟨r, rfl, hr, rfl⟩
  obtain ⟨c, rfl, hcl, hc⟩ := best_cons hr hs0
  clear hr
  go_wp2_with fail
  refine (high_string_any _ ss _ h2 (by omega)).mono ?_
  rintro e w8 ⟨r, rfl, hr, rfl⟩
  obtain ⟨d, rfl, hdl, hd⟩ := best_cons hr hs0
  clear hr
  have Hc := Lib.hid hc
  have Hd := Lib.hid hd
  have Hs0 := Lib.hid hs0
  have hsl : (ss.length == 0) = false := by simp; exact Hs0.out
  clear hc hd hs0
  go_wp2
  go_loop [146] (fun i => ∃ k : Nat, k ≤ ss.length ∧ i = .int .i64 k) (fun i => ss.length - (intOf i).toNat)
  case atStart => exact ⟨0, Nat.zero_le _, rfl⟩
  case round =>
    obtain ⟨k, hk, rfl⟩ := hrel
    by_cases hlt : k < ss.length
    · have hk1 := hcs k hlt
      have hk2 := hcs c hcl
      have hk3 := hcs d hdl
      obtain ⟨p1, p2⟩ := low_str_out Hc.out hcl hlt
      obtain ⟨q1, q2⟩ := high_str_out Hd.out hdl hlt
      cases e1 : (ss[k] == ss[c])
      all_goals
        first | (have p3 := p2 e1; clear p2) | clear p2
        cases e2 : (ss[k] == ss[d])
        all_goals
          first | (have q3 := q2 e2; clear q2) | clear q2
          rw [e2] at q1
          first | (have q4 : Op.bytesLess ss[k] ss[d] = true := (by simpa using q1); clear q1) | clear q1
          go_wp2
          go_round
          case rel => exact ⟨k + 1, by omega, by go_num⟩
          case measure => simp [intOf]; omega
    · go_wp2_with (go_at_call 9; refine (awake_any _).mono ?_; rintro e w' ⟨rfl, hb⟩)
      go_ret
      exact ⟨rfl, hb⟩

set_option maxRecDepth 100000 in
set_option maxHeartbeats 4000000 in
theorem ends_cons_nil (sv tv : Value) (zs : List Int) (w : World) (h1 : Row (Value.int .i64) w sv zs) (h2 : Row encStr w tv []) (hz : (zs : List Int).length ≤ 200) (hz0 : zs ≠ []) :
    Calls Try.prog 4 #[sv, tv] w (Holds w) := by
  obtain ⟨ad, c1, rfl, hci⟩ := row_some h1 hz0
  obtain ⟨ae, c2, rfl⟩ := row_slice h2
  go_enter Try.func4, Try.ntmps4
  go_wp2_with fail
  refine (low_int_any _ zs _ h1 (by omega)).mono ?_
  rintro e w8 ⟨r, rfl, hr, rfl⟩
  obtain ⟨a, rfl, hal, ha⟩ := best_cons hr hz0
  clear hr
  go_wp2_with fail
  refine (high_int_any _ zs _ h1 (by omega)).mono ?_
  rintro e w8 ⟨r, rfl, hr, rfl⟩
  obtain ⟨b, rfl, hbl, hb⟩ := best_cons hr hz0
  clear hr
  have Ha := Lib.hid ha
  have Hb := Lib.hid hb
  have Hz0 := Lib.hid hz0
  have hzl : (zs.length == 0) = false := by simp; exact Hz0.out
  have hzl2 : 0 < zs.length := by omega
  clear ha hb hz0
  go_wp2
  go_loop [64] (fun i => ∃ k : Nat, k ≤ zs.length ∧ i = .int .i64 k) (fun i => zs.length - (intOf i).toNat)
  case atStart => exact ⟨0, Nat.zero_le _, rfl⟩
  case round =>
    obtain ⟨k, hk, rfl⟩ := hrel
    by_cases hlt : k < zs.length
    · have hk1 := hci k hlt
      have hk2 := hci a hal
      have hk3 := hci b hbl
      obtain ⟨p1, p2⟩ := low_int_out Ha.out hal hlt
      obtain ⟨q1, q2⟩ := high_int_out Hb.out hbl hlt
      cases e1 : (zs[k] == zs[a])
      all_goals
        first | (have p3 := p2 e1; clear p2) | clear p2
        cases e2 : (zs[k] == zs[b])
        all_goals
          first | (have q3 := q2 e2; clear q2) | clear q2
          go_wp2
          go_round
          case rel => exact ⟨k + 1, by omega, by go_num⟩
          case measure => simp [intOf]; omega
    · -- behind the numbers
      go_wp2_with fail
      refine (low_string_any _ [] _ h2 (by simp)).mono ?_
      rintro e w8 ⟨r, rfl, hr, rfl⟩
      obtain rfl := best_nil hr
      clear hr
      go_wp2_with fail
      refine (high_string_any _ [] _ h2 (by simp)).mono ?_
      rintro e w8 ⟨r, rfl, hr, rfl⟩
      obtain rfl := best_nil hr
      clear hr
      go_wp2_with (go_at_call 9; refine (awake_any _).mono ?_; rintro e w' ⟨rfl, hb⟩)
      go_ret
      exact ⟨rfl, hb⟩

set_option maxRecDepth 100000 in
set_option maxHeartbeats 4000000 in
theorem ends_cons_cons (sv tv : Value) (zs : List Int) (ss : List (List UInt8)) (w : World) (h1 : Row (Value.int .i64) w sv zs) (h2 : Row encStr w tv ss) (hz : (zs : List Int).length ≤ 200) (hs : (ss : List (List UInt8)).length ≤ 200) (hz0 : zs ≠ []) (hs0 : ss ≠ []) :
    Calls Try.prog 4 #[sv, tv] w (Holds w) := by
  obtain ⟨ad, c1, rfl, hci⟩ := row_some h1 hz0
  obtain ⟨ae, c2, rfl, hcs⟩ := row_some h2 hs0
  go_enter Try.func4, Try.ntmps4
  go_wp2_with fail
  refine (low_int_any _ zs _ h1 (by omega)).mono ?_
  rintro e w8 ⟨r, rfl, hr, rfl⟩
  obtain ⟨a, rfl, hal, ha⟩ := best_cons hr hz0
  clear hr
  go_wp2_with fail
  refine (high_int_any _ zs _ h1 (by omega)).mono ?_
  rintro e w8 ⟨r, rfl, hr, rfl⟩
  obtain ⟨b, rfl, hbl, hb⟩ := best_cons hr hz0
  clear hr
  have Ha := Lib.hid ha
  have Hb := Lib.hid hb
  have Hz0 := Lib.hid hz0
  have hzl : (zs.length == 0) = false := by simp; exact Hz0.out
  have hzl2 : 0 < zs.length := by omega
  clear ha hb hz0
  go_wp2
  go_loop [64] (fun i => ∃ k : Nat, k ≤ zs.length ∧ i = .int .i64 k) (fun i => zs.length - (intOf i).toNat)
  case atStart => exact ⟨0, Nat.zero_le _, rfl⟩
  case round =>
    obtain ⟨k, hk, rfl⟩ := hrel
    by_cases hlt : k < zs.length
    · have hk1 := hci k hlt
      have hk2 := hci a hal
      have hk3 := hci b hbl
      obtain ⟨p1, p2⟩ := low_int_out Ha.out hal hlt
      obtain ⟨q1, q2⟩ := high_int_out Hb.out hbl hlt
      cases e1 : (zs[k] == zs[a])
      all_goals
        first | (have p3 := p2 e1; clear p2) | clear p2
        cases e2 : (zs[k] == zs[b])
        all_goals
          first | (have q3 := q2 e2; clear q2) | clear q2
          go_wp2
          go_round
          case rel => exact ⟨k + 1, by omega, by go_num⟩
          case measure => simp [intOf]; omega
    · -- behind the numbers
      go_wp2_with fail
      refine (low_string_any _ ss _ h2 (by omega)).mono ?_
      rintro e w8 ⟨r, rfl, hr, rfl⟩
      obtain ⟨c, rfl, hcl, hc⟩ := best_cons hr hs0
      clear hr
      go_wp2_with fail
      refine (high_string_any _ ss _ h2 (by omega)).mono ?_
      rintro e w8 ⟨r, rfl, hr, rfl⟩
      obtain ⟨d, rfl, hdl, hd⟩ := best_cons hr hs0
      clear hr
      have Hc := Lib.hid hc
      have Hd := Lib.hid hd
      have Hs0 := Lib.hid hs0
      have hsl : (ss.length == 0) = false := by simp; exact Hs0.out
      clear hc hd hs0
      go_wp2
      go_loop [146] (fun i => ∃ k : Nat, k ≤ ss.length ∧ i = .int .i64 k) (fun i => ss.length - (intOf i).toNat)
      case atStart => exact ⟨0, Nat.zero_le _, rfl⟩
      case round =>
        obtain ⟨k, hk, rfl⟩ := hrel
        by_cases hlt : k < ss.length
        · have hk1 := hcs k hlt
          have hk2 := hcs c hcl
          have hk3 := hcs d hdl
          obtain ⟨p1, p2⟩ := low_str_out Hc.out hcl hlt
          obtain ⟨q1, q2⟩ := high_str_out Hd.out hdl hlt
          cases e1 : (ss[k] == ss[c])
          all_goals
            first | (have p3 := p2 e1; clear p2) | clear p2
            cases e2 : (ss[k] == ss[d])
            all_goals
              first | (have q3 := q2 e2; clear q2) | clear q2
              rw [e2] at q1
              first | (have q4 : Op.bytesLess ss[k] ss[d] = true := (by simpa using q1); clear q1) | clear q1
              go_wp2
              go_round
              case rel => exact ⟨k + 1, by omega, by go_num⟩
              case measure => simp [intOf]; omega
        · go_wp2_with (go_at_call 9; refine (awake_any _).mono ?_; rintro e w' ⟨rfl, hb⟩)
          go_ret
          exact ⟨rfl, hb⟩

theorem ends_any (sv tv : Value) (zs : List Int) (ss : List (List UInt8)) (w : World) (h1 : Row (Value.int .i64) w sv zs) (h2 : Row encStr w tv ss) (hz : zs.length ≤ 9223372036854775807) (hs : ss.length ≤ 9223372036854775807) :
    Calls Try.prog 4 #[sv, tv] w (Holds w) := by
  by_cases hb : 200 < zs.length ∨ 200 < ss.length
  · exact ends_big sv tv zs ss w h1 h2 hz hs hb
  · by_cases z0 : zs = []
    · subst z0
      by_cases s0 : ss = []
      · subst s0; exact ends_nil_nil sv tv w h1 h2
      · exact ends_nil_cons sv tv ss w h1 h2 (by omega) s0
    · by_cases s0 : ss = []
      · subst s0; exact ends_cons_nil sv tv zs w h1 h2 (by omega) z0
      · exact ends_cons_cons sv tv zs ss w h1 h2 (by omega) (by omega) z0 s0
end Go.Proofs.Ytdoaacfonkgokaa
