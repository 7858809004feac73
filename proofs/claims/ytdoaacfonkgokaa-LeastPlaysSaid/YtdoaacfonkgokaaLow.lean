/- Low and High of package least: the place of the first of the lowest, of the greatest; -1 of none. -/
import Derived.Test.YtdoaacfonkgokaaLeaf
namespace Go.Proofs.Ytdoaacfonkgokaa
open Go.RowKit

/-- The slice value sv reads as the list zs. -/
def Row {α : Type} (enc : α → Value) (w : World) (sv : Value) (zs : List α) : Prop :=
  (sv = .slice none 0 0 ∧ zs = []) ∨ ∃ ad cap, sv = .slice (some ad) zs.length cap ∧ ∀ j (h : j < zs.length), w.cell? (ad.add j) = some (enc zs[j])
/-- r is the place of the first of the best. -/
def Best {α : Type} (bt : α → α → Bool) (zs : List α) (r : Int) : Prop :=
  (zs = [] ∧ r = -1) ∨ ∃ a, ∃ h : a < zs.length, r = (a : Int) ∧ (∀ i (hi : i < zs.length), bt zs[i] zs[a] = false) ∧ ∀ i (hi : i < a), bt zs[a] zs[i] = true
structure Ord {α : Type} (bt : α → α → Bool) : Prop where
  irr : ∀ x, bt x x = false
  tr : ∀ x c i, bt x c = true → bt i c = false → bt x i = true
  asym : ∀ x i, bt x i = true → bt i x = false
theorem best_start {α : Type} (bt : α → α → Bool) : Best bt [] (-1) := .inl ⟨rfl, rfl⟩
theorem best_first {α : Type} {bt : α → α → Bool} (O : Ord bt) (x : α) : Best bt [x] 0 :=
  .inr ⟨0, by simp, rfl, fun i hi => by obtain rfl : i = 0 := by simpa using hi
                                        exact O.irr _, fun i hi => by omega⟩
/-- The best of all but the last one's place, known to be there. -/
def BestAt {α : Type} (bt : α → α → Bool) (zs : List α) (a : Nat) : Prop :=
  ∃ h : a < zs.length, (∀ i (hi : i < zs.length), bt zs[i] zs[a] = false) ∧ ∀ i (hi : i < a), bt zs[a] zs[i] = true
theorem bestAt_first {α : Type} {bt : α → α → Bool} (O : Ord bt) (x : α) : BestAt bt [x] 0 :=
  ⟨by simp, fun i hi => by obtain rfl : i = 0 := by simpa using hi
                           exact O.irr _, fun i hi => by omega⟩
theorem bestAt_turn {α : Type} {bt : α → α → Bool} (O : Ord bt) {zs : List α} {a : Nat} (ha : a < zs.length) (h : BestAt bt zs a) (x : α) (hx : bt x zs[a] = true) : BestAt bt (zs ++ [x]) zs.length := by
  obtain ⟨_, h1, h2⟩ := h
  have key : ∀ i (hi : i < zs.length), bt x zs[i] = true := fun i hi => O.tr _ _ _ hx (h1 i hi)
  refine ⟨by simp, fun i hi => ?_, fun i hi => ?_⟩
  · by_cases e : i < zs.length
    · rw [List.getElem_append_left e]
      simpa using O.asym _ _ (key i e)
    · obtain rfl : i = zs.length := by simp at hi; omega
      exact O.irr _
  · rw [List.getElem_append_left hi]
    simpa using key i hi
theorem bestAt_keep {α : Type} {bt : α → α → Bool} {zs : List α} {a : Nat} (ha : a < zs.length) (h : BestAt bt zs a) (x : α) (hx : bt x zs[a] = false) : BestAt bt (zs ++ [x]) a := by
  obtain ⟨_, h1, h2⟩ := h
  refine ⟨by simp; omega, fun i hi => ?_, fun i hi => ?_⟩
  · rw [List.getElem_append_left ha]
    by_cases e : i < zs.length
    · rw [List.getElem_append_left e]; exact h1 i e
    · obtain rfl : i = zs.length := by simp at hi; omega
      simpa using hx
  · rw [List.getElem_append_left ha, List.getElem_append_left (by omega)]; exact h2 i hi
theorem best_of {α : Type} {bt : α → α → Bool} {zs : List α} {a : Nat} (h : BestAt bt zs a) : Best bt zs a := by
  obtain ⟨h, h1, h2⟩ := h
  exact .inr ⟨a, h, rfl, h1, h2⟩
theorem take_more {α : Type} (zs : List α) (k : Nat) (h : k < zs.length) : zs.take (k + 1) = zs.take k ++ [zs[k]] := by
  rw [List.take_succ_eq_append_getElem h]

def ltInt (x y : Int) : Bool := decide (x < y)
def gtInt (x y : Int) : Bool := decide (y < x)
def ltStr (x y : List UInt8) : Bool := decide (x < y)
def gtStr (x y : List UInt8) : Bool := decide (y < x)
theorem ord_ltInt : Ord ltInt := ⟨fun x => by simp [ltInt], fun x c i => by simp [ltInt]; omega, fun x i => by simp [ltInt]; omega⟩
theorem ord_gtInt : Ord gtInt := ⟨fun x => by simp [gtInt], fun x c i => by simp [gtInt]; omega, fun x i => by simp [gtInt]; omega⟩
theorem ord_ltStr : Ord ltStr := ⟨fun x => by simp [ltStr, List.lt_irrefl], fun x c i => by simp only [ltStr, decide_eq_true_eq, decide_eq_false_iff_not, List.not_lt]; exact fun h1 h2 => List.not_le.1 fun h3 => List.not_lt.2 (List.le_trans h2 h3) h1,
  fun x i => by simp only [ltStr, decide_eq_true_eq, decide_eq_false_iff_not]; exact fun h1 h2 => List.lt_irrefl x (List.lt_trans h1 h2)⟩
theorem ord_gtStr : Ord gtStr := ⟨fun x => by simp [gtStr, List.lt_irrefl], fun x c i => by simp only [gtStr, decide_eq_true_eq, decide_eq_false_iff_not, List.not_lt]; exact fun h1 h2 => List.not_le.1 fun h3 => List.not_lt.2 (List.le_trans h3 h2) h1,
  fun x i => by simp only [gtStr, decide_eq_true_eq, decide_eq_false_iff_not]; exact fun h1 h2 => List.lt_irrefl x (List.lt_trans h2 h1)⟩

def BestPost {α : Type} (bt : α → α → Bool) (zs : List α) (w : World) (e : Ending) (w' : World) : Prop := ∃ r, e = .returned (.int .i64 r) ∧ Best bt zs r ∧ w = w'

set_option maxHeartbeats 1000000 in
theorem low_int_any (sv : Value) (zs : List Int) (w : World) (h : Row (Value.int .i64) w sv zs) (hl : zs.length ≤ 9223372036854775807) :
    Calls Try.prog 16 #[sv] w (BestPost ltInt zs w) := by
  rcases h with ⟨rfl, rfl⟩ | ⟨ad, cap, rfl, hc⟩
  · go_enter Try.func16, Try.ntmps16
    go_wp2
    refine wp_loop_rounds 1 ?_
    rw [rounds_succ]
    go_wp2
    go_ret
    exact ⟨-1, rfl, best_start _, rfl⟩
  · go_enter Try.func16, Try.ntmps16
    go_wp2
    go_loop [3, 8] (fun t i => ∃ k : Nat, k ≤ zs.length ∧ i = .int .i64 k ∧ ((k = 0 ∧ t = .int .i64 (-1)) ∨ ∃ a : Nat, a < k ∧ t = .int .i64 a ∧ BestAt ltInt (zs.take k) a)) (fun _ i => zs.length - (intOf i).toNat)
    case atStart => exact ⟨0, Nat.zero_le _, rfl, .inl ⟨rfl, rfl⟩⟩
    case round =>
      obtain ⟨k, hk, rfl, hrel⟩ := hrel
      by_cases hlt : k < zs.length
      · have hcell := hc k hlt
        have ht := Lib.hid (take_more zs k hlt)
        have htl := Lib.hid (show (zs.take k).length = k by simp; omega)
        rcases hrel with ⟨hk0, rfl⟩ | ⟨a, ha, rfl, hb⟩
        · obtain rfl := hk0
          have hcell0 : w.cell? ad = some ((Value.int .i64) zs[0]) := by simpa [Addr.add] using hc 0 hlt
          clear hk hcell
          go_wp2
          go_round
          case rel => exact ⟨1, by omega, rfl, .inr ⟨0, by omega, rfl, by rw [ht.out]; exact bestAt_first ord_ltInt _⟩⟩
          case measure => simp [intOf]; omega
        · have hcell2 := hc a (by omega)
          have h0 : decide ((a : Int) < 0) = false := by simp
          have hal : a < (zs.take k).length := by rw [htl.out]; exact ha
          have hga : zs[a] = (zs.take k)[a] := by simp
          have Hga := Lib.hid hga
          clear hga
          cases hbt : ltInt zs[k] zs[a] with
          | true =>
            have Hbt := Lib.hid hbt
            clear hbt
            go_wp2_with (first | (go_at_call 33; refine (less_int _ _ _).mono ?_; rintro e w' ⟨rfl, rfl⟩; have hd : decide (zs[k] < zs[a]) = true := Hbt.out) | fail)
            go_round
            case rel => exact ⟨k + 1, by omega, by go_num, .inr ⟨k, by omega, rfl, by
              have := bestAt_turn ord_ltInt hal hb zs[k] (by rw [← Hga.out]; exact Hbt.out)
              rw [ht.out]; rw [htl.out] at this; exact this⟩⟩
            case measure => simp [intOf]; omega
          | false =>
            have Hbt := Lib.hid hbt
            clear hbt
            go_wp2_with (first | (go_at_call 33; refine (less_int _ _ _).mono ?_; rintro e w' ⟨rfl, rfl⟩; have hd : decide (zs[k] < zs[a]) = false := Hbt.out) | fail)
            go_round
            case rel => exact ⟨k + 1, by omega, by go_num, .inr ⟨a, by omega, rfl, by
              rw [ht.out]; exact bestAt_keep hal hb zs[k] (by rw [← Hga.out]; exact Hbt.out)⟩⟩
            case measure => simp [intOf]; omega
      · have hz := Lib.hid (show zs.take k = zs by rw [List.take_of_length_le (by omega)])
        rcases hrel with ⟨hk0, rfl⟩ | ⟨a, ha, rfl, hb⟩
        · have hnil := Lib.hid (show zs = [] from List.eq_nil_of_length_eq_zero (by omega))
          clear hk0
          go_wp2
          go_ret
          exact ⟨-1, rfl, by rw [hnil.out]; exact best_start _, rfl⟩
        · go_wp2
          go_ret
          exact ⟨a, rfl, best_of (by rw [← hz.out]; exact hb), rfl⟩

set_option maxHeartbeats 1000000 in
theorem high_int_any (sv : Value) (zs : List Int) (w : World) (h : Row (Value.int .i64) w sv zs) (hl : zs.length ≤ 9223372036854775807) :
    Calls Try.prog 17 #[sv] w (BestPost gtInt zs w) := by
  rcases h with ⟨rfl, rfl⟩ | ⟨ad, cap, rfl, hc⟩
  · go_enter Try.func17, Try.ntmps17
    go_wp2
    refine wp_loop_rounds 1 ?_
    rw [rounds_succ]
    go_wp2
    go_ret
    exact ⟨-1, rfl, best_start _, rfl⟩
  · go_enter Try.func17, Try.ntmps17
    go_wp2
    go_loop [3, 8] (fun t i => ∃ k : Nat, k ≤ zs.length ∧ i = .int .i64 k ∧ ((k = 0 ∧ t = .int .i64 (-1)) ∨ ∃ a : Nat, a < k ∧ t = .int .i64 a ∧ BestAt gtInt (zs.take k) a)) (fun _ i => zs.length - (intOf i).toNat)
    case atStart => exact ⟨0, Nat.zero_le _, rfl, .inl ⟨rfl, rfl⟩⟩
    case round =>
      obtain ⟨k, hk, rfl, hrel⟩ := hrel
      by_cases hlt : k < zs.length
      · have hcell := hc k hlt
        have ht := Lib.hid (take_more zs k hlt)
        have htl := Lib.hid (show (zs.take k).length = k by simp; omega)
        rcases hrel with ⟨hk0, rfl⟩ | ⟨a, ha, rfl, hb⟩
        · obtain rfl := hk0
          have hcell0 : w.cell? ad = some ((Value.int .i64) zs[0]) := by simpa [Addr.add] using hc 0 hlt
          clear hk hcell
          go_wp2
          go_round
          case rel => exact ⟨1, by omega, rfl, .inr ⟨0, by omega, rfl, by rw [ht.out]; exact bestAt_first ord_gtInt _⟩⟩
          case measure => simp [intOf]; omega
        · have hcell2 := hc a (by omega)
          have h0 : decide ((a : Int) < 0) = false := by simp
          have hal : a < (zs.take k).length := by rw [htl.out]; exact ha
          have hga : zs[a] = (zs.take k)[a] := by simp
          have Hga := Lib.hid hga
          clear hga
          cases hbt : gtInt zs[k] zs[a] with
          | true =>
            have Hbt := Lib.hid hbt
            clear hbt
            go_wp2_with (first | (go_at_call 33; refine (less_int _ _ _).mono ?_; rintro e w' ⟨rfl, rfl⟩; have hd : decide (zs[a] < zs[k]) = true := Hbt.out) | fail)
            go_round
            case rel => exact ⟨k + 1, by omega, by go_num, .inr ⟨k, by omega, rfl, by
              have := bestAt_turn ord_gtInt hal hb zs[k] (by rw [← Hga.out]; exact Hbt.out)
              rw [ht.out]; rw [htl.out] at this; exact this⟩⟩
            case measure => simp [intOf]; omega
          | false =>
            have Hbt := Lib.hid hbt
            clear hbt
            go_wp2_with (first | (go_at_call 33; refine (less_int _ _ _).mono ?_; rintro e w' ⟨rfl, rfl⟩; have hd : decide (zs[a] < zs[k]) = false := Hbt.out) | fail)
            go_round
            case rel => exact ⟨k + 1, by omega, by go_num, .inr ⟨a, by omega, rfl, by
              rw [ht.out]; exact bestAt_keep hal hb zs[k] (by rw [← Hga.out]; exact Hbt.out)⟩⟩
            case measure => simp [intOf]; omega
      · have hz := Lib.hid (show zs.take k = zs by rw [List.take_of_length_le (by omega)])
        rcases hrel with ⟨hk0, rfl⟩ | ⟨a, ha, rfl, hb⟩
        · have hnil := Lib.hid (show zs = [] from List.eq_nil_of_length_eq_zero (by omega))
          clear hk0
          go_wp2
          go_ret
          exact ⟨-1, rfl, by rw [hnil.out]; exact best_start _, rfl⟩
        · go_wp2
          go_ret
          exact ⟨a, rfl, best_of (by rw [← hz.out]; exact hb), rfl⟩

set_option maxHeartbeats 1000000 in
theorem low_string_any (sv : Value) (zs : List (List UInt8)) (w : World) (h : Row encStr w sv zs) (hl : zs.length ≤ 9223372036854775807) :
    Calls Try.prog 18 #[sv] w (BestPost ltStr zs w) := by
  rcases h with ⟨rfl, rfl⟩ | ⟨ad, cap, rfl, hc⟩
  · go_enter Try.func18, Try.ntmps18
    go_wp2
    refine wp_loop_rounds 1 ?_
    rw [rounds_succ]
    go_wp2
    go_ret
    exact ⟨-1, rfl, best_start _, rfl⟩
  · go_enter Try.func18, Try.ntmps18
    go_wp2
    go_loop [3, 8] (fun t i => ∃ k : Nat, k ≤ zs.length ∧ i = .int .i64 k ∧ ((k = 0 ∧ t = .int .i64 (-1)) ∨ ∃ a : Nat, a < k ∧ t = .int .i64 a ∧ BestAt ltStr (zs.take k) a)) (fun _ i => zs.length - (intOf i).toNat)
    case atStart => exact ⟨0, Nat.zero_le _, rfl, .inl ⟨rfl, rfl⟩⟩
    case round =>
      obtain ⟨k, hk, rfl, hrel⟩ := hrel
      by_cases hlt : k < zs.length
      · have hcell := hc k hlt
        have ht := Lib.hid (take_more zs k hlt)
        have htl := Lib.hid (show (zs.take k).length = k by simp; omega)
        rcases hrel with ⟨hk0, rfl⟩ | ⟨a, ha, rfl, hb⟩
        · obtain rfl := hk0
          have hcell0 : w.cell? ad = some (encStr zs[0]) := by simpa [Addr.add] using hc 0 hlt
          clear hk hcell
          go_wp2
          go_round
          case rel => exact ⟨1, by omega, rfl, .inr ⟨0, by omega, rfl, by rw [ht.out]; exact bestAt_first ord_ltStr _⟩⟩
          case measure => simp [intOf]; omega
        · have hcell2 := hc a (by omega)
          have h0 : decide ((a : Int) < 0) = false := by simp
          have hal : a < (zs.take k).length := by rw [htl.out]; exact ha
          have hga : zs[a] = (zs.take k)[a] := by simp
          have Hga := Lib.hid hga
          clear hga
          cases hbt : ltStr zs[k] zs[a] with
          | true =>
            have Hbt := Lib.hid hbt
            clear hbt
            go_wp2_with (first | (go_at_call 34; refine (less_string _ _ _).mono ?_; rintro e w' ⟨rfl, rfl⟩; have hd : decide (zs[k] < zs[a]) = true := Hbt.out) | fail)
            go_round
            case rel => exact ⟨k + 1, by omega, by go_num, .inr ⟨k, by omega, rfl, by
              have := bestAt_turn ord_ltStr hal hb zs[k] (by rw [← Hga.out]; exact Hbt.out)
              rw [ht.out]; rw [htl.out] at this; exact this⟩⟩
            case measure => simp [intOf]; omega
          | false =>
            have Hbt := Lib.hid hbt
            clear hbt
            go_wp2_with (first | (go_at_call 34; refine (less_string _ _ _).mono ?_; rintro e w' ⟨rfl, rfl⟩; have hd : decide (zs[k] < zs[a]) = false := Hbt.out) | fail)
            go_round
            case rel => exact ⟨k + 1, by omega, by go_num, .inr ⟨a, by omega, rfl, by
              rw [ht.out]; exact bestAt_keep hal hb zs[k] (by rw [← Hga.out]; exact Hbt.out)⟩⟩
            case measure => simp [intOf]; omega
      · have hz := Lib.hid (show zs.take k = zs by rw [List.take_of_length_le (by omega)])
        rcases hrel with ⟨hk0, rfl⟩ | ⟨a, ha, rfl, hb⟩
        · have hnil := Lib.hid (show zs = [] from List.eq_nil_of_length_eq_zero (by omega))
          clear hk0
          go_wp2
          go_ret
          exact ⟨-1, rfl, by rw [hnil.out]; exact best_start _, rfl⟩
        · go_wp2
          go_ret
          exact ⟨a, rfl, best_of (by rw [← hz.out]; exact hb), rfl⟩

set_option maxHeartbeats 1000000 in
theorem high_string_any (sv : Value) (zs : List (List UInt8)) (w : World) (h : Row encStr w sv zs) (hl : zs.length ≤ 9223372036854775807) :
    Calls Try.prog 19 #[sv] w (BestPost gtStr zs w) := by
  rcases h with ⟨rfl, rfl⟩ | ⟨ad, cap, rfl, hc⟩
  · go_enter Try.func19, Try.ntmps19
    go_wp2
    refine wp_loop_rounds 1 ?_
    rw [rounds_succ]
    go_wp2
    go_ret
    exact ⟨-1, rfl, best_start _, rfl⟩
  · go_enter Try.func19, Try.ntmps19
    go_wp2
    go_loop [3, 8] (fun t i => ∃ k : Nat, k ≤ zs.length ∧ i = .int .i64 k ∧ ((k = 0 ∧ t = .int .i64 (-1)) ∨ ∃ a : Nat, a < k ∧ t = .int .i64 a ∧ BestAt gtStr (zs.take k) a)) (fun _ i => zs.length - (intOf i).toNat)
    case atStart => exact ⟨0, Nat.zero_le _, rfl, .inl ⟨rfl, rfl⟩⟩
    case round =>
      obtain ⟨k, hk, rfl, hrel⟩ := hrel
      by_cases hlt : k < zs.length
      · have hcell := hc k hlt
        have ht := Lib.hid (take_more zs k hlt)
        have htl := Lib.hid (show (zs.take k).length = k by simp; omega)
        rcases hrel with ⟨hk0, rfl⟩ | ⟨a, ha, rfl, hb⟩
        · obtain rfl := hk0
          have hcell0 : w.cell? ad = some (encStr zs[0]) := by simpa [Addr.add] using hc 0 hlt
          clear hk hcell
          go_wp2
          go_round
          case rel => exact ⟨1, by omega, rfl, .inr ⟨0, by omega, rfl, by rw [ht.out]; exact bestAt_first ord_gtStr _⟩⟩
          case measure => simp [intOf]; omega
        · have hcell2 := hc a (by omega)
          have h0 : decide ((a : Int) < 0) = false := by simp
          have hal : a < (zs.take k).length := by rw [htl.out]; exact ha
          have hga : zs[a] = (zs.take k)[a] := by simp
          have Hga := Lib.hid hga
          clear hga
          cases hbt : gtStr zs[k] zs[a] with
          | true =>
            have Hbt := Lib.hid hbt
            clear hbt
            go_wp2_with (first | (go_at_call 34; refine (less_string _ _ _).mono ?_; rintro e w' ⟨rfl, rfl⟩; have hd : decide (zs[a] < zs[k]) = true := Hbt.out) | fail)
            go_round
            case rel => exact ⟨k + 1, by omega, by go_num, .inr ⟨k, by omega, rfl, by
              have := bestAt_turn ord_gtStr hal hb zs[k] (by rw [← Hga.out]; exact Hbt.out)
              rw [ht.out]; rw [htl.out] at this; exact this⟩⟩
            case measure => simp [intOf]; omega
          | false =>
            have Hbt := Lib.hid hbt
            clear hbt
            go_wp2_with (first | (go_at_call 34; refine (less_string _ _ _).mono ?_; rintro e w' ⟨rfl, rfl⟩; have hd : decide (zs[a] < zs[k]) = false := Hbt.out) | fail)
            go_round
            case rel => exact ⟨k + 1, by omega, by go_num, .inr ⟨a, by omega, rfl, by
              rw [ht.out]; exact bestAt_keep hal hb zs[k] (by rw [← Hga.out]; exact Hbt.out)⟩⟩
            case measure => simp [intOf]; omega
      · have hz := Lib.hid (show zs.take k = zs by rw [List.take_of_length_le (by omega)])
        rcases hrel with ⟨hk0, rfl⟩ | ⟨a, ha, rfl, hb⟩
        · have hnil := Lib.hid (show zs = [] from List.eq_nil_of_length_eq_zero (by omega))
          clear hk0
          go_wp2
          go_ret
          exact ⟨-1, rfl, by rw [hnil.out]; exact best_start _, rfl⟩
        · go_wp2
          go_ret
          exact ⟨a, rfl, best_of (by rw [← hz.out]; exact hb), rfl⟩
end Go.Proofs.Ytdoaacfonkgokaa
