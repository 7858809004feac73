/- first, Least and Most of package least: the one with the lowest, the highest count; of two the lower key. -/
import Derived.Test.YtdoaacfonkgokaaLow
import Derived.Test.YtdoaacfonkgokaaAll
namespace Go.Proofs.Ytdoaacfonkgokaa
open Go.RowKit Go.Maps

/-- A key is taken ahead of another one by its count, and by itself where the counts are the same. -/
def byCount {α : Type} (ah : Int → Int → Bool) (lt : α → α → Bool) (f : α → Int) (x y : α) : Bool := ah (f x) (f y) || ((f x == f y) && lt x y)
theorem ord_byCount {α : Type} {ah : Int → Int → Bool} {lt : α → α → Bool} (A : ∀ x y, ah x y = true → ah y x = false) (T : ∀ x y z, ah x y = true → ah z y = false → ah x z = true) (O : Ord lt) (TT : ∀ x y, ah x y = false → ah y x = false → x = y) (f : α → Int) : Ord (byCount ah lt f) := by
  have I : ∀ x, ah x x = false := fun x => by
    cases h : ah x x with
    | false => rfl
    | true => rw [A x x h] at h; cases h
  refine ⟨fun x => by simp [byCount, I, O.irr], fun x c i h1 h2 => ?_, fun x i h => ?_⟩
  · simp only [byCount, Bool.or_eq_true, Bool.and_eq_true, beq_iff_eq, Bool.or_eq_false_iff, Bool.and_eq_false_iff] at *
    obtain ⟨h2, h3⟩ := h2
    rcases h1 with h1 | ⟨e1, h1⟩
    · exact .inl (T _ _ _ h1 h2)
    · cases hq : ah (f x) (f i) with
      | true => exact .inl rfl
      | false =>
        have hq2 : ah (f i) (f x) = false := by rw [e1]; exact h2
        have e2 := TT _ _ hq hq2
        refine .inr ⟨e2, O.tr _ _ _ h1 ?_⟩
        rcases h3 with h3 | h3
        · rw [← e2, e1] at h3; simp at h3
        · exact h3
  · simp only [byCount, Bool.or_eq_true, Bool.and_eq_true, beq_iff_eq, Bool.or_eq_false_iff, Bool.and_eq_false_iff] at *
    rcases h with h | ⟨e, h⟩
    · refine ⟨A _ _ h, .inl ?_⟩
      cases hq : (f i == f x) with
      | false => rfl
      | true =>
        have : f i = f x := by simpa using hq
        rw [this, I] at h; cases h
    · exact ⟨by rw [e]; exact I _, .inr (O.asym _ _ h)⟩
theorem ord_least {α : Type} {lt : α → α → Bool} (O : Ord lt) (f : α → Int) : Ord (byCount ltInt lt f) :=
  ord_byCount (fun x y h => by simp [ltInt] at *; omega) (fun x y z h k => by simp [ltInt] at *; omega) O (fun x y h k => by simp [ltInt] at *; omega) f
theorem ord_most {α : Type} {lt : α → α → Bool} (O : Ord lt) (f : α → Int) : Ord (byCount gtInt lt f) :=
  ord_byCount (fun x y h => by simp [gtInt] at *; omega) (fun x y z h k => by simp [gtInt] at *; omega) O (fun x y h k => by simp [gtInt] at *; omega) f
theorem best_step_turn {α : Type} {bt : α → α → Bool} (O : Ord bt) {l : List α} {a j : Nat} (hj : j < l.length) (ha : a < l.length) (haj : a < j) (h : BestAt bt (l.take j) a) (hx : bt l[j] l[a] = true) : BestAt bt (l.take (j + 1)) j := by
  have htl : (l.take j).length = j := by simp; omega
  have := bestAt_turn O (by rw [htl]; exact haj) h l[j] (by simpa using hx)
  rw [htl, ← take_more l j hj] at this
  exact this
theorem best_step_keep {α : Type} {bt : α → α → Bool} {l : List α} {a j : Nat} (hj : j < l.length) (ha : a < l.length) (haj : a < j) (h : BestAt bt (l.take j) a) (hx : bt l[j] l[a] = false) : BestAt bt (l.take (j + 1)) a := by
  have htl : (l.take j).length = j := by simp; omega
  have := bestAt_keep (by rw [htl]; exact haj) h l[j] (by simpa using hx)
  rw [← take_more l j hj] at this
  exact this
theorem drewN_below {B : Nat} {w w' : World} (h : Below B w w') (n : Nat) : Below B w (w'.drewN n) := ⟨h.os, h.tape, h.output, h.size, h.block⟩
theorem cells2 {w : World} {a b : Value} {t : TypeId} : (w.alloc (.cells #[a, b] t)).cell? ⟨w.heap.size, 0, none⟩ = some a ∧ (w.alloc (.cells #[a, b] t)).cell? ⟨w.heap.size, 1, none⟩ = some b := by
  simp

theorem ahead_least_int (x y : Int) (w : World) : Calls Try.prog 30 #[.int .i64 x, .int .i64 y] w fun e w' => e = .returned (.bool (ltInt x y)) ∧ w = w' := by
  go_enter Try.func30, Try.ntmps30
  go_wp2
  go_ret
  exact ⟨rfl, rfl⟩

/-- What first leaves: of no rows nothing; else the best one. -/
def FirstIs_least_int (f : Int → Int) (l : List (Int)) (v0 v1 v2 : Value) : Prop :=
  (l = [] ∧ v0 = .int .i64 0 ∧ v1 = .int .i64 0 ∧ v2 = .bool false) ∨
    ∃ a, ∃ h : a < l.length, BestAt (byCount ltInt ltInt f) l a ∧ v0 = .int .i64 l[a] ∧ v1 = .int .i64 (f l[a]) ∧ v2 = .bool true
def FirstPost_least_int (f : Int → Int) (l : List (Int)) (w : World) (e : Ending) (w' : World) : Prop :=
  ∃ v0 v1 v2, e = .returned (.tuple #[v0, v1, v2]) ∧ Below w.heap.size w w' ∧ FirstIs_least_int f l v0 v1 v2
/-- What Least, Most tell. -/
def PickIs_least_int (f : Int → Int) (v0 v1 v2 : Value) : Prop :=
  ((∀ k, f k = 0) ∧ v0 = .int .i64 0 ∧ v1 = .int .i64 0 ∧ v2 = .bool false) ∨
    ∃ x, f x ≠ 0 ∧ (∀ y, f y ≠ 0 → byCount ltInt ltInt f y x = false) ∧ v0 = .int .i64 x ∧ v1 = .int .i64 (f x) ∧ v2 = .bool true
def PickPost_least_int (f : Int → Int) (w : World) (e : Ending) (w' : World) : Prop :=
  ∃ v0 v1 v2, e = .returned (.tuple #[v0, v1, v2]) ∧ Below w.heap.size w w' ∧ PickIs_least_int f v0 v1 v2
theorem pick_of_least_int {f : Int → Int} {l : List (Int)} {v0 v1 v2 : Value} (h : FirstIs_least_int f l v0 v1 v2) (hm : ∀ k, k ∈ l ↔ f k ≠ 0) : PickIs_least_int f v0 v1 v2 := by
  rcases h with ⟨rfl, h0, h1, h2⟩ | ⟨a, ha, ⟨_, hb, _⟩, h0, h1, h2⟩
  · exact .inl ⟨fun k => by
      by_cases e : f k = 0
      · exact e
      · exact absurd ((hm k).2 e) (by simp), h0, h1, h2⟩
  · refine .inr ⟨l[a], (hm _).1 (List.getElem_mem ha), fun y hy => ?_, h0, h1, h2⟩
    obtain ⟨i, hi, rfl⟩ := List.getElem_of_mem ((hm y).2 hy)
    exact hb i hi

set_option maxRecDepth 100000 in
set_option maxHeartbeats 1000000 in
theorem first_least_int (f : Int → Int) (l : List (Int)) (sv : Value) (base : Nat) (w : World) (hrow : w.ownsRow base 53 2 sv l.length (flat (Value.int .i64) f l)) (hl : l.length ≤ 1000000) :
    Calls Try.prog 28 #[sv, .func (.func 30) #[] #[]] w (FirstPost_least_int f l w) := by
  rcases hrow.2 with ⟨rfl, h0⟩ | ⟨g, cap, cur, rfl, hbase, hb, h1, h2, h3, h4⟩
  · obtain rfl := List.eq_nil_of_length_eq_zero h0
    go_enter Try.func28, Try.ntmps28
    go_wp2
    refine wp_loop_rounds 1 ?_
    rw [rounds_succ]
    go_wp2
    go_ret3
    exact ⟨_, _, _, rfl, Below.refl _ _, .inl ⟨rfl, rfl, rfl, rfl⟩⟩
  · have hg : g < w.heap.size := lt_size hb
    have hc : ∀ j u, (flat (Value.int .i64) f l)[j]? = some u → w.cell? ⟨g, j, none⟩ = some u := fun j u hu => by
      have := hrow.cells (g := g) rfl j u hu
      by_cases hj : j = 0
      · subst hj; simpa [Addr.add] using this
      · simpa [Addr.add, hj] using this
    have Hc := Lib.hid hc
    clear hc h4 hb hrow
    go_enter Try.func28, Try.ntmps28
    go_wp2
    go_loopw [4, 5, 6, 11] (fun s4 s5 s6 i wr => ∃ j : Nat, j ≤ l.length ∧ i = .int .i64 j ∧ Below w.heap.size w wr ∧ ((j = 0 ∧ s4 = .int .i64 0 ∧ s5 = .int .i64 0 ∧ s6 = .bool false) ∨
        ∃ a, ∃ h : a < l.length, a < j ∧ BestAt (byCount ltInt ltInt f) (l.take j) a ∧ s4 = .int .i64 l[a] ∧ s5 = .int .i64 (f l[a]) ∧ s6 = .bool true)) (fun _ _ _ i _ => l.length - (intOf i).toNat)
    case atStart => exact ⟨0, Nat.zero_le _, rfl, Below.refl _ _, .inl ⟨rfl, rfl, rfl, rfl⟩⟩
    case round =>
      obtain ⟨j, hj, rfl, hnx, hrel⟩ := hrel
      by_cases hlt : j < l.length
      · have hk0 := (hnx.cell (p := ⟨g, j * 2, none⟩) hg).trans (Hc.out _ _ (flat_at (Value.int .i64) f l j hlt).1)
        have hk1 := (hnx.cell (p := ⟨g, j * 2 + 1, none⟩) hg).trans (Hc.out _ _ (flat_at (Value.int .i64) f l j hlt).2)
        rcases hrel with ⟨rfl, rfl, rfl, rfl⟩ | ⟨a, ha, haj, hbest, rfl, rfl, rfl⟩
        · have hlt0 : l.take 1 = [l[0]] := by rw [take_more l 0 hlt]; simp
          have Ht := Lib.hid hlt0
          have hk0' : wr.cell? ⟨g, 0, none⟩ = some (.int .i64 l[0]) := by simpa using hk0
          have hk1' : wr.cell? ⟨g, 1, none⟩ = some (.int .i64 (f l[0])) := by simpa using hk1
          clear hlt0 hk0 hk1 hj
          go_wp2
          go_quiet (fail)
          go_wp2
          go_roundw
          case rel => exact ⟨1, by omega, rfl, drewN_below (hnx.alloc hnx.size _) _, .inr ⟨0, hlt, by omega, by rw [Ht.out]; exact bestAt_first (ord_least ord_ltInt f) _, rfl, rfl, rfl⟩⟩
          case measure => simp [intOf]; omega
        · have Ht := Lib.hid (take_more l j hlt)
          have hby := Lib.hid (show byCount ltInt ltInt f l[j] l[a] = (ltInt (f l[j]) (f l[a]) || ((f l[j] == f l[a]) && decide (l[j] < l[a]))) from rfl)
          cases hA : ltInt (f l[j]) (f l[a]) with
          | true =>
            have Hb := Lib.hid (show byCount ltInt ltInt f l[j] l[a] = true by rw [hby.out, hA]; rfl)
            go_wp2_with (go_at_call 30; refine (ahead_least_int _ _ _).mono ?_; rintro e w' ⟨rfl, rfl⟩)
            go_quiet (fail)
            go_wp2
            go_roundw
            case rel => exact ⟨j + 1, by omega, by go_num, drewN_below (hnx.alloc hnx.size _) _, .inr ⟨j, hlt, by omega, best_step_turn (ord_least ord_ltInt f) hlt ha haj hbest Hb.out, rfl, rfl, rfl⟩⟩
            case measure => simp [intOf]; omega
          | false =>
            cases hE : (f l[j] == f l[a]) with
            | true =>
              cases hL : decide (l[j] < l[a]) with
              | true =>
                have Hb := Lib.hid (show byCount ltInt ltInt f l[j] l[a] = true by rw [hby.out, hA, hE, hL]; rfl)
                go_wp2_with (first
                  | (go_at_call 30; refine (ahead_least_int _ _ _).mono ?_; rintro e w' ⟨rfl, rfl⟩)
                  | (go_at_call 33; refine (less_int _ _ _).mono ?_; rintro e w' ⟨rfl, rfl⟩))
                go_quiet (fail)
                go_wp2
                go_roundw
                case rel => exact ⟨j + 1, by omega, by go_num, drewN_below (hnx.alloc hnx.size _) _, .inr ⟨j, hlt, by omega, best_step_turn (ord_least ord_ltInt f) hlt ha haj hbest Hb.out, rfl, rfl, rfl⟩⟩
                case measure => simp [intOf]; omega
              | false =>
                have Hb := Lib.hid (show byCount ltInt ltInt f l[j] l[a] = false by rw [hby.out, hA, hE, hL]; rfl)
                go_wp2_with (first
                  | (go_at_call 30; refine (ahead_least_int _ _ _).mono ?_; rintro e w' ⟨rfl, rfl⟩)
                  | (go_at_call 33; refine (less_int _ _ _).mono ?_; rintro e w' ⟨rfl, rfl⟩))
                go_roundw
                case rel => exact ⟨j + 1, by omega, by go_num, hnx.alloc hnx.size _, .inr ⟨a, ha, by omega, best_step_keep hlt ha haj hbest Hb.out, rfl, rfl, rfl⟩⟩
                case measure => simp [intOf]; omega
            | false =>
              have Hb := Lib.hid (show byCount ltInt ltInt f l[j] l[a] = false by rw [hby.out, hA, hE]; rfl)
              go_wp2_with (go_at_call 30; refine (ahead_least_int _ _ _).mono ?_; rintro e w' ⟨rfl, rfl⟩)
              go_roundw
              case rel => exact ⟨j + 1, by omega, by go_num, hnx.alloc hnx.size _, .inr ⟨a, ha, by omega, best_step_keep hlt ha haj hbest Hb.out, rfl, rfl, rfl⟩⟩
              case measure => simp [intOf]; omega
      · have hz := Lib.hid (show l.take j = l by rw [List.take_of_length_le (by omega)])
        rcases hrel with ⟨rfl, rfl, rfl, rfl⟩ | ⟨a, ha, haj, hbest, rfl, rfl, rfl⟩
        · have hnil := Lib.hid (show l = [] from List.eq_nil_of_length_eq_zero (by omega))
          go_wp2
          go_ret3
          exact ⟨_, _, _, rfl, hnx, .inl ⟨hnil.out, rfl, rfl, rfl⟩⟩
        · go_wp2
          go_ret3
          exact ⟨_, _, _, rfl, hnx, .inr ⟨a, ha, by have := hbest; rwa [hz.out] at this, rfl, rfl, rfl⟩⟩

theorem least_nil_int (w : World) : Calls Try.prog 13 #[.pointer none] w (PickPost_least_int (fun _ => 0) w) := by
  go_enter Try.func13, Try.ntmps13
  go_wp2_with (first
    | (go_at_call 29; refine (rows_nil_int _).mono ?_; rintro e w1 ⟨sv, l, rfl, _, hmem, hlen, hrow, hb1⟩; have Hm := Lib.hid hmem; clear hmem)
    | (go_at_call 28; refine (first_least_int _ l sv _ _ hrow (by omega)).mono ?_; rintro e w2 ⟨v0, v1, v2, rfl, hb2, his⟩; have His := Lib.hid his; clear his))
  go_ret3
  exact ⟨v0, v1, v2, rfl, hb1.trans (hb2.mono hb1.size), pick_of_least_int His.out Hm.out⟩
theorem least_int (p : Nat) (ob : Option Nat) (n : Nat) (f : Int → Int) (w : World) (h : Tally_int w p ob n f) (hn : n ≤ 1000000) :
    Calls Try.prog 13 #[.pointer (some ⟨p, 0, none⟩)] w (PickPost_least_int f w) := by
  go_enter Try.func13, Try.ntmps13
  go_wp2_with (first
    | (go_at_call 29; refine (rows_int p ob n f _ h hn).mono ?_; rintro e w1 ⟨sv, l, rfl, _, hmem, hlen, hrow, hb1⟩; have Hm := Lib.hid hmem; clear hmem)
    | (go_at_call 28; refine (first_least_int f l sv _ _ hrow (by omega)).mono ?_; rintro e w2 ⟨v0, v1, v2, rfl, hb2, his⟩; have His := Lib.hid his; clear his))
  go_ret3
  exact ⟨v0, v1, v2, rfl, hb1.trans (hb2.mono hb1.size), pick_of_least_int His.out Hm.out⟩

theorem ahead_most_int (x y : Int) (w : World) : Calls Try.prog 31 #[.int .i64 x, .int .i64 y] w fun e w' => e = .returned (.bool (gtInt x y)) ∧ w = w' := by
  go_enter Try.func31, Try.ntmps31
  go_wp2
  go_ret
  exact ⟨rfl, rfl⟩

/-- What first leaves: of no rows nothing; else the best one. -/
def FirstIs_most_int (f : Int → Int) (l : List (Int)) (v0 v1 v2 : Value) : Prop :=
  (l = [] ∧ v0 = .int .i64 0 ∧ v1 = .int .i64 0 ∧ v2 = .bool false) ∨
    ∃ a, ∃ h : a < l.length, BestAt (byCount gtInt ltInt f) l a ∧ v0 = .int .i64 l[a] ∧ v1 = .int .i64 (f l[a]) ∧ v2 = .bool true
def FirstPost_most_int (f : Int → Int) (l : List (Int)) (w : World) (e : Ending) (w' : World) : Prop :=
  ∃ v0 v1 v2, e = .returned (.tuple #[v0, v1, v2]) ∧ Below w.heap.size w w' ∧ FirstIs_most_int f l v0 v1 v2
/-- What Least, Most tell. -/
def PickIs_most_int (f : Int → Int) (v0 v1 v2 : Value) : Prop :=
  ((∀ k, f k = 0) ∧ v0 = .int .i64 0 ∧ v1 = .int .i64 0 ∧ v2 = .bool false) ∨
    ∃ x, f x ≠ 0 ∧ (∀ y, f y ≠ 0 → byCount gtInt ltInt f y x = false) ∧ v0 = .int .i64 x ∧ v1 = .int .i64 (f x) ∧ v2 = .bool true
def PickPost_most_int (f : Int → Int) (w : World) (e : Ending) (w' : World) : Prop :=
  ∃ v0 v1 v2, e = .returned (.tuple #[v0, v1, v2]) ∧ Below w.heap.size w w' ∧ PickIs_most_int f v0 v1 v2
theorem pick_of_most_int {f : Int → Int} {l : List (Int)} {v0 v1 v2 : Value} (h : FirstIs_most_int f l v0 v1 v2) (hm : ∀ k, k ∈ l ↔ f k ≠ 0) : PickIs_most_int f v0 v1 v2 := by
  rcases h with ⟨rfl, h0, h1, h2⟩ | ⟨a, ha, ⟨_, hb, _⟩, h0, h1, h2⟩
  · exact .inl ⟨fun k => by
      by_cases e : f k = 0
      · exact e
      · exact absurd ((hm k).2 e) (by simp), h0, h1, h2⟩
  · refine .inr ⟨l[a], (hm _).1 (List.getElem_mem ha), fun y hy => ?_, h0, h1, h2⟩
    obtain ⟨i, hi, rfl⟩ := List.getElem_of_mem ((hm y).2 hy)
    exact hb i hi

set_option maxRecDepth 100000 in
set_option maxHeartbeats 1000000 in
theorem first_most_int (f : Int → Int) (l : List (Int)) (sv : Value) (base : Nat) (w : World) (hrow : w.ownsRow base 53 2 sv l.length (flat (Value.int .i64) f l)) (hl : l.length ≤ 1000000) :
    Calls Try.prog 28 #[sv, .func (.func 31) #[] #[]] w (FirstPost_most_int f l w) := by
  rcases hrow.2 with ⟨rfl, h0⟩ | ⟨g, cap, cur, rfl, hbase, hb, h1, h2, h3, h4⟩
  · obtain rfl := List.eq_nil_of_length_eq_zero h0
    go_enter Try.func28, Try.ntmps28
    go_wp2
    refine wp_loop_rounds 1 ?_
    rw [rounds_succ]
    go_wp2
    go_ret3
    exact ⟨_, _, _, rfl, Below.refl _ _, .inl ⟨rfl, rfl, rfl, rfl⟩⟩
  · have hg : g < w.heap.size := lt_size hb
    have hc : ∀ j u, (flat (Value.int .i64) f l)[j]? = some u → w.cell? ⟨g, j, none⟩ = some u := fun j u hu => by
      have := hrow.cells (g := g) rfl j u hu
      by_cases hj : j = 0
      · subst hj; simpa [Addr.add] using this
      · simpa [Addr.add, hj] using this
    have Hc := Lib.hid hc
    clear hc h4 hb hrow
    go_enter Try.func28, Try.ntmps28
    go_wp2
    go_loopw [4, 5, 6, 11] (fun s4 s5 s6 i wr => ∃ j : Nat, j ≤ l.length ∧ i = .int .i64 j ∧ Below w.heap.size w wr ∧ ((j = 0 ∧ s4 = .int .i64 0 ∧ s5 = .int .i64 0 ∧ s6 = .bool false) ∨
        ∃ a, ∃ h : a < l.length, a < j ∧ BestAt (byCount gtInt ltInt f) (l.take j) a ∧ s4 = .int .i64 l[a] ∧ s5 = .int .i64 (f l[a]) ∧ s6 = .bool true)) (fun _ _ _ i _ => l.length - (intOf i).toNat)
    case atStart => exact ⟨0, Nat.zero_le _, rfl, Below.refl _ _, .inl ⟨rfl, rfl, rfl, rfl⟩⟩
    case round =>
      obtain ⟨j, hj, rfl, hnx, hrel⟩ := hrel
      by_cases hlt : j < l.length
      · have hk0 := (hnx.cell (p := ⟨g, j * 2, none⟩) hg).trans (Hc.out _ _ (flat_at (Value.int .i64) f l j hlt).1)
        have hk1 := (hnx.cell (p := ⟨g, j * 2 + 1, none⟩) hg).trans (Hc.out _ _ (flat_at (Value.int .i64) f l j hlt).2)
        rcases hrel with ⟨rfl, rfl, rfl, rfl⟩ | ⟨a, ha, haj, hbest, rfl, rfl, rfl⟩
        · have hlt0 : l.take 1 = [l[0]] := by rw [take_more l 0 hlt]; simp
          have Ht := Lib.hid hlt0
          have hk0' : wr.cell? ⟨g, 0, none⟩ = some (.int .i64 l[0]) := by simpa using hk0
          have hk1' : wr.cell? ⟨g, 1, none⟩ = some (.int .i64 (f l[0])) := by simpa using hk1
          clear hlt0 hk0 hk1 hj
          go_wp2
          go_quiet (fail)
          go_wp2
          go_roundw
          case rel => exact ⟨1, by omega, rfl, drewN_below (hnx.alloc hnx.size _) _, .inr ⟨0, hlt, by omega, by rw [Ht.out]; exact bestAt_first (ord_most ord_ltInt f) _, rfl, rfl, rfl⟩⟩
          case measure => simp [intOf]; omega
        · have Ht := Lib.hid (take_more l j hlt)
          have hby := Lib.hid (show byCount gtInt ltInt f l[j] l[a] = (gtInt (f l[j]) (f l[a]) || ((f l[j] == f l[a]) && decide (l[j] < l[a]))) from rfl)
          cases hA : gtInt (f l[j]) (f l[a]) with
          | true =>
            have Hb := Lib.hid (show byCount gtInt ltInt f l[j] l[a] = true by rw [hby.out, hA]; rfl)
            go_wp2_with (go_at_call 31; refine (ahead_most_int _ _ _).mono ?_; rintro e w' ⟨rfl, rfl⟩)
            go_quiet (fail)
            go_wp2
            go_roundw
            case rel => exact ⟨j + 1, by omega, by go_num, drewN_below (hnx.alloc hnx.size _) _, .inr ⟨j, hlt, by omega, best_step_turn (ord_most ord_ltInt f) hlt ha haj hbest Hb.out, rfl, rfl, rfl⟩⟩
            case measure => simp [intOf]; omega
          | false =>
            cases hE : (f l[j] == f l[a]) with
            | true =>
              cases hL : decide (l[j] < l[a]) with
              | true =>
                have Hb := Lib.hid (show byCount gtInt ltInt f l[j] l[a] = true by rw [hby.out, hA, hE, hL]; rfl)
                go_wp2_with (first
                  | (go_at_call 31; refine (ahead_most_int _ _ _).mono ?_; rintro e w' ⟨rfl, rfl⟩)
                  | (go_at_call 33; refine (less_int _ _ _).mono ?_; rintro e w' ⟨rfl, rfl⟩))
                go_quiet (fail)
                go_wp2
                go_roundw
                case rel => exact ⟨j + 1, by omega, by go_num, drewN_below (hnx.alloc hnx.size _) _, .inr ⟨j, hlt, by omega, best_step_turn (ord_most ord_ltInt f) hlt ha haj hbest Hb.out, rfl, rfl, rfl⟩⟩
                case measure => simp [intOf]; omega
              | false =>
                have Hb := Lib.hid (show byCount gtInt ltInt f l[j] l[a] = false by rw [hby.out, hA, hE, hL]; rfl)
                go_wp2_with (first
                  | (go_at_call 31; refine (ahead_most_int _ _ _).mono ?_; rintro e w' ⟨rfl, rfl⟩)
                  | (go_at_call 33; refine (less_int _ _ _).mono ?_; rintro e w' ⟨rfl, rfl⟩))
                go_roundw
                case rel => exact ⟨j + 1, by omega, by go_num, hnx.alloc hnx.size _, .inr ⟨a, ha, by omega, best_step_keep hlt ha haj hbest Hb.out, rfl, rfl, rfl⟩⟩
                case measure => simp [intOf]; omega
            | false =>
              have Hb := Lib.hid (show byCount gtInt ltInt f l[j] l[a] = false by rw [hby.out, hA, hE]; rfl)
              go_wp2_with (go_at_call 31; refine (ahead_most_int _ _ _).mono ?_; rintro e w' ⟨rfl, rfl⟩)
              go_roundw
              case rel => exact ⟨j + 1, by omega, by go_num, hnx.alloc hnx.size _, .inr ⟨a, ha, by omega, best_step_keep hlt ha haj hbest Hb.out, rfl, rfl, rfl⟩⟩
              case measure => simp [intOf]; omega
      · have hz := Lib.hid (show l.take j = l by rw [List.take_of_length_le (by omega)])
        rcases hrel with ⟨rfl, rfl, rfl, rfl⟩ | ⟨a, ha, haj, hbest, rfl, rfl, rfl⟩
        · have hnil := Lib.hid (show l = [] from List.eq_nil_of_length_eq_zero (by omega))
          go_wp2
          go_ret3
          exact ⟨_, _, _, rfl, hnx, .inl ⟨hnil.out, rfl, rfl, rfl⟩⟩
        · go_wp2
          go_ret3
          exact ⟨_, _, _, rfl, hnx, .inr ⟨a, ha, by have := hbest; rwa [hz.out] at this, rfl, rfl, rfl⟩⟩

theorem most_nil_int (w : World) : Calls Try.prog 14 #[.pointer none] w (PickPost_most_int (fun _ => 0) w) := by
  go_enter Try.func14, Try.ntmps14
  go_wp2_with (first
    | (go_at_call 29; refine (rows_nil_int _).mono ?_; rintro e w1 ⟨sv, l, rfl, _, hmem, hlen, hrow, hb1⟩; have Hm := Lib.hid hmem; clear hmem)
    | (go_at_call 28; refine (first_most_int _ l sv _ _ hrow (by omega)).mono ?_; rintro e w2 ⟨v0, v1, v2, rfl, hb2, his⟩; have His := Lib.hid his; clear his))
  go_ret3
  exact ⟨v0, v1, v2, rfl, hb1.trans (hb2.mono hb1.size), pick_of_most_int His.out Hm.out⟩
theorem most_int (p : Nat) (ob : Option Nat) (n : Nat) (f : Int → Int) (w : World) (h : Tally_int w p ob n f) (hn : n ≤ 1000000) :
    Calls Try.prog 14 #[.pointer (some ⟨p, 0, none⟩)] w (PickPost_most_int f w) := by
  go_enter Try.func14, Try.ntmps14
  go_wp2_with (first
    | (go_at_call 29; refine (rows_int p ob n f _ h hn).mono ?_; rintro e w1 ⟨sv, l, rfl, _, hmem, hlen, hrow, hb1⟩; have Hm := Lib.hid hmem; clear hmem)
    | (go_at_call 28; refine (first_most_int f l sv _ _ hrow (by omega)).mono ?_; rintro e w2 ⟨v0, v1, v2, rfl, hb2, his⟩; have His := Lib.hid his; clear his))
  go_ret3
  exact ⟨v0, v1, v2, rfl, hb1.trans (hb2.mono hb1.size), pick_of_most_int His.out Hm.out⟩

theorem ahead_least_string (x y : Int) (w : World) : Calls Try.prog 40 #[.int .i64 x, .int .i64 y] w fun e w' => e = .returned (.bool (ltInt x y)) ∧ w = w' := by
  go_enter Try.func40, Try.ntmps40
  go_wp2
  go_ret
  exact ⟨rfl, rfl⟩

/-- What first leaves: of no rows nothing; else the best one. -/
def FirstIs_least_string (f : List UInt8 → Int) (l : List (List UInt8)) (v0 v1 v2 : Value) : Prop :=
  (l = [] ∧ v0 = .string ⟨#[]⟩ ∧ v1 = .int .i64 0 ∧ v2 = .bool false) ∨
    ∃ a, ∃ h : a < l.length, BestAt (byCount ltInt ltStr f) l a ∧ v0 = encStr l[a] ∧ v1 = .int .i64 (f l[a]) ∧ v2 = .bool true
def FirstPost_least_string (f : List UInt8 → Int) (l : List (List UInt8)) (w : World) (e : Ending) (w' : World) : Prop :=
  ∃ v0 v1 v2, e = .returned (.tuple #[v0, v1, v2]) ∧ Below w.heap.size w w' ∧ FirstIs_least_string f l v0 v1 v2
/-- What Least, Most tell. -/
def PickIs_least_string (f : List UInt8 → Int) (v0 v1 v2 : Value) : Prop :=
  ((∀ k, f k = 0) ∧ v0 = .string ⟨#[]⟩ ∧ v1 = .int .i64 0 ∧ v2 = .bool false) ∨
    ∃ x, f x ≠ 0 ∧ (∀ y, f y ≠ 0 → byCount ltInt ltStr f y x = false) ∧ v0 = encStr x ∧ v1 = .int .i64 (f x) ∧ v2 = .bool true
def PickPost_least_string (f : List UInt8 → Int) (w : World) (e : Ending) (w' : World) : Prop :=
  ∃ v0 v1 v2, e = .returned (.tuple #[v0, v1, v2]) ∧ Below w.heap.size w w' ∧ PickIs_least_string f v0 v1 v2
theorem pick_of_least_string {f : List UInt8 → Int} {l : List (List UInt8)} {v0 v1 v2 : Value} (h : FirstIs_least_string f l v0 v1 v2) (hm : ∀ k, k ∈ l ↔ f k ≠ 0) : PickIs_least_string f v0 v1 v2 := by
  rcases h with ⟨rfl, h0, h1, h2⟩ | ⟨a, ha, ⟨_, hb, _⟩, h0, h1, h2⟩
  · exact .inl ⟨fun k => by
      by_cases e : f k = 0
      · exact e
      · exact absurd ((hm k).2 e) (by simp), h0, h1, h2⟩
  · refine .inr ⟨l[a], (hm _).1 (List.getElem_mem ha), fun y hy => ?_, h0, h1, h2⟩
    obtain ⟨i, hi, rfl⟩ := List.getElem_of_mem ((hm y).2 hy)
    exact hb i hi

set_option maxRecDepth 100000 in
set_option maxHeartbeats 1000000 in
theorem first_least_string (f : List UInt8 → Int) (l : List (List UInt8)) (sv : Value) (base : Nat) (w : World) (hrow : w.ownsRow base 65 2 sv l.length (flat encStr f l)) (hl : l.length ≤ 1000000) :
    Calls Try.prog 39 #[sv, .func (.func 40) #[] #[]] w (FirstPost_least_string f l w) := by
  rcases hrow.2 with ⟨rfl, h0⟩ | ⟨g, cap, cur, rfl, hbase, hb, h1, h2, h3, h4⟩
  · obtain rfl := List.eq_nil_of_length_eq_zero h0
    go_enter Try.func39, Try.ntmps39
    go_wp2
    refine wp_loop_rounds 1 ?_
    rw [rounds_succ]
    go_wp2
    go_ret3
    exact ⟨_, _, _, rfl, Below.refl _ _, .inl ⟨rfl, rfl, rfl, rfl⟩⟩
  · have hg : g < w.heap.size := lt_size hb
    have hc : ∀ j u, (flat encStr f l)[j]? = some u → w.cell? ⟨g, j, none⟩ = some u := fun j u hu => by
      have := hrow.cells (g := g) rfl j u hu
      by_cases hj : j = 0
      · subst hj; simpa [Addr.add] using this
      · simpa [Addr.add, hj] using this
    have Hc := Lib.hid hc
    clear hc h4 hb hrow
    go_enter Try.func39, Try.ntmps39
    go_wp2
    go_loopw [4, 5, 6, 11] (fun s4 s5 s6 i wr => ∃ j : Nat, j ≤ l.length ∧ i = .int .i64 j ∧ Below w.heap.size w wr ∧ ((j = 0 ∧ s4 = .string ⟨#[]⟩ ∧ s5 = .int .i64 0 ∧ s6 = .bool false) ∨
        ∃ a, ∃ h : a < l.length, a < j ∧ BestAt (byCount ltInt ltStr f) (l.take j) a ∧ s4 = encStr l[a] ∧ s5 = .int .i64 (f l[a]) ∧ s6 = .bool true)) (fun _ _ _ i _ => l.length - (intOf i).toNat)
    case atStart => exact ⟨0, Nat.zero_le _, rfl, Below.refl _ _, .inl ⟨rfl, rfl, rfl, rfl⟩⟩
    case round =>
      obtain ⟨j, hj, rfl, hnx, hrel⟩ := hrel
      by_cases hlt : j < l.length
      · have hk0 := (hnx.cell (p := ⟨g, j * 2, none⟩) hg).trans (Hc.out _ _ (flat_at encStr f l j hlt).1)
        have hk1 := (hnx.cell (p := ⟨g, j * 2 + 1, none⟩) hg).trans (Hc.out _ _ (flat_at encStr f l j hlt).2)
        rcases hrel with ⟨rfl, rfl, rfl, rfl⟩ | ⟨a, ha, haj, hbest, rfl, rfl, rfl⟩
        · have hlt0 : l.take 1 = [l[0]] := by rw [take_more l 0 hlt]; simp
          have Ht := Lib.hid hlt0
          have hk0' : wr.cell? ⟨g, 0, none⟩ = some (encStr l[0]) := by simpa using hk0
          have hk1' : wr.cell? ⟨g, 1, none⟩ = some (.int .i64 (f l[0])) := by simpa using hk1
          clear hlt0 hk0 hk1 hj
          go_wp2
          go_quiet (fail)
          go_wp2
          go_roundw
          case rel => exact ⟨1, by omega, rfl, drewN_below (hnx.alloc hnx.size _) _, .inr ⟨0, hlt, by omega, by rw [Ht.out]; exact bestAt_first (ord_least ord_ltStr f) _, rfl, rfl, rfl⟩⟩
          case measure => simp [intOf]; omega
        · have Ht := Lib.hid (take_more l j hlt)
          have hby := Lib.hid (show byCount ltInt ltStr f l[j] l[a] = (ltInt (f l[j]) (f l[a]) || ((f l[j] == f l[a]) && decide (l[j] < l[a]))) from rfl)
          cases hA : ltInt (f l[j]) (f l[a]) with
          | true =>
            have Hb := Lib.hid (show byCount ltInt ltStr f l[j] l[a] = true by rw [hby.out, hA]; rfl)
            go_wp2_with (go_at_call 40; refine (ahead_least_string _ _ _).mono ?_; rintro e w' ⟨rfl, rfl⟩)
            go_quiet (fail)
            go_wp2
            go_roundw
            case rel => exact ⟨j + 1, by omega, by go_num, drewN_below (hnx.alloc hnx.size _) _, .inr ⟨j, hlt, by omega, best_step_turn (ord_least ord_ltStr f) hlt ha haj hbest Hb.out, rfl, rfl, rfl⟩⟩
            case measure => simp [intOf]; omega
          | false =>
            cases hE : (f l[j] == f l[a]) with
            | true =>
              cases hL : decide (l[j] < l[a]) with
              | true =>
                have Hb := Lib.hid (show byCount ltInt ltStr f l[j] l[a] = true by rw [hby.out, hA, hE, hL]; rfl)
                go_wp2_with (first
                  | (go_at_call 40; refine (ahead_least_string _ _ _).mono ?_; rintro e w' ⟨rfl, rfl⟩)
                  | (go_at_call 34; refine (less_string _ _ _).mono ?_; rintro e w' ⟨rfl, rfl⟩))
                go_quiet (fail)
                go_wp2
                go_roundw
                case rel => exact ⟨j + 1, by omega, by go_num, drewN_below (hnx.alloc hnx.size _) _, .inr ⟨j, hlt, by omega, best_step_turn (ord_least ord_ltStr f) hlt ha haj hbest Hb.out, rfl, rfl, rfl⟩⟩
                case measure => simp [intOf]; omega
              | false =>
                have Hb := Lib.hid (show byCount ltInt ltStr f l[j] l[a] = false by rw [hby.out, hA, hE, hL]; rfl)
                go_wp2_with (first
                  | (go_at_call 40; refine (ahead_least_string _ _ _).mono ?_; rintro e w' ⟨rfl, rfl⟩)
                  | (go_at_call 34; refine (less_string _ _ _).mono ?_; rintro e w' ⟨rfl, rfl⟩))
                go_roundw
                case rel => exact ⟨j + 1, by omega, by go_num, hnx.alloc hnx.size _, .inr ⟨a, ha, by omega, best_step_keep hlt ha haj hbest Hb.out, rfl, rfl, rfl⟩⟩
                case measure => simp [intOf]; omega
            | false =>
              have Hb := Lib.hid (show byCount ltInt ltStr f l[j] l[a] = false by rw [hby.out, hA, hE]; rfl)
              go_wp2_with (go_at_call 40; refine (ahead_least_string _ _ _).mono ?_; rintro e w' ⟨rfl, rfl⟩)
              go_roundw
              case rel => exact ⟨j + 1, by omega, by go_num, hnx.alloc hnx.size _, .inr ⟨a, ha, by omega, best_step_keep hlt ha haj hbest Hb.out, rfl, rfl, rfl⟩⟩
              case measure => simp [intOf]; omega
      · have hz := Lib.hid (show l.take j = l by rw [List.take_of_length_le (by omega)])
        rcases hrel with ⟨rfl, rfl, rfl, rfl⟩ | ⟨a, ha, haj, hbest, rfl, rfl, rfl⟩
        · have hnil := Lib.hid (show l = [] from List.eq_nil_of_length_eq_zero (by omega))
          go_wp2
          go_ret3
          exact ⟨_, _, _, rfl, hnx, .inl ⟨hnil.out, rfl, rfl, rfl⟩⟩
        · go_wp2
          go_ret3
          exact ⟨_, _, _, rfl, hnx, .inr ⟨a, ha, by have := hbest; rwa [hz.out] at this, rfl, rfl, rfl⟩⟩

theorem least_nil_string (w : World) : Calls Try.prog 24 #[.pointer none] w (PickPost_least_string (fun _ => 0) w) := by
  go_enter Try.func24, Try.ntmps24
  go_wp2_with (first
    | (go_at_call 37; refine (rows_nil_string _).mono ?_; rintro e w1 ⟨sv, l, rfl, _, hmem, hlen, hrow, hb1⟩; have Hm := Lib.hid hmem; clear hmem)
    | (go_at_call 39; refine (first_least_string _ l sv _ _ hrow (by omega)).mono ?_; rintro e w2 ⟨v0, v1, v2, rfl, hb2, his⟩; have His := Lib.hid his; clear his))
  go_ret3
  exact ⟨v0, v1, v2, rfl, hb1.trans (hb2.mono hb1.size), pick_of_least_string His.out Hm.out⟩
theorem least_string (p : Nat) (ob : Option Nat) (n : Nat) (f : List UInt8 → Int) (w : World) (h : Tally_string w p ob n f) (hn : n ≤ 1000000) :
    Calls Try.prog 24 #[.pointer (some ⟨p, 0, none⟩)] w (PickPost_least_string f w) := by
  go_enter Try.func24, Try.ntmps24
  go_wp2_with (first
    | (go_at_call 37; refine (rows_string p ob n f _ h hn).mono ?_; rintro e w1 ⟨sv, l, rfl, _, hmem, hlen, hrow, hb1⟩; have Hm := Lib.hid hmem; clear hmem)
    | (go_at_call 39; refine (first_least_string f l sv _ _ hrow (by omega)).mono ?_; rintro e w2 ⟨v0, v1, v2, rfl, hb2, his⟩; have His := Lib.hid his; clear his))
  go_ret3
  exact ⟨v0, v1, v2, rfl, hb1.trans (hb2.mono hb1.size), pick_of_least_string His.out Hm.out⟩
end Go.Proofs.Ytdoaacfonkgokaa
