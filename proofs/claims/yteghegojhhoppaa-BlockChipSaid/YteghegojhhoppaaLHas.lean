/- The landed chip: is there such a block, such a spot; what bars an erase, what refuses a program. -/
import Derived.Test.YteghegojhhoppaaLLeaf
import Derived.Test.YteghegojhhoppaaRefRead
namespace Go.Proofs.Yteghegojhhoppaa
open Go.RowKit

def isL (S : LS) (b : Int) : Bool := decide (0 ≤ b ∧ b < (S.bl.length : Int))
def hasL (S : LS) (b pg : Int) : Bool := decide (0 ≤ b ∧ b < (S.bl.length : Int) ∧ 0 ≤ pg ∧ pg < (S.np : Int))
def blkL (S : LS) (b : Int) : Bk := S.bl.getD b.toNat ⟨false, 0, 0, []⟩
def barS (S : LS) (b : Int) : Int := if isL S b = false then 1 else if S.dark = true then 2 else if (blkL S b).bad = true then 3 else 0
def refS (S : LS) (b pg : Int) (n : Nat) : Int := if hasL S b pg = false ∨ n < 1 ∨ 2000 < n then 1 else if barS S b ≠ 0 then barS S b else if pg ≠ (blkL S b).next then 4 else 0
theorem blkL_at {S : LS} {i : Nat} (hi : i < S.bl.length) : blkL S i = S.bl[i] := by simp [blkL, hi]
theorem hasL_nats {S : LS} {b pg : Int} (h : hasL S b pg = true) : ∃ i j : Nat, b = i ∧ pg = j ∧ i < S.bl.length ∧ j < S.np := by
  simp [hasL] at h
  exact ⟨b.toNat, pg.toNat, by omega, by omega, by omega, by omega⟩
theorem isL_nat {S : LS} {b : Int} (h : isL S b = true) : ∃ i : Nat, b = i ∧ i < S.bl.length := by
  simp [isL] at h
  exact ⟨b.toNat, by omega, by omega⟩
theorem hasL_is {S : LS} {b pg : Int} (h : hasL S b pg = true) : isL S b = true := by
  simp [hasL] at h; simp [isL]; omega

section
variable {p q cap : Nat} {g : Nat → Nat} {C : Nat → Prop} {S : LS} {w : World}
theorem is_any (b : Int) (h : LAt w p q cap g C S) : Calls Try.prog 19 #[.pointer (some ⟨p, 0, none⟩), .int .i64 b] w fun e w' => e = .returned (.bool (isL S b)) ∧ w' = w := by
  obtain ⟨c0, c1, c2, c3, c4, c5, c6, c7, c8, c9, c10, c11, c12⟩ := cells13 h.self
  clear h c1 c2 c3 c4 c5 c6 c7 c8 c9 c10 c11 c12
  by_cases h1 : 0 ≤ b
  · by_cases h2 : b < (S.bl.length : Int)
    · go_enter Try.func19, Try.ntmps19
      go_wp2
      all_goals go_ret
      all_goals exact ⟨ret_bool (by simp [isL, h1, h2]), rfl⟩
    · go_enter Try.func19, Try.ntmps19
      go_wp2
      all_goals go_ret
      all_goals exact ⟨ret_bool (by simp [isL]; omega), rfl⟩
  · go_enter Try.func19, Try.ntmps19
    go_wp2
    all_goals go_ret
    all_goals exact ⟨ret_bool (by simp [isL]; omega), rfl⟩
theorem is_nil (b : Int) (w : World) : Calls Try.prog 19 #[.pointer none, .int .i64 b] w fun e w' => e = .returned (.bool false) ∧ w' = w := by
  go_enter Try.func19, Try.ntmps19
  go_wp2
  go_ret
  exact ⟨rfl, rfl⟩
set_option maxRecDepth 100000 in
set_option maxHeartbeats 1000000 in
theorem has_any (b pg : Int) (h : LAt w p q cap g C S) : Calls Try.prog 29 #[.pointer (some ⟨p, 0, none⟩), .agg #[.int .i64 b, .int .i64 pg]] w fun e w' => e = .returned (.bool (hasL S b pg)) ∧ Below w.heap.size w w' := by
  have h0 := h.alloc (.cells #[.int .i64 b, .int .i64 pg] 42)
  have hp : p < w.heap.size := lt_size h.self
  obtain ⟨c0, c1, c2, c3, c4, c5, c6, c7, c8, c9, c10, c11, c12⟩ := cells13 h.self
  clear c0 c2 c3 c4 c5 c6 c7 c8 c9 c10 c11 c12
  have hk := fun n => is_any b (h0.drewN n)
  cases h1 : isL S b with
  | false =>
    have hh : hasL S b pg = false := by
      cases e : hasL S b pg with
      | false => rfl
      | true => have := hasL_is e; rw [h1] at this; cases this
    rw [hh]
    simp only [h1] at hk
    clear hh h h0
    go_enter Try.func29, Try.ntmps29
    go_wp2
    go_quiet (first | (go_at_call 19; refine Calls.quiet_of_same (hk _)))
    go_wp2
    go_ret
    exact ⟨rfl, drewN_below ((Below.refl _ _).alloc (Nat.le_refl _) _) _⟩
  | true =>
    have hs : isL S b = true := h1
    obtain ⟨i, rfl, hi⟩ := isL_nat h1
    simp only [h1] at hk
    clear h h0 h1 hs
    by_cases h3 : 0 ≤ pg
    · have d3 : decide ((0 : Int) ≤ pg) = true := by simpa using h3
      go_enter Try.func29, Try.ntmps29
      go_wp2
      go_quiet (first | (go_at_call 19; refine Calls.quiet_of_same (hk _)))
      go_wp2
      go_ret
      exact ⟨ret_bool (by simp [hasL, hi, h3]), drewN_below ((Below.refl _ _).alloc (Nat.le_refl _) _) _⟩
    · have d3 : decide ((0 : Int) ≤ pg) = false := by simpa using h3
      go_enter Try.func29, Try.ntmps29
      go_wp2
      go_quiet (first | (go_at_call 19; refine Calls.quiet_of_same (hk _)))
      go_wp2
      go_ret
      exact ⟨ret_bool (by simp [hasL]; omega), drewN_below ((Below.refl _ _).alloc (Nat.le_refl _) _) _⟩
theorem has_nil (b pg : Int) (w : World) : Calls Try.prog 29 #[.pointer none, .agg #[.int .i64 b, .int .i64 pg]] w fun e w' => e = .returned (.bool false) ∧ Below w.heap.size w w' := by
  have hk := fun w => is_nil b w
  go_enter Try.func29, Try.ntmps29
  go_wp2
  go_quiet (first | (go_at_call 19; refine Calls.quiet_of_same (hk _)))
  go_wp2
  go_ret
  exact ⟨rfl, drewN_below ((Below.refl _ _).alloc (Nat.le_refl _) _) _⟩
theorem barred_nil (b : Int) (w : World) : Calls Try.prog 23 #[.pointer none, .int .i64 b] w fun e w' => e = .returned (.int .i64 1) ∧ w' = w := by
  go_enter Try.func23, Try.ntmps23
  go_wp2_with (go_at_call 19; refine (is_nil b _).mono ?_; rintro e w' ⟨rfl, rfl⟩)
  go_ret
  exact ⟨rfl, rfl⟩
theorem barred_any (b : Int) (h : LAt w p q cap g C S) : Calls Try.prog 23 #[.pointer (some ⟨p, 0, none⟩), .int .i64 b] w fun e w' => e = .returned (.int .i64 (barS S b)) ∧ w' = w := by
  obtain ⟨c0, c1, c2, c3, c4, c5, c6, c7, c8, c9, c10, c11, c12⟩ := cells13 h.self
  clear c1 c2 c3 c4 c6 c7 c8 c9 c10 c11 c12
  have hk := is_any b h
  cases h1 : isL S b with
  | false =>
    rw [h1] at hk
    have e1 : barS S b = 1 := by simp [barS, h1]
    rw [e1]
    go_enter Try.func23, Try.ntmps23
    go_wp2_with (go_at_call 19; refine hk.mono ?_; rintro e w' ⟨rfl, rfl⟩)
    go_ret
    exact ⟨rfl, rfl⟩
  | true =>
    rw [h1] at hk
    obtain ⟨i, rfl, hi⟩ := isL_nat h1
    have r0 := (h.blocks i hi).bad
    cases hd : S.dark with
    | true =>
      rw [hd] at c5
      have e1 : barS S i = 2 := by simp [barS, h1, hd]
      rw [e1]
      go_enter Try.func23, Try.ntmps23
      go_wp2_with (go_at_call 19; refine hk.mono ?_; rintro e w' ⟨rfl, rfl⟩)
      go_ret
      exact ⟨rfl, rfl⟩
    | false =>
      rw [hd] at c5
      cases hb : S.bl[i].bad with
      | true =>
        rw [hb] at r0
        have e1 : barS S i = 3 := by simp [barS, h1, hd, blkL_at hi, hb]
        rw [e1]
        go_enter Try.func23, Try.ntmps23
        go_wp2_with (go_at_call 19; refine hk.mono ?_; rintro e w' ⟨rfl, rfl⟩)
        go_ret
        exact ⟨rfl, rfl⟩
      | false =>
        rw [hb] at r0
        have e1 : barS S i = 0 := by simp [barS, h1, hd, blkL_at hi, hb]
        rw [e1]
        go_enter Try.func23, Try.ntmps23
        go_wp2_with (go_at_call 19; refine hk.mono ?_; rintro e w' ⟨rfl, rfl⟩)
        go_ret
        exact ⟨rfl, rfl⟩
theorem refused_nil (b pg : Int) (A : Option Addr) (n c : Nat) (w : World) : Calls Try.prog 20 #[.pointer none, .agg #[.int .i64 b, .int .i64 pg], .slice A n c] w fun e w' => e = .returned (.int .i64 1) ∧ Below w.heap.size w w' := by
  go_enter Try.func20, Try.ntmps20
  go_wp2_with (go_at_call 29; refine (has_nil b pg _).mono ?_; rintro e w' ⟨rfl, hb⟩)
  go_ret
  exact ⟨rfl, ((Below.refl _ _).alloc (Nat.le_refl _) _).trans (hb.mono (by simp))⟩
theorem bad3 {n : Nat} (h1 : ¬ n < 1) (h2 : ¬ 2000 < n) : ¬ (true = false ∨ n < 1 ∨ 2000 < n) := by
  rintro (e | e | e)
  · cases e
  · exact h1 e
  · exact h2 e
set_option maxRecDepth 100000 in
set_option maxHeartbeats 1000000 in
theorem refused_any (b pg : Int) (A : Option Addr) (n c : Nat) (h : LAt w p q cap g C S) : Calls Try.prog 20 #[.pointer (some ⟨p, 0, none⟩), .agg #[.int .i64 b, .int .i64 pg], .slice A n c] w fun e w' => e = .returned (.int .i64 (refS S b pg n)) ∧ Below w.heap.size w w' := by
  have H0 := Lib.hid (h.alloc (.cells #[.int .i64 b, .int .i64 pg] 42))
  have hp : p < w.heap.size := lt_size h.self
  have hbb : ∀ {w1 : World}, Below (w.alloc (.cells #[.int .i64 b, .int .i64 pg] 42)).heap.size (w.alloc (.cells #[.int .i64 b, .int .i64 pg] 42)) w1 → Below w.heap.size w w1 := fun hb => ((Below.refl _ _).alloc (Nat.le_refl _) _).trans (hb.mono (by simp))
  cases hh : hasL S b pg with
  | false =>
    have e1 : refS S b pg n = 1 := by simp [refS, hh]
    rw [e1]
    go_enter Try.func20, Try.ntmps20
    go_wp2_with (go_at_call 29; refine (has_any b pg H0.out).mono ?_; rintro e w' ⟨rfl, hb⟩; rw [hh])
    go_ret
    exact ⟨rfl, hbb hb⟩
  | true =>
    by_cases h1 : n < 1
    · have e1 : refS S b pg n = 1 := by simp [refS, h1]
      rw [e1]
      have d1 : decide ((1 : Int) ≤ (n : Int) ∧ (n : Int) ≤ 2000) = false := by simp; omega
      go_enter Try.func20, Try.ntmps20
      go_wp2_with (first
        | (go_at_call 29; refine (has_any b pg H0.out).mono ?_; rintro e w' ⟨rfl, hb⟩; rw [hh])
        | (go_at_call 17; refine (within_any _ _ _).mono ?_; rintro e w'' ⟨rfl, rfl⟩; rw [d1]))
      go_ret
      exact ⟨rfl, hbb hb⟩
    · by_cases h2 : 2000 < n
      · have e1 : refS S b pg n = 1 := by simp [refS, h2]
        rw [e1]
        have d1 : decide ((1 : Int) ≤ (n : Int) ∧ (n : Int) ≤ 2000) = false := by simp; omega
        go_enter Try.func20, Try.ntmps20
        go_wp2_with (first
          | (go_at_call 29; refine (has_any b pg H0.out).mono ?_; rintro e w' ⟨rfl, hb⟩; rw [hh])
          | (go_at_call 17; refine (within_any _ _ _).mono ?_; rintro e w'' ⟨rfl, rfl⟩; rw [d1]))
        go_ret
        exact ⟨rfl, hbb hb⟩
      · have d1 : decide ((1 : Int) ≤ (n : Int) ∧ (n : Int) ≤ 2000) = true := by simp; omega
        obtain ⟨i, j, rfl, rfl, hi, hj⟩ := hasL_nats hh
        cases hz : (barS S i != 0) with
        | true =>
          have hz' : barS S i ≠ 0 := by simpa using hz
          have e1 : refS S i j n = barS S i := by
            unfold refS
            rw [if_neg (by rw [hh]; exact bad3 h1 h2), if_pos hz']
          rw [e1]
          go_enter Try.func20, Try.ntmps20
          go_wp2_with (first
            | (go_at_call 29; refine (has_any i j H0.out).mono ?_; rintro e w1 ⟨rfl, hb⟩; rw [hh]; obtain ⟨d0, d1', _, _⟩ := cells2' (box2 hb))
            | (go_at_call 17; refine (within_any _ _ _).mono ?_; rintro e w'' ⟨rfl, rfl⟩; rw [d1])
            | (go_at_call 23; refine (barred_any i (H0.out.below hb)).mono ?_; rintro e w'' ⟨rfl, rfl⟩))
          all_goals go_ret
          all_goals exact ⟨rfl, hbb hb⟩
        | false =>
          have hz' : barS S i = 0 := by simpa using hz
          by_cases hx : (j : Int) = S.bl[i].next
          · have e1 : refS S i j n = 0 := by
              unfold refS
              rw [if_neg (by rw [hh]; exact bad3 h1 h2), if_neg (by omega), blkL_at hi, if_neg (by omega)]
            rw [e1]
            have hne : ((j : Int) != S.bl[i].next) = false := by simpa using hx
            clear hx e1
            go_enter Try.func20, Try.ntmps20
            go_wp2_with (first
              | (go_at_call 29; refine (has_any i j H0.out).mono ?_; rintro e w1 ⟨rfl, hb⟩; rw [hh]; obtain ⟨d0, d1', _, _⟩ := cells2' (box2 hb); obtain ⟨c0, _, _, _, _, _, _, _, _, _, _, _, _⟩ := cells13 (H0.out.below hb).self; have r1 := ((H0.out.below hb).blocks i hi).next)
              | (go_at_call 17; refine (within_any _ _ _).mono ?_; rintro e w'' ⟨rfl, rfl⟩; rw [d1])
              | (go_at_call 23; refine (barred_any i (H0.out.below hb)).mono ?_; rintro e w'' ⟨rfl, rfl⟩; rw [hz']))
            go_quiet (fail)
            go_wp2
            all_goals go_ret
            all_goals exact ⟨rfl, drewN_below (hbb hb) _⟩
          · have e1 : refS S i j n = 4 := by
              unfold refS
              rw [if_neg (by rw [hh]; exact bad3 h1 h2), if_neg (by omega), blkL_at hi, if_pos (by omega)]
            rw [e1]
            have hne : ((j : Int) != S.bl[i].next) = true := by simpa using hx
            clear hx e1
            go_enter Try.func20, Try.ntmps20
            go_wp2_with (first
              | (go_at_call 29; refine (has_any i j H0.out).mono ?_; rintro e w1 ⟨rfl, hb⟩; rw [hh]; obtain ⟨d0, d1', _, _⟩ := cells2' (box2 hb); obtain ⟨c0, _, _, _, _, _, _, _, _, _, _, _, _⟩ := cells13 (H0.out.below hb).self; have r1 := ((H0.out.below hb).blocks i hi).next)
              | (go_at_call 17; refine (within_any _ _ _).mono ?_; rintro e w'' ⟨rfl, rfl⟩; rw [d1])
              | (go_at_call 23; refine (barred_any i (H0.out.below hb)).mono ?_; rintro e w'' ⟨rfl, rfl⟩; rw [hz']))
            go_quiet (fail)
            go_wp2
            all_goals go_ret
            all_goals exact ⟨rfl, drewN_below (hbb hb) _⟩
end
end Go.Proofs.Yteghegojhhoppaa
