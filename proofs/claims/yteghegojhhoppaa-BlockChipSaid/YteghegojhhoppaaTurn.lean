/- Package turn, as others call it: Turn's value is an iterator that gives its numbers in order, whatever the loop body does; a template (stage 1's texts, Leaf and Iter). -/
import Derived.RangeFuncNested
import Derived.RangeFuncBound
import Derived.RangeFuncCalls
import Derived.RangeFuncLeaves
import Derived.Shelf.Abstract
import Derived.Shelf.RegionOpen
import Derived.WalkKit
import Derived.OwnWalkIn
import Derived.TacticsInMore
import Derived.LoopNIn
import Derived.LoopIn
import Derived.IntWalk
import Derived.Lib.Hide
import Derived.Outline
import Derived.Test.YteghegojhhoppaaLProg
namespace Go.Proofs.Yteghegojhhoppaa
open Go.RowKit Go.Shelf

theorem tmod_bounds (x n : Int) (h1 : 1 ≤ n) : -n < x.tmod n ∧ x.tmod n < n := by
  have := Int.tmod_lt_of_pos x (show 0 < n by omega)
  have := Int.lt_tmod_of_pos x (show 0 < n by omega)
  omega
theorem emod_tmod_neg (x n : Int) (h1 : 1 ≤ n) (h : x.tmod n < 0) : x % n = x.tmod n + n := by
  have hb := tmod_bounds x n h1
  have e1 : x = n * (x.tdiv n) + x.tmod n := by have := Int.mul_tdiv_add_tmod x n; omega
  have e2 : x = (x.tmod n + n) + n * (x.tdiv n - 1) := by rw [Int.mul_sub]; omega
  rw [e2, Int.add_mul_emod_self_left]
  rw [← e2]
  exact Int.emod_eq_of_lt (by omega) (by omega)
theorem emod_tmod_pos (x n : Int) (h1 : 1 ≤ n) (h : 0 ≤ x.tmod n) : x % n = x.tmod n := by
  have hb := tmod_bounds x n h1
  have e2 : x = x.tmod n + n * (x.tdiv n) := by have := Int.mul_tdiv_add_tmod x n; omega
  rw [e2, Int.add_mul_emod_self_left]
  rw [← e2]
  exact Int.emod_eq_of_lt (by omega) (by omega)

theorem modulo_any (x n : Int) (w : World) (h1 : 1 ≤ n) (h2 : n ≤ 9223372036854775807) :
    Calls Try.prog 27 #[.int .i64 x, .int .i64 n] w fun e w' => e = .returned (.int .i64 (x % n)) ∧ w = w' := by
  have hb := tmod_bounds x n h1
  obtain ⟨hb1, hb2⟩ := hb
  go_enter Try.func27, Try.ntmps27
  go_wp2
  · have hlt : x.tmod n < 0 := by assumption
    go_ret
    exact ⟨ret_int (by rw [emod_tmod_neg x n h1 hlt]), rfl⟩
  · have hlt : 0 ≤ x.tmod n := by assumption
    go_ret
    exact ⟨ret_int (by rw [emod_tmod_pos x n h1 hlt]), rfl⟩

theorem turn_any (n from_ : Int) (w : World) :
    Calls Try.prog 18 #[.int .i64 n, .int .i64 from_] w fun e w' => e = .returned (.func (.func 26) #[] #[.pointer (some ⟨w.heap.size, 0, none⟩), .pointer (some ⟨w.heap.size + 1, 0, none⟩)]) ∧ w' = (w.alloc (.cells #[.int .i64 n] 3)).alloc (.cells #[.int .i64 from_] 3) := by
  go_enter Try.func18, Try.ntmps18
  go_wp2
  go_ret
  exact ⟨rfl, rfl⟩

attribute [local go_sem] Oper.semAt_some

theorem room_none {F : Fence} (hd : F.depth = none) (k : Nat) : F.room k := fun d h => by rw [hd] at h; cases h
theorem RoundIn_any {F : Fence} (hd : F.depth = none) {m m' : Nat} {P : Program} {l : Nat} {f : FuncId} {tmps : Array Value} {assign body : Code} {w : World} {R : Ending → World → Prop}
    (h : RoundIn F m P l f tmps assign body w R) : RoundIn F m' P l f tmps assign body w R := ⟨h.1, fun c cs _ => h.2 c cs (room_none hd _)⟩
theorem YieldAt_any {F : Fence} (hd : F.depth = none) {m : Nat} (m' : Nat) {P : Program} {l : Nat} {args : Array Value} {W : World} {R : Ending → World → Prop} (h : YieldAt F m P l args W R) : YieldAt F m' P l args W R := by
  obtain ⟨fn, tmps, assign, body, hy, hR⟩ := h
  exact ⟨fn, tmps, assign, body, hy, RoundIn_any hd hR⟩

theorem wide_depth (k : Nat) : Fence.wide.depth.isSome = true → 1 ≤ k := fun h => by cases h

/-- a, a + 1, .., a + k - 1. -/
def ints (a k : Nat) : List Int := (List.range k).map fun j : Nat => (a : Int) + (j : Int)
theorem ints_succ (a k : Nat) : ints a (k + 1) = ints a k ++ [(a : Int) + (k : Int)] := by simp [ints, List.range_succ]
theorem ints_length (a k : Nat) : (ints a k).length = k := by simp [ints]
theorem ints_prefix (a : Nat) {j k : Nat} (h : j ≤ k) : ints a j <+: ints a k := by
  induction k with
  | zero => obtain rfl : j = 0 := by omega
            exact List.prefix_refl _
  | succ k ih =>
    by_cases e : j = k + 1
    · subst e; exact List.prefix_refl _
    · exact (ih (by omega)).trans (by rw [ints_succ]; exact List.prefix_append _ _)

/-- The way a round may end, of an element x of an iterator's. -/
abbrev RoundEnds {α : Type} (Kp : World → World → Prop) (J Jx : List α → World → Prop) (pre : List α) (x : α) (W : World) (e : Ending) (W' : World) : Prop :=
  (e = .returned (.bool true) ∧ J (pre ++ [x]) W' ∧ Kp W W') ∨ (e = .returned (.bool false) ∧ Jx (pre ++ [x]) W')

/-- Block b lies as it lay. -/
def KeepsBlk (b : Nat) (W W' : World) : Prop := W'.heap[b]? = W.heap[b]?
theorem KeepsBlk.refl (b : Nat) (W : World) : KeepsBlk b W W := rfl
theorem KeepsBlk.trans {b : Nat} {X Y Z : World} (h : KeepsBlk b X Y) (k : KeepsBlk b Y Z) : KeepsBlk b X Z := Eq.trans k h
theorem KeepsBlk.cell {b : Nat} {X Y : World} (h : KeepsBlk b X Y) (o : Nat) : Y.cell? ⟨b, o, none⟩ = X.cell? ⟨b, o, none⟩ := World.cell?_of_block h
theorem KeepsBlk.of_below {n₀ b : Nat} {X Y : World} (h : Below n₀ X Y) (hb : b < n₀) : KeepsBlk b X Y := h.block b hb
theorem keepsBlk_b {b : Nat} {w : World} (hb : b < w.heap.size) (W : World) (l : Nat) (o o' : Obj) (hl : w.heap.size ≤ l) (_ : W.heap[l]? = some o) (_ : o.isCells = false) (_ : o.isWalk = false) : KeepsBlk b W (W.putObj l o') :=
  World.putObj_heap_other (by omega)
theorem KeepsBlk.alloc {b : Nat} (W : World) (h : b < W.heap.size) (o : Obj) : KeepsBlk b W (W.alloc o) := Below.heap_alloc _ _ _ h
theorem KeepsBlk.setCell {b : Nat} (W : World) (a : Addr) (h : b ≠ a.block) (v : Value) : KeepsBlk b W (W.setCell a v) := Below.heap_setCell _ _ _ _ h

theorem cell_later {W : World} {a : Addr} {v : Value} (o : Obj) (h : W.cell? a = some v) : (W.alloc o).cell? a = some v := cell_kept h (World.grownBy_alloc W o none) (fun r e => by cases e)
theorem cell_other {W : World} {a : Addr} {v : Value} {b : Nat} (u : Value) (h : W.cell? a = some v) (hb : a.block ≠ b) : (W.setCell ⟨b, 0, none⟩ u).cell? a = some v :=
  (World.cell?_of_block (Below.heap_setCell W ⟨b, 0, none⟩ u a.block hb)).trans h

/-- Who asks the body to keep more asks less of the iterator. -/
theorem seq_keeps_more {α : Type} {F : Fence} {n : Nat} {P : Program} {g : Nat} {lb : Array Value} {encs : α → Array Value} {Kp Kp' : World → World → Prop} {S Sp : List α → Prop} {N : Nat} {w : World}
    (h : SeqStopsK F n P g lb encs Kp S Sp N w) (hk : ∀ A B, Kp' A B → Kp A B) : SeqStopsK F n P g lb encs Kp' S Sp N w := fun l J Jx W hW hJ hJx hY h0 =>
  h l J Jx W hW hJ hJx (fun pre x W1 hj hl => (hY pre x W1 hj hl).mono fun _ _ hr => hr.imp (fun ⟨a, b, c⟩ => ⟨a, b, hk _ _ c⟩) id) h0

def RunEnds (J Jx : List Int → World → Prop) (pre : List Int) (a k : Nat) (e : Ending) (W' : World) : Prop :=
  (e = .returned (.bool true) ∧ J (pre ++ ints a k) W') ∨ (e = .returned (.bool false) ∧ ∃ q, q <+: ints a k ∧ Jx (pre ++ q) W')

set_option maxRecDepth 100000 in
set_option maxHeartbeats 1000000 in
theorem run_gives (Kp : World → World → Prop) (n l a b N : Nat) (hab : a ≤ b) (hb : b ≤ 9223372036854775807) (J Jx : List Int → World → Prop)
    (hY : ∀ m pre x W, J pre W → pre.length < N → YieldAt Fence.wide m Try.prog l #[.int .i64 x] W (RoundEnds Kp J Jx pre x W))
    (pre : List Int) (W : World) (hN : pre.length + (b - a) ≤ N) (h0 : J pre W) :
    CallsIn Fence.wide n Try.prog 28 #[.int .i64 a, .int .i64 b, .func (.yield l) #[] #[]] W (RunEnds J Jx pre a (b - a)) := by
  refine callsIn_of_wp Try.func28 rfl trivial ?_ rfl
  simp only [Try.ntmps28, List.size_toArray, List.length_cons, List.length_nil, Nat.reduceAdd, Nat.reduceSub, Array.replicate_succ, Array.replicate_zero, List.push_toArray, List.append_toArray, List.nil_append, List.cons_append]
  gi_wp2
  gi_loopw [7] (fun i wr => ∃ k : Nat, k ≤ b - a ∧ i = .int .i64 ((a : Int) + (k : Int)) ∧ J (pre ++ ints a k) wr)
    (fun i _ => b - (intOf i).toNat)
  case atStart => exact ⟨0, Nat.zero_le _, by simp, by simpa [ints] using h0⟩
  case round =>
    obtain ⟨k, hk, rfl, hJs⟩ := hrel
    by_cases hlt : a + k < b
    · obtain ⟨fn, tmps, assign, body, hy, hR⟩ := hY (n - 1) _ ((a : Int) + (k : Int)) wr hJs (by rw [List.length_append, ints_length]; omega)
      gi_wp2_with fail
      refine ⟨wide_depth _, hR.mono ?_⟩
      rintro e W3 (⟨rfl, hJ3, hk3⟩ | ⟨rfl, hJx3⟩)
      · gi_wp2
        go_roundw
        case rel => exact ⟨k + 1, by omega, by simp [Int.add_assoc], by rw [ints_succ, ← List.append_assoc]; exact hJ3⟩
        case measure => simp [intOf]; omega
      · gi_wp2
        go_ret
        exact .inr ⟨rfl, ints a (k + 1), ints_prefix a (by omega), by rw [ints_succ, ← List.append_assoc]; exact hJx3⟩
    · obtain rfl : k = b - a := by omega
      gi_wp2
      go_ret
      exact .inl ⟨rfl, hJs⟩

/-- What Turn gives. -/
def turnL (n f : Int) : List Int := if n < 1 then [] else ints (f % n).toNat (n.toNat - (f % n).toNat) ++ ints 0 (f % n).toNat
theorem turnL_none {n : Int} (f : Int) (h : n < 1) : turnL n f = [] := by simp [turnL, h]
theorem turnL_some {n : Int} (f : Int) (h : 1 ≤ n) : turnL n f = ints (f % n).toNat (n.toNat - (f % n).toNat) ++ ints 0 (f % n).toNat := by
  unfold turnL; rw [if_neg (by omega)]
theorem turnL_length (n f : Int) : (turnL n f).length = n.toNat := by
  by_cases h : n < 1
  · rw [turnL_none f h]; simp; omega
  · rw [turnL_some f (by omega)]
    have h1 := Int.emod_nonneg f (show n ≠ 0 by omega)
    have h2 := Int.emod_lt_of_pos f (show 0 < n by omega)
    simp [ints_length]; omega

theorem func_nil (f : Fn) (a b : Array Value) (w : World) : Sem.run Try.prog (binOp BinOp.eql 57 (.func f a b) .nilFunc) w = .ok (.bool false) w := by kernel_rfl
def SeqEnds {α : Type} (J Jx : List α → World → Prop) (xs : List α) (e : Ending) (W' : World) : Prop :=
  (∃ v, e = .returned v) ∧ ((∃ ys, ys = xs ∧ J ys W') ∨ (∃ pre, pre <+: xs ∧ Jx pre W'))

set_option maxRecDepth 100000 in
set_option maxHeartbeats 2000000 in
theorem turn1_in (Kp : World → World → Prop) (n l Bn Bf : Nat) (nn ff : Int) (hnn : nn ≤ 9223372036854775807) (J Jx : List Int → World → Prop)
    (hY : ∀ pre x W, J pre W → pre.length < (turnL nn ff).length → YieldAt Fence.wide (n - 1) Try.prog l #[.int .i64 x] W (RoundEnds Kp J Jx pre x W))
    (W : World) (hc1 : W.cell? ⟨Bn, 0, none⟩ = some (.int .i64 nn)) (hc2 : W.cell? ⟨Bf, 0, none⟩ = some (.int .i64 ff)) (h0 : J [] W) :
    CallsIn Fence.wide n Try.prog 26 #[.func (.yield l) #[] #[], .pointer (some ⟨Bn, 0, none⟩), .pointer (some ⟨Bf, 0, none⟩)] W (SeqEnds J Jx (turnL nn ff)) := by
  by_cases h1 : nn < 1
  · refine callsIn_of_wp Try.func26 rfl trivial ?_ rfl
    simp only [Try.ntmps26, List.size_toArray, List.length_cons, List.length_nil, Nat.reduceAdd, Nat.reduceSub, Array.replicate_succ, Array.replicate_zero, List.push_toArray, List.append_toArray, List.nil_append, List.cons_append]
    gi_wp2
    refine bodyPost_ret (results_none rfl _ _ _) rfl ?_
    exact ⟨⟨_, rfl⟩, .inl ⟨[], (turnL_none ff h1).symm, h0⟩⟩
  · have hm1 := Int.emod_nonneg ff (show nn ≠ 0 by omega)
    have hm2 := Int.emod_lt_of_pos ff (show 0 < nn by omega)
    have HL := Lib.hid (turnL_some ff (show 1 ≤ nn by omega))
    obtain ⟨m, rfl⟩ := Int.eq_ofNat_of_zero_le (show 0 ≤ nn by omega)
    obtain ⟨s, hs⟩ := Int.eq_ofNat_of_zero_le hm1
    rw [hs, Int.toNat_natCast, Int.toNat_natCast] at HL
    rw [HL.out] at hY ⊢
    have hl : (ints s (m - s) ++ ints 0 s).length = m := by simp [ints_length]; omega
    rw [hl] at hY
    have hmod := (modulo_any ff (m : Int) W (by omega) (by omega)).mono (R' := fun e w' => e = .returned (.int .i64 (s : Int)) ∧ W = w') (fun e w' h => by rw [hs] at h; exact h)
    have hY' : ∀ m' pre x W, J pre W → pre.length < m → YieldAt Fence.wide m' Try.prog l #[.int .i64 x] W (RoundEnds Kp J Jx pre x W) := fun m' pre x W hj hl => YieldAt_any rfl m' (hY pre x W hj hl)
    have h1n : ¬ (m : Int) < 1 := h1
    have hsm : s < m := by omega
    clear HL hl hY h1 hm1 hm2 hs
    refine callsIn_of_wp Try.func26 rfl trivial ?_ rfl
    simp only [Try.ntmps26, List.size_toArray, List.length_cons, List.length_nil, Nat.reduceAdd, Nat.reduceSub, Array.replicate_succ, Array.replicate_zero, List.push_toArray, List.append_toArray, List.nil_append, List.cons_append]
    have hnf := func_nil
    have hr1 := run_gives Kp (n - 1) l s m m (by omega) (by omega) J Jx hY' [] W (by simp) h0
    have hr2 := fun w1 => run_gives Kp (n - 1) l 0 s m (by omega) (by omega) J Jx hY' (ints s (m - s)) w1 (by simp [ints_length]; omega)
    gi_wp2_with (first
      | (refine ⟨trivial, wide_depth _, ?_⟩; gi_at_call 27; refine (callsIn_wide.2 hmod).mono ?_; clear hmod; rintro e w1 ⟨rfl, rfl⟩)
      | (refine ⟨trivial, wide_depth _, ?_⟩; gi_at_call 28; refine hr1.mono ?_; clear hr1; rintro e w1 (⟨rfl, hJ1⟩ | ⟨rfl, q, hq, hx⟩))
      | (refine ⟨trivial, wide_depth _, ?_⟩; gi_at_call 28; refine (hr2 _ hJ1).mono ?_; clear hr2; rintro e w2 (⟨rfl, hJ2⟩ | ⟨rfl, q, hq, hx⟩)))
    · go_end0
      exact ⟨⟨_, rfl⟩, .inl ⟨_, rfl, by simpa using hJ2⟩⟩
    · go_end0
      exact ⟨⟨_, rfl⟩, .inr ⟨_, (List.prefix_append_right_inj _).2 hq, by simpa using hx⟩⟩
    · go_end0
      exact ⟨⟨_, rfl⟩, .inr ⟨q, hq.trans (List.prefix_append _ _), by simpa using hx⟩⟩

abbrev encI (x : Int) : Array Value := #[Value.int .i64 x]

/-- Turn's value is an iterator that gives turnL. -/
theorem turn_stops (Kp : World → World → Prop) (n Bn Bf : Nat) (nn ff : Int) (hnn : nn ≤ 9223372036854775807) (w : World) (hBn : Bn < w.heap.size) (hBf : Bf < w.heap.size)
    (hc1 : w.cell? ⟨Bn, 0, none⟩ = some (.int .i64 nn)) (hc2 : w.cell? ⟨Bf, 0, none⟩ = some (.int .i64 ff)) :
    SeqStopsK Fence.wide n Try.prog 26 #[.pointer (some ⟨Bn, 0, none⟩), .pointer (some ⟨Bf, 0, none⟩)] encI Kp (fun ys => ys = turnL nn ff) (fun pre => pre <+: turnL nn ff) (turnL nn ff).length w := fun l J Jx W hW _ _ hY h0 =>
  turn1_in Kp n l Bn Bf nn ff hnn J Jx hY W ((hW.cell (p := ⟨Bn, 0, none⟩) hBn).trans hc1) ((hW.cell (p := ⟨Bf, 0, none⟩) hBf).trans hc2) h0


theorem enters_turn : ∀ args w, (callFunc 26 args).run Try.prog w = .ok (.enter 26 args) w := enters_of Try.func26 (by kernel_rfl) rfl
/-- Turn(n, 0): 0, 1, .., n - 1. -/
theorem turnL_zero (n : Nat) : turnL n 0 = ints 0 n := by
  by_cases h : (n : Int) < 1
  · obtain rfl : n = 0 := by omega
    rw [turnL_none _ h]; rfl
  · rw [turnL_some 0 (by omega)]
    simp [ints]
end Go.Proofs.Yteghegojhhoppaa
