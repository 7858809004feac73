/- The iterators of package turn: run and the closures of Turn: each gives its numbers in order, whatever the loop body does to what lies from n₀ on. -/
import Derived.Test.YtemallklldebpaaLeaf
namespace Go.Proofs.Ytemallklldebpaa
open Go.RowKit Go.Shelf

attribute [local go_sem] Oper.semAt_some

theorem room_none {F : Fence} (hd : F.depth = none) (k : Nat) : F.room k := fun d h => by rw [hd] at h; cases h
theorem RoundIn_any {F : Fence} (hd : F.depth = none) {m m' : Nat} {P : Program} {l : Nat} {f : FuncId} {tmps : Array Value} {assign body : Code} {w : World} {R : Ending → World → Prop}
    (h : RoundIn F m P l f tmps assign body w R) : RoundIn F m' P l f tmps assign body w R := ⟨h.1, fun c cs _ => h.2 c cs (room_none hd _)⟩
theorem YieldAt_any {F : Fence} (hd : F.depth = none) {m : Nat} (m' : Nat) {P : Program} {l : Nat} {args : Array Value} {W : World} {R : Ending → World → Prop} (h : YieldAt F m P l args W R) : YieldAt F m' P l args W R := by
  obtain ⟨fn, tmps, assign, body, hy, hR⟩ := h
  exact ⟨fn, tmps, assign, body, hy, RoundIn_any hd hR⟩

theorem wide_depth (k : Nat) : Fence.wide.depth.isSome = true → 1 ≤ k := fun h => by cases h

/-- a, a + 1, .., a + k - 1. -/
def ints (a k : Nat) : List Int := (List.range k).map fun j : Nat => (a : Int) + (j : Int)
theorem ints_succ (a k : Nat) : ints a (k + 1) = ints a k ++ [(a : Int) + (k : Int)] := by simp [ints, List.range_succ]
theorem ints_length (a k : Nat) : (ints a k).length = k := by simp [ints]
theorem ints_prefix (a : Nat) {j k : Nat} (h : j ≤ k) : ints a j <+: ints a k := by
  induction k with
  | zero => obtain rfl : j = 0 := by omega
            exact List.prefix_refl _
  | succ k ih =>
    by_cases e : j = k + 1
    · subst e; exact List.prefix_refl _
    · exact (ih (by omega)).trans (by rw [ints_succ]; exact List.prefix_append _ _)

/-- The way a round may end, of an element x of an iterator's. -/
abbrev RoundEnds {α : Type} (Kp : World → World → Prop) (J Jx : List α → World → Prop) (pre : List α) (x : α) (W : World) (e : Ending) (W' : World) : Prop :=
  (e = .returned (.bool true) ∧ J (pre ++ [x]) W' ∧ Kp W W') ∨ (e = .returned (.bool false) ∧ Jx (pre ++ [x]) W')

/-- Block b lies as it lay. -/
def KeepsBlk (b : Nat) (W W' : World) : Prop := W'.heap[b]? = W.heap[b]?
theorem KeepsBlk.refl (b : Nat) (W : World) : KeepsBlk b W W := rfl
theorem KeepsBlk.trans {b : Nat} {X Y Z : World} (h : KeepsBlk b X Y) (k : KeepsBlk b Y Z) : KeepsBlk b X Z := Eq.trans k h
theorem KeepsBlk.cell {b : Nat} {X Y : World} (h : KeepsBlk b X Y) (o : Nat) : Y.cell? ⟨b, o, none⟩ = X.cell? ⟨b, o, none⟩ := World.cell?_of_block h
theorem KeepsBlk.of_below {n₀ b : Nat} {X Y : World} (h : Below n₀ X Y) (hb : b < n₀) : KeepsBlk b X Y := h.block b hb
theorem keepsBlk_b {b : Nat} {w : World} (hb : b < w.heap.size) (W : World) (l : Nat) (o o' : Obj) (hl : w.heap.size ≤ l) (_ : W.heap[l]? = some o) (_ : o.isCells = false) (_ : o.isWalk = false) : KeepsBlk b W (W.putObj l o') :=
  World.putObj_heap_other (by omega)
theorem KeepsBlk.alloc {b : Nat} (W : World) (h : b < W.heap.size) (o : Obj) : KeepsBlk b W (W.alloc o) := Below.heap_alloc _ _ _ h
theorem KeepsBlk.setCell {b : Nat} (W : World) (a : Addr) (h : b ≠ a.block) (v : Value) : KeepsBlk b W (W.setCell a v) := Below.heap_setCell _ _ _ _ h

theorem cell_later {W : World} {a : Addr} {v : Value} (o : Obj) (h : W.cell? a = some v) : (W.alloc o).cell? a = some v := cell_kept h (World.grownBy_alloc W o none) (fun r e => by cases e)
theorem cell_other {W : World} {a : Addr} {v : Value} {b : Nat} (u : Value) (h : W.cell? a = some v) (hb : a.block ≠ b) : (W.setCell ⟨b, 0, none⟩ u).cell? a = some v :=
  (World.cell?_of_block (Below.heap_setCell W ⟨b, 0, none⟩ u a.block hb)).trans h

/-- Who asks the body to keep more asks less of the iterator. -/
theorem seq_keeps_more {α : Type} {F : Fence} {n : Nat} {P : Program} {g : Nat} {lb : Array Value} {encs : α → Array Value} {Kp Kp' : World → World → Prop} {S Sp : List α → Prop} {N : Nat} {w : World}
    (h : SeqStopsK F n P g lb encs Kp S Sp N w) (hk : ∀ A B, Kp' A B → Kp A B) : SeqStopsK F n P g lb encs Kp' S Sp N w := fun l J Jx W hW hJ hJx hY h0 =>
  h l J Jx W hW hJ hJx (fun pre x W1 hj hl => (hY pre x W1 hj hl).mono fun _ _ hr => hr.imp (fun ⟨a, b, c⟩ => ⟨a, b, hk _ _ c⟩) id) h0

def RunEnds (J Jx : List Int → World → Prop) (pre : List Int) (a k : Nat) (e : Ending) (W' : World) : Prop :=
  (e = .returned (.bool true) ∧ J (pre ++ ints a k) W') ∨ (e = .returned (.bool false) ∧ ∃ q, q <+: ints a k ∧ Jx (pre ++ q) W')

set_option maxRecDepth 100000 in
set_option maxHeartbeats 1000000 in
theorem run_gives (Kp : World → World → Prop) (n l a b N : Nat) (hab : a ≤ b) (hb : b ≤ 9223372036854775807) (J Jx : List Int → World → Prop)
    (hY : ∀ m pre x W, J pre W → pre.length < N → YieldAt Fence.wide m Try.prog l #[.int .i64 x] W (RoundEnds Kp J Jx pre x W))
    (pre : List Int) (W : World) (hN : pre.length + (b - a) ≤ N) (h0 : J pre W) :
    CallsIn Fence.wide n Try.prog 18 #[.int .i64 a, .int .i64 b, .func (.yield l) #[] #[]] W (RunEnds J Jx pre a (b - a)) := by
  refine callsIn_of_wp Try.func18 rfl trivial ?_ rfl
  simp only [Try.ntmps18, List.size_toArray, List.length_cons, List.length_nil, Nat.reduceAdd, Nat.reduceSub, Array.replicate_succ, Array.replicate_zero, List.push_toArray, List.append_toArray, List.nil_append, List.cons_append]
  gi_wp2
  gi_loopw [7] (fun i wr => ∃ k : Nat, k ≤ b - a ∧ i = .int .i64 ((a : Int) + (k : Int)) ∧ J (pre ++ ints a k) wr)
    (fun i _ => b - (intOf i).toNat)
  case atStart => exact ⟨0, Nat.zero_le _, by simp, by simpa [ints] using h0⟩
  case round =>
    obtain ⟨k, hk, rfl, hJs⟩ := hrel
    by_cases hlt : a + k < b
    · obtain ⟨fn, tmps, assign, body, hy, hR⟩ := hY (n - 1) _ ((a : Int) + (k : Int)) wr hJs (by rw [List.length_append, ints_length]; omega)
      gi_wp2_with fail
      refine ⟨wide_depth _, hR.mono ?_⟩
      rintro e W3 (⟨rfl, hJ3, hk3⟩ | ⟨rfl, hJx3⟩)
      · gi_wp2
        go_roundw
        case rel => exact ⟨k + 1, by omega, by simp [Int.add_assoc], by rw [ints_succ, ← List.append_assoc]; exact hJ3⟩
        case measure => simp [intOf]; omega
      · gi_wp2
        go_ret
        exact .inr ⟨rfl, ints a (k + 1), ints_prefix a (by omega), by rw [ints_succ, ← List.append_assoc]; exact hJx3⟩
    · obtain rfl : k = b - a := by omega
      gi_wp2
      go_ret
      exact .inl ⟨rfl, hJs⟩

/-- What Turn gives. -/
def turnL (n f : Int) : List Int := if n < 1 then [] else ints (f % n).toNat (n.toNat - (f % n).toNat) ++ ints 0 (f % n).toNat
theorem turnL_none {n : Int} (f : Int) (h : n < 1) : turnL n f = [] := by simp [turnL, h]
theorem turnL_some {n : Int} (f : Int) (h : 1 ≤ n) : turnL n f = ints (f % n).toNat (n.toNat - (f % n).toNat) ++ ints 0 (f % n).toNat := by
  unfold turnL; rw [if_neg (by omega)]
theorem turnL_length (n f : Int) : (turnL n f).length = n.toNat := by
  by_cases h : n < 1
  · rw [turnL_none f h]; simp; omega
  · rw [turnL_some f (by omega)]
    have h1 := Int.emod_nonneg f (show n ≠ 0 by omega)
    have h2 := Int.emod_lt_of_pos f (show 0 < n by omega)
    simp [ints_length]; omega

theorem func_nil_41 (f : Fn) (a b : Array Value) (w : World) : Sem.run Try.prog (binOp BinOp.eql 41 (.func f a b) .nilFunc) w = .ok (.bool false) w := by kernel_rfl
theorem func_nil_45 (f : Fn) (a b : Array Value) (w : World) : Sem.run Try.prog (binOp BinOp.eql 45 (.func f a b) .nilFunc) w = .ok (.bool false) w := by kernel_rfl
theorem func_nil_26 (f : Fn) (a b : Array Value) (w : World) : Sem.run Try.prog (binOp BinOp.eql 26 (.func f a b) .nilFunc) w = .ok (.bool false) w := by kernel_rfl
theorem func_nil_33 (f : Fn) (a b : Array Value) (w : World) : Sem.run Try.prog (binOp BinOp.eql 33 (.func f a b) .nilFunc) w = .ok (.bool false) w := by kernel_rfl
theorem nil_nil_26 (w : World) : Sem.run Try.prog (binOp BinOp.eql 26 .nilFunc .nilFunc) w = .ok (.bool true) w := by kernel_rfl

def SeqEnds {α : Type} (J Jx : List α → World → Prop) (xs : List α) (e : Ending) (W' : World) : Prop :=
  (∃ v, e = .returned v) ∧ ((∃ ys, ys = xs ∧ J ys W') ∨ (∃ pre, pre <+: xs ∧ Jx pre W'))

set_option maxRecDepth 100000 in
set_option maxHeartbeats 2000000 in
theorem turn1_in (Kp : World → World → Prop) (n l Bn Bf : Nat) (nn ff : Int) (hnn : nn ≤ 9223372036854775807) (J Jx : List Int → World → Prop)
    (hY : ∀ pre x W, J pre W → pre.length < (turnL nn ff).length → YieldAt Fence.wide (n - 1) Try.prog l #[.int .i64 x] W (RoundEnds Kp J Jx pre x W))
    (W : World) (hc1 : W.cell? ⟨Bn, 0, none⟩ = some (.int .i64 nn)) (hc2 : W.cell? ⟨Bf, 0, none⟩ = some (.int .i64 ff)) (h0 : J [] W) :
    CallsIn Fence.wide n Try.prog 16 #[.func (.yield l) #[] #[], .pointer (some ⟨Bn, 0, none⟩), .pointer (some ⟨Bf, 0, none⟩)] W (SeqEnds J Jx (turnL nn ff)) := by
  by_cases h1 : nn < 1
  · refine callsIn_of_wp Try.func16 rfl trivial ?_ rfl
    simp only [Try.ntmps16, List.size_toArray, List.length_cons, List.length_nil, Nat.reduceAdd, Nat.reduceSub, Array.replicate_succ, Array.replicate_zero, List.push_toArray, List.append_toArray, List.nil_append, List.cons_append]
    gi_wp2
    refine bodyPost_ret (results_none rfl _ _ _) rfl ?_
    exact ⟨⟨_, rfl⟩, .inl ⟨[], (turnL_none ff h1).symm, h0⟩⟩
  · have hm1 := Int.emod_nonneg ff (show nn ≠ 0 by omega)
    have hm2 := Int.emod_lt_of_pos ff (show 0 < nn by omega)
    have HL := Lib.hid (turnL_some ff (show 1 ≤ nn by omega))
    obtain ⟨m, rfl⟩ := Int.eq_ofNat_of_zero_le (show 0 ≤ nn by omega)
    obtain ⟨s, hs⟩ := Int.eq_ofNat_of_zero_le hm1
    rw [hs, Int.toNat_natCast, Int.toNat_natCast] at HL
    rw [HL.out] at hY ⊢
    have hl : (ints s (m - s) ++ ints 0 s).length = m := by simp [ints_length]; omega
    rw [hl] at hY
    have hmod := (modulo_any ff (m : Int) W (by omega) (by omega)).mono (R' := fun e w' => e = .returned (.int .i64 (s : Int)) ∧ W = w') (fun e w' h => by rw [hs] at h; exact h)
    have hY' : ∀ m' pre x W, J pre W → pre.length < m → YieldAt Fence.wide m' Try.prog l #[.int .i64 x] W (RoundEnds Kp J Jx pre x W) := fun m' pre x W hj hl => YieldAt_any rfl m' (hY pre x W hj hl)
    have h1n : ¬ (m : Int) < 1 := h1
    have hsm : s < m := by omega
    clear HL hl hY h1 hm1 hm2 hs
    refine callsIn_of_wp Try.func16 rfl trivial ?_ rfl
    simp only [Try.ntmps16, List.size_toArray, List.length_cons, List.length_nil, Nat.reduceAdd, Nat.reduceSub, Array.replicate_succ, Array.replicate_zero, List.push_toArray, List.append_toArray, List.nil_append, List.cons_append]
    have hnf := func_nil_41
    have hr1 := run_gives Kp (n - 1) l s m m (by omega) (by omega) J Jx hY' [] W (by simp) h0
    have hr2 := fun w1 => run_gives Kp (n - 1) l 0 s m (by omega) (by omega) J Jx hY' (ints s (m - s)) w1 (by simp [ints_length]; omega)
    gi_wp2_with (first
      | (refine ⟨trivial, wide_depth _, ?_⟩; gi_at_call 17; refine (callsIn_wide.2 hmod).mono ?_; clear hmod; rintro e w1 ⟨rfl, rfl⟩)
      | (refine ⟨trivial, wide_depth _, ?_⟩; gi_at_call 18; refine hr1.mono ?_; clear hr1; rintro e w1 (⟨rfl, hJ1⟩ | ⟨rfl, q, hq, hx⟩))
      | (refine ⟨trivial, wide_depth _, ?_⟩; gi_at_call 18; refine (hr2 _ hJ1).mono ?_; clear hr2; rintro e w2 (⟨rfl, hJ2⟩ | ⟨rfl, q, hq, hx⟩)))
    · go_end0
      exact ⟨⟨_, rfl⟩, .inl ⟨_, rfl, by simpa using hJ2⟩⟩
    · go_end0
      exact ⟨⟨_, rfl⟩, .inr ⟨_, (List.prefix_append_right_inj _).2 hq, by simpa using hx⟩⟩
    · go_end0
      exact ⟨⟨_, rfl⟩, .inr ⟨q, hq.trans (List.prefix_append _ _), by simpa using hx⟩⟩

abbrev encI (x : Int) : Array Value := #[Value.int .i64 x]

/-- Turn's value is an iterator that gives turnL. -/
theorem turn_stops (Kp : World → World → Prop) (n Bn Bf : Nat) (nn ff : Int) (hnn : nn ≤ 9223372036854775807) (w : World) (hBn : Bn < w.heap.size) (hBf : Bf < w.heap.size)
    (hc1 : w.cell? ⟨Bn, 0, none⟩ = some (.int .i64 nn)) (hc2 : w.cell? ⟨Bf, 0, none⟩ = some (.int .i64 ff)) :
    SeqStopsK Fence.wide n Try.prog 16 #[.pointer (some ⟨Bn, 0, none⟩), .pointer (some ⟨Bf, 0, none⟩)] encI Kp (fun ys => ys = turnL nn ff) (fun pre => pre <+: turnL nn ff) (turnL nn ff).length w := fun l J Jx W hW _ _ hY h0 =>
  turn1_in Kp n l Bn Bf nn ff hnn J Jx hY W ((hW.cell (p := ⟨Bn, 0, none⟩) hBn).trans hc1) ((hW.cell (p := ⟨Bf, 0, none⟩) hBf).trans hc2) h0

/-! ### Where -/
def whereTo (bs : List Bool) (k : Nat) : List Int := ((List.range k).filter fun i => bs[i]?.getD false).map fun i : Nat => (i : Int)
theorem whereTo_hit {bs : List Bool} {k : Nat} (h : bs[k]?.getD false = true) : whereTo bs (k + 1) = whereTo bs k ++ [(k : Int)] := by simp [whereTo, List.range_succ, h]
theorem whereTo_miss {bs : List Bool} {k : Nat} (h : bs[k]?.getD false = false) : whereTo bs (k + 1) = whereTo bs k := by simp [whereTo, List.range_succ, h]
theorem whereTo_prefix (bs : List Bool) {j k : Nat} (h : j ≤ k) : whereTo bs j <+: whereTo bs k := by
  induction k with
  | zero => obtain rfl : j = 0 := by omega
            exact List.prefix_refl _
  | succ k ih =>
    by_cases e : j = k + 1
    · subst e; exact List.prefix_refl _
    · refine (ih (by omega)).trans ?_
      cases hb : bs[k]?.getD false with
      | true => rw [whereTo_hit hb]; exact List.prefix_append _ _
      | false => rw [whereTo_miss hb]; exact List.prefix_refl _
theorem whereTo_lt (bs : List Bool) {j k : Nat} (h : j < k) (hb : bs[j]?.getD false = true) : (whereTo bs j).length < (whereTo bs k).length := by
  have := (whereTo_prefix bs (show j + 1 ≤ k by omega)).length_le
  rw [whereTo_hit hb] at this
  simp at this
  omega

/-- The slice value sv holds the bools bs, in block b; or there are none. -/
def BoolsAt (b : Nat) (W : World) (sv : Value) (bs : List Bool) : Prop :=
  (∃ p cap, sv = .slice p 0 cap ∧ bs = []) ∨ ∃ off cap, sv = .slice (some ⟨b, off, none⟩) bs.length cap ∧ ∀ j, j < bs.length → W.cell? ⟨b, off + j, none⟩ = some (.bool (bs[j]?.getD false))
theorem BoolsAt.kept {b : Nat} {A B : World} (h : KeepsBlk b A B) {sv : Value} {bs : List Bool} : BoolsAt b A sv bs → BoolsAt b B sv bs
  | .inl e => .inl e
  | .inr ⟨off, cap, e, hc⟩ => .inr ⟨off, cap, e, fun j hj => (h.cell (off + j)).trans (hc j hj)⟩

set_option maxRecDepth 100000 in
set_option maxHeartbeats 1000000 in
theorem where1_nil_in (n l Bs : Nat) (p : Option Addr) (cap : Nat) (J : List Int → World → Prop) (W : World) (hBs : W.cell? ⟨Bs, 0, none⟩ = some (.slice p 0 cap)) (h0 : J [] W) :
    CallsIn Fence.wide n Try.prog 20 #[.func (.yield l) #[] #[], .pointer (some ⟨Bs, 0, none⟩)] W fun e W' => (∃ v, e = .returned v) ∧ J [] W' := by
  have hnf := func_nil_41
  refine callsIn_of_wp Try.func20 rfl trivial ?_ rfl
  simp only [Try.ntmps20, List.size_toArray, List.length_cons, List.length_nil, Nat.reduceAdd, Nat.reduceSub, Array.replicate_succ, Array.replicate_zero, List.push_toArray, List.append_toArray, List.nil_append, List.cons_append]
  gi_wp2
  gi_loopw [9] (fun i wr => i = .int .i64 0 ∧ J [] wr) (fun _ _ => 0)
  case atStart => exact ⟨rfl, h0⟩
  case round =>
    obtain ⟨rfl, hJs⟩ := hrel
    gi_wp2
    go_end0
    exact ⟨⟨_, rfl⟩, hJs⟩

set_option maxRecDepth 100000 in
set_option maxHeartbeats 2000000 in
theorem where1_in (n l Bs b off cap : Nat) (bs : List Bool) (hreach : bs.length ≤ 9223372036854775807) (J Jx : List Int → World → Prop)
    (hY : ∀ pre x W, J pre W → pre.length < (whereTo bs bs.length).length → YieldAt Fence.wide (n - 1) Try.prog l #[.int .i64 x] W (RoundEnds (KeepsBlk b) J Jx pre x W))
    (W : World) (hBs : W.cell? ⟨Bs, 0, none⟩ = some (.slice (some ⟨b, off, none⟩) bs.length cap)) (hc : ∀ j, j < bs.length → W.cell? ⟨b, off + j, none⟩ = some (.bool (bs[j]?.getD false))) (h0 : J [] W) :
    CallsIn Fence.wide n Try.prog 20 #[.func (.yield l) #[] #[], .pointer (some ⟨Bs, 0, none⟩)] W (SeqEnds J Jx (whereTo bs bs.length)) := by
  have hnf := func_nil_41
  refine callsIn_of_wp Try.func20 rfl trivial ?_ rfl
  simp only [Try.ntmps20, List.size_toArray, List.length_cons, List.length_nil, Nat.reduceAdd, Nat.reduceSub, Array.replicate_succ, Array.replicate_zero, List.push_toArray, List.append_toArray, List.nil_append, List.cons_append]
  gi_wp2
  gi_loopw [9] (fun i wr => ∃ k : Nat, k ≤ bs.length ∧ i = .int .i64 k ∧ J (whereTo bs k) wr ∧ KeepsBlk b W wr)
    (fun i _ => bs.length - (intOf i).toNat)
  case atStart => exact ⟨0, Nat.zero_le _, rfl, h0, KeepsBlk.refl _ _⟩
  case round =>
    obtain ⟨k, hk, rfl, hJs, hnx⟩ := hrel
    by_cases hlt : k < bs.length
    · have hcx : wr.cell? ⟨b, off + k, none⟩ = some (.bool (bs[k]?.getD false)) := (hnx.cell (off + k)).trans (hc k hlt)
      cases hbk : bs[k]?.getD false with
      | true =>
        rw [hbk] at hcx
        obtain ⟨fn, tmps, assign, body, hy, hR⟩ := hY _ (k : Int) wr hJs (whereTo_lt bs hlt hbk)
        have hW := Lib.hid (whereTo_hit hbk)
        clear hbk hc
        gi_wp2_with (refine ⟨wide_depth _, ?_⟩; refine hR.mono ?_; clear hR; rintro e W3 (⟨rfl, hJ3, hk3⟩ | ⟨rfl, hJx3⟩))
        · go_roundw
          case rel => exact ⟨k + 1, by omega, by simp, by rw [hW.out]; exact hJ3, hnx.trans hk3⟩
          case measure => simp [intOf]; omega
        · refine bodyPost_ret (results_none rfl _ _ _) rfl ?_
          exact ⟨⟨_, rfl⟩, .inr ⟨_, whereTo_prefix bs (show k + 1 ≤ bs.length by omega), by rw [hW.out]; exact hJx3⟩⟩
      | false =>
        rw [hbk] at hcx
        have hW := Lib.hid (whereTo_miss hbk)
        clear hbk hc
        gi_wp2
        refine ⟨fun _ h => (by cases h), ?_⟩
        gi_wp2
        go_roundw
        case rel => exact ⟨k + 1, by omega, by simp, by rw [hW.out]; exact hJs, hnx⟩
        case measure => simp [intOf]; omega
    · obtain rfl : k = bs.length := by omega
      gi_wp2
      go_end0
      exact ⟨⟨_, rfl⟩, .inl ⟨_, rfl, hJs⟩⟩

theorem where_stops (n Bs b : Nat) (sv : Value) (bs : List Bool) (hreach : bs.length ≤ 9223372036854775807) (w : World) (hBs : Bs < w.heap.size) (hb : b < w.heap.size)
    (hc : w.cell? ⟨Bs, 0, none⟩ = some sv) (hI : BoolsAt b w sv bs) :
    SeqStopsK Fence.wide n Try.prog 20 #[.pointer (some ⟨Bs, 0, none⟩)] encI (KeepsBlk b) (fun ys => ys = whereTo bs bs.length) (fun pre => pre <+: whereTo bs bs.length) (whereTo bs bs.length).length w := fun l J Jx W hW _ _ hY h0 => by
  have hc' := (hW.cell (p := ⟨Bs, 0, none⟩) hBs).trans hc
  rcases hI.kept (KeepsBlk.of_below hW hb) with ⟨p, cap, rfl, rfl⟩ | ⟨off, cap, rfl, hcs⟩
  · exact (where1_nil_in n l Bs p cap J W hc' h0).mono fun e W' ⟨he, hj⟩ => ⟨he, .inl ⟨_, rfl, hj⟩⟩
  · exact where1_in n l Bs b off cap bs hreach J Jx hY W hc' hcs h0
end Go.Proofs.Ytemallklldebpaa
