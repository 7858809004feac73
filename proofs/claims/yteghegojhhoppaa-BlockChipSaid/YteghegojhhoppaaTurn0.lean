/- Turn(n, 0) as others range over it: what it gives are numbers below n, one by one: 0, 1, .., n - 1. -/
import Derived.Test.YteghegojhhoppaaTurn
namespace Go.Proofs.Yteghegojhhoppaa
open Go.RowKit Go.Shelf

attribute [local go_sem] Oper.semAt_some

theorem fin_take {N k : Nat} (h : k < N) : (List.finRange N).take (k + 1) = (List.finRange N).take k ++ [⟨k, h⟩] := by
  rw [List.take_add_one, List.getElem?_eq_getElem (by simpa using h)]
  simp
theorem fin_all (N : Nat) : (List.finRange N).take N = List.finRange N := List.take_of_length_le (by simp)

theorem fin_snoc {N : Nat} {pre : List (Fin N)} {x : Fin N} (h : pre ++ [x] <+: List.finRange N) : pre = (List.finRange N).take x.val := by
  have hl := h.length_le
  rw [List.length_append] at hl
  simp at hl
  have e := List.prefix_iff_eq_take.1 h
  rw [List.length_append, List.length_singleton, fin_take (by omega)] at e
  obtain ⟨e1, e2⟩ := List.append_inj e (by rw [List.length_take]; simp; omega)
  have : x.val = pre.length := by injection e2 with e2 _; rw [e2]
  rw [this]; exact e1
theorem fin_mem_take {N k : Nat} {y : Fin N} (h : y.val < k) : y ∈ (List.finRange N).take k := by
  rw [List.mem_iff_getElem?]
  exact ⟨y.val, by rw [List.getElem?_take, if_pos h, List.getElem?_eq_getElem (by simp)]; simp⟩
section
variable {N : Nat}
set_option maxRecDepth 100000 in
set_option maxHeartbeats 1000000 in
theorem run_fin (Kp : World → World → Prop) (n l : Nat) (hN : N ≤ 9223372036854775807) (J Jx : List (Fin N) → World → Prop)
    (hY : ∀ m pre (x : Fin N) W, J pre W → pre.length < N → YieldAt Fence.wide m Try.prog l #[.int .i64 (x.val : Int)] W (RoundEnds Kp J Jx pre x W))
    (W : World) (h0 : J [] W) :
    CallsIn Fence.wide n Try.prog 28 #[.int .i64 0, .int .i64 N, .func (.yield l) #[] #[]] W (fun e W' => (e = .returned (.bool true) ∧ J (List.finRange N) W') ∨ (e = .returned (.bool false) ∧ ∃ q, q <+: List.finRange N ∧ Jx q W')) := by
  refine callsIn_of_wp Try.func28 rfl trivial ?_ rfl
  simp only [Try.ntmps28, List.size_toArray, List.length_cons, List.length_nil, Nat.reduceAdd, Nat.reduceSub, Array.replicate_succ, Array.replicate_zero, List.push_toArray, List.append_toArray, List.nil_append, List.cons_append]
  gi_wp2
  gi_loopw [7] (fun i wr => ∃ k : Nat, k ≤ N ∧ i = .int .i64 (k : Int) ∧ J ((List.finRange N).take k) wr)
    (fun i _ => N - (intOf i).toNat)
  case atStart => exact ⟨0, Nat.zero_le _, by simp, by simpa using h0⟩
  case round =>
    obtain ⟨k, hk, rfl, hJs⟩ := hrel
    by_cases hlt : k < N
    · obtain ⟨fn, tmps, assign, body, hy, hR⟩ := hY (n - 1) _ ⟨k, hlt⟩ wr hJs (by rw [List.length_take]; simp; omega)
      gi_wp2_with fail
      refine ⟨wide_depth _, hR.mono ?_⟩
      rintro e W3 (⟨rfl, hJ3, hk3⟩ | ⟨rfl, hJx3⟩)
      · gi_wp2
        go_roundw
        case rel => exact ⟨k + 1, by omega, by simp, by rw [fin_take hlt]; exact hJ3⟩
        case measure => simp [intOf]; omega
      · gi_wp2
        go_ret
        exact .inr ⟨rfl, (List.finRange N).take (k + 1), List.take_prefix _ _, by rw [fin_take hlt]; exact hJx3⟩
    · obtain rfl : k = N := by omega
      gi_wp2
      go_ret
      exact .inl ⟨rfl, by rw [fin_all] at hJs; exact hJs⟩
theorem run_none (n : Nat) (v : Value) (W : World) : CallsIn Fence.wide n Try.prog 28 #[.int .i64 0, .int .i64 0, v] W (fun e W' => e = .returned (.bool true) ∧ W' = W) := by
  refine callsIn_of_wp Try.func28 rfl trivial ?_ rfl
  simp only [Try.ntmps28, List.size_toArray, List.length_cons, List.length_nil, Nat.reduceAdd, Nat.reduceSub, Array.replicate_succ, Array.replicate_zero, List.push_toArray, List.append_toArray, List.nil_append, List.cons_append]
  gi_wp2
  gi_loopw [7] (fun i wr => i = .int .i64 0 ∧ wr = W) (fun _ _ => 0)
  case atStart => exact ⟨rfl, rfl⟩
  case round =>
    obtain ⟨rfl, rfl⟩ := hrel
    gi_wp2
    go_ret
    exact ⟨rfl, rfl⟩
set_option maxRecDepth 100000 in
set_option maxHeartbeats 2000000 in
theorem turn_fin (Kp : World → World → Prop) (n l Bn Bf : Nat) (hN : N ≤ 9223372036854775807) (h1 : 1 ≤ N) (J Jx : List (Fin N) → World → Prop)
    (hY : ∀ m pre (x : Fin N) W, J pre W → pre.length < N → YieldAt Fence.wide m Try.prog l #[.int .i64 (x.val : Int)] W (RoundEnds Kp J Jx pre x W))
    (W : World) (hc1 : W.cell? ⟨Bn, 0, none⟩ = some (.int .i64 N)) (hc2 : W.cell? ⟨Bf, 0, none⟩ = some (.int .i64 0)) (h0 : J [] W) :
    CallsIn Fence.wide n Try.prog 26 #[.func (.yield l) #[] #[], .pointer (some ⟨Bn, 0, none⟩), .pointer (some ⟨Bf, 0, none⟩)] W (SeqEnds J Jx (List.finRange N)) := by
  have hmod := (modulo_any 0 (N : Int) W (by omega) (by omega)).mono (R' := fun e w' => e = .returned (.int .i64 0) ∧ W = w') (fun e w' h => by rw [Int.zero_emod] at h; exact h)
  have h1n : ¬ (N : Int) < 1 := by omega
  refine callsIn_of_wp Try.func26 rfl trivial ?_ rfl
  simp only [Try.ntmps26, List.size_toArray, List.length_cons, List.length_nil, Nat.reduceAdd, Nat.reduceSub, Array.replicate_succ, Array.replicate_zero, List.push_toArray, List.append_toArray, List.nil_append, List.cons_append]
  have hnf := func_nil
  have hr1 := run_fin Kp (n - 1) l hN J Jx hY W h0
  have hr2 := fun w1 => run_none (n - 1) (.func (.yield l) #[] #[]) w1
  gi_wp2_with (first
    | (refine ⟨trivial, wide_depth _, ?_⟩; gi_at_call 27; refine (callsIn_wide.2 hmod).mono ?_; clear hmod; rintro e w1 ⟨rfl, rfl⟩)
    | (refine ⟨trivial, wide_depth _, ?_⟩; gi_at_call 28; refine hr1.mono ?_; clear hr1; rintro e w1 (⟨rfl, hJ1⟩ | ⟨rfl, q, hq, hx⟩))
    | (refine ⟨trivial, wide_depth _, ?_⟩; gi_at_call 28; refine (hr2 _).mono ?_; clear hr2; rintro e w2 ⟨rfl, rfl⟩))
  · go_end0
    exact ⟨⟨_, rfl⟩, .inl ⟨_, rfl, hJ1⟩⟩
  · go_end0
    exact ⟨⟨_, rfl⟩, .inr ⟨_, hq, hx⟩⟩
/-- The numbers as values. -/
abbrev encF (x : Fin N) : Array Value := #[Value.int .i64 (x.val : Int)]
theorem turn_fin_stops (Kp : World → World → Prop) (n Bn Bf : Nat) (hN : N ≤ 9223372036854775807) (h1 : 1 ≤ N) (w : World) (hBn : Boxed w Bn 3 (.int .i64 (N : Int))) (hBf : Boxed w Bf 3 (.int .i64 0)) :
    SeqStopsK Fence.wide n Try.prog 26 #[.pointer (some ⟨Bn, 0, none⟩), .pointer (some ⟨Bf, 0, none⟩)] encF Kp (fun ys => ys = List.finRange N) (fun pre => pre <+: List.finRange N) N w := fun l J Jx W hW _ _ hY h0 =>
  turn_fin Kp n l Bn Bf hN h1 J Jx (fun m' pre x W hj hl => YieldAt_any rfl m' (hY pre x W hj hl)) W ((hW.cell (p := ⟨Bn, 0, none⟩) hBn.lt).trans hBn.cell) ((hW.cell (p := ⟨Bf, 0, none⟩) hBf.lt).trans hBf.cell) h0
end
end Go.Proofs.Yteghegojhhoppaa
