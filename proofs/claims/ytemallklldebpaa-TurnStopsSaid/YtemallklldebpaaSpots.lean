/- Spots of package turn: all spots, block by block, page by page, numbered. -/
import Derived.Test.YtemallklldebpaaGather
namespace Go.Proofs.Ytemallklldebpaa
open Go.RowKit Go.Shelf

attribute [local go_sem] Oper.semAt_some

theorem within_yes (x n : Int) (w : World) (h1 : 1 ≤ x) (h2 : x ≤ n) : Calls Try.prog 22 #[.int .i64 x, .int .i64 n] w fun e w' => e = .returned (.bool true) ∧ w = w' :=
  (within_any x n w).mono fun _ _ ⟨he, hw⟩ => ⟨by rw [he, decide_eq_true ⟨h1, h2⟩], hw⟩
theorem within_no (x n : Int) (w : World) (h : ¬ (1 ≤ x ∧ x ≤ n)) : Calls Try.prog 22 #[.int .i64 x, .int .i64 n] w fun e w' => e = .returned (.bool false) ∧ w = w' :=
  (within_any x n w).mono fun _ _ ⟨he, hw⟩ => ⟨by rw [he, decide_eq_false h], hw⟩

/-- Spot number k of a chip of P pages a block. -/
def spotAt (P k : Nat) : Int × Int × Int := ((k : Int), ((k / P : Nat) : Int), ((k % P : Nat) : Int))
def spotsTo (P k : Nat) : List (Int × Int × Int) := (List.range k).map (spotAt P)
theorem spotsTo_succ (P k : Nat) : spotsTo P (k + 1) = spotsTo P k ++ [spotAt P k] := by simp [spotsTo, List.range_succ]
theorem spotsTo_length (P k : Nat) : (spotsTo P k).length = k := by simp [spotsTo]
theorem spotsTo_prefix (P : Nat) {j k : Nat} (h : j ≤ k) : spotsTo P j <+: spotsTo P k := by
  induction k with
  | zero => obtain rfl : j = 0 := by omega
            exact List.prefix_refl _
  | succ k ih =>
    by_cases e : j = k + 1
    · subst e; exact List.prefix_refl _
    · exact (ih (by omega)).trans (by rw [spotsTo_succ]; exact List.prefix_append _ _)
theorem spotAt_eq {P b p : Nat} (h : p < P) : spotAt P (b * P + p) = ((b : Int) * P + p, (b : Int), (p : Int)) := by
  unfold spotAt
  rw [Nat.mul_comm b P, Nat.mul_add_div (by omega), Nat.div_eq_of_lt h, Nat.mul_add_mod, Nat.mod_eq_of_lt h]
  simp [Int.mul_comm]

abbrev encS (x : Int × Int × Int) : Array Value := #[Value.int .i64 x.1, .agg #[.int .i64 x.2.1, .int .i64 x.2.2]]

set_option maxRecDepth 100000 in
set_option maxHeartbeats 1000000 in
theorem spots1_none (n l Bn Bp : Nat) (bb pp : Int) (h : ¬ (1 ≤ bb ∧ bb ≤ 64 ∧ 1 ≤ pp ∧ pp ≤ 32)) (J Jx : List (Int × Int × Int) → World → Prop)
    (W : World) (hc1 : W.cell? ⟨Bn, 0, none⟩ = some (.int .i64 bb)) (hc2 : W.cell? ⟨Bp, 0, none⟩ = some (.int .i64 pp)) (h0 : J [] W) :
    CallsIn Fence.wide n Try.prog 21 #[.func (.yield l) #[] #[], .pointer (some ⟨Bn, 0, none⟩), .pointer (some ⟨Bp, 0, none⟩)] W (SeqEnds J Jx []) := by
  by_cases h1 : 1 ≤ bb ∧ bb ≤ 64
  · have hn : ¬ (1 ≤ pp ∧ pp ≤ 32) := fun h' => h ⟨h1.1, h1.2, h'⟩
    have c1 := within_yes bb 64 W h1.1 h1.2
    have c2 := within_no pp 32 W hn
    clear h h1 hn
    refine callsIn_of_wp Try.func21 rfl trivial ?_ rfl
    simp only [Try.ntmps21, List.size_toArray, List.length_cons, List.length_nil, Nat.reduceAdd, Nat.reduceSub, Array.replicate_succ, Array.replicate_zero, List.push_toArray, List.append_toArray, List.nil_append, List.cons_append]
    gi_wp2_with (first
      | (refine ⟨trivial, wide_depth _, ?_⟩; gi_at_call 22; refine (callsIn_wide.2 c1).mono ?_; clear c1; rintro e w1 ⟨rfl, rfl⟩)
      | (refine ⟨trivial, wide_depth _, ?_⟩; gi_at_call 22; refine (callsIn_wide.2 c2).mono ?_; clear c2; rintro e w1 ⟨rfl, rfl⟩))
    refine bodyPost_ret (results_none rfl _ _ _) rfl ?_
    exact ⟨⟨_, rfl⟩, .inl ⟨[], rfl, h0⟩⟩
  · have c1 := within_no bb 64 W h1
    clear h h1
    refine callsIn_of_wp Try.func21 rfl trivial ?_ rfl
    simp only [Try.ntmps21, List.size_toArray, List.length_cons, List.length_nil, Nat.reduceAdd, Nat.reduceSub, Array.replicate_succ, Array.replicate_zero, List.push_toArray, List.append_toArray, List.nil_append, List.cons_append]
    gi_wp2_with (refine ⟨trivial, wide_depth _, ?_⟩; gi_at_call 22; refine (callsIn_wide.2 c1).mono ?_; clear c1; rintro e w1 ⟨rfl, rfl⟩)
    refine ⟨trivial, ?_⟩
    gi_wp2
    refine bodyPost_ret (results_none rfl _ _ _) rfl ?_
    exact ⟨⟨_, rfl⟩, .inl ⟨[], rfl, h0⟩⟩

set_option maxRecDepth 100000 in
set_option maxHeartbeats 2000000 in
theorem spots1_in (n l Bn Bp B P : Nat) (h1 : 1 ≤ B) (h2 : B ≤ 64) (h3 : 1 ≤ P) (h4 : P ≤ 32) (J Jx : List (Int × Int × Int) → World → Prop)
    (hY : ∀ pre x W, J pre W → pre.length < (spotsTo P (B * P)).length → YieldAt Fence.wide (n - 1) Try.prog l (encS x) W (RoundEnds (KeepsBlk Bp) J Jx pre x W))
    (W : World) (hc1 : W.cell? ⟨Bn, 0, none⟩ = some (.int .i64 B)) (hc2 : W.cell? ⟨Bp, 0, none⟩ = some (.int .i64 P)) (h0 : J [] W) :
    CallsIn Fence.wide n Try.prog 21 #[.func (.yield l) #[] #[], .pointer (some ⟨Bn, 0, none⟩), .pointer (some ⟨Bp, 0, none⟩)] W (SeqEnds J Jx (spotsTo P (B * P))) := by
  have hnf := func_nil_45
  have c1 := within_yes B 64 W (by omega) (by omega)
  have c2 := within_yes P 32 W (by omega) (by omega)
  have hnum : ∀ b p : Nat, b < B → p < P → b * P + p < B * P := fun b p hb hp => by
    have : (b + 1) * P ≤ B * P := Nat.mul_le_mul_right P (by omega)
    rw [Nat.add_mul] at this
    omega
  have Hnum := Lib.hid hnum
  clear hnum
  refine callsIn_of_wp Try.func21 rfl trivial ?_ rfl
  simp only [Try.ntmps21, List.size_toArray, List.length_cons, List.length_nil, Nat.reduceAdd, Nat.reduceSub, Array.replicate_succ, Array.replicate_zero, List.push_toArray, List.append_toArray, List.nil_append, List.cons_append]
  gi_wp2_with (first
      | (refine ⟨trivial, wide_depth _, ?_⟩; gi_at_call 22; refine (callsIn_wide.2 c1).mono ?_; clear c1; rintro e w1 ⟨rfl, rfl⟩)
      | (refine ⟨trivial, wide_depth _, ?_⟩; gi_at_call 22; refine (callsIn_wide.2 c2).mono ?_; clear c2; rintro e w1 ⟨rfl, rfl⟩))
  gi_loopw [19] (fun i wr => ∃ b : Nat, b ≤ B ∧ i = .int .i64 b ∧ J (spotsTo P (b * P)) wr ∧ KeepsBlk Bp W wr)
    (fun i _ => B - (intOf i).toNat)
  case atStart => exact ⟨0, Nat.zero_le _, rfl, by simpa [spotsTo] using h0, KeepsBlk.refl _ _⟩
  case round =>
    obtain ⟨b, hb, rfl, hJs, hnx⟩ := hrel
    by_cases hlt : b < B
    · have hm0 : 0 ≤ (b : Int) * P := Int.mul_nonneg (by omega) (by omega)
      have hm1 : (b : Int) * P ≤ 2016 := by
        have := Int.mul_le_mul (show (b : Int) ≤ 63 by omega) (show (P : Int) ≤ 32 by omega) (by omega) (by omega)
        omega
      have hcp : wr.cell? ⟨Bp, 0, none⟩ = some (.int .i64 P) := (hnx.cell 0).trans hc2
      gi_wp2
      obtain ⟨wo, hwo⟩ : ∃ wo : World, wo = wr := ⟨_, rfl⟩
      subst hwo
      gi_loopw [23] (fun i wr => ∃ p : Nat, p ≤ P ∧ i = .int .i64 p ∧ J (spotsTo P (b * P + p)) wr ∧ KeepsBlk Bp W wr)
        (fun i _ => P - (intOf i).toNat)
      case atStart => exact ⟨0, Nat.zero_le _, rfl, by simpa using hJs, hnx⟩
      case round =>
        obtain ⟨p, hp, rfl, hJp, hnp⟩ := hrel
        have hcq : wr.cell? ⟨Bp, 0, none⟩ = some (.int .i64 P) := (hnp.cell 0).trans hc2
        by_cases hlp : p < P
        · have hlen : (spotsTo P (b * P + p)).length < (spotsTo P (B * P)).length := by
            rw [spotsTo_length, spotsTo_length]; exact Hnum.out b p hlt hlp
          obtain ⟨fn, tmps, assign, body, hy, hR⟩ := hY _ (spotAt P (b * P + p)) wr hJp hlen
          rw [spotAt_eq hlp] at hy hR
          dsimp only [encS] at hy
          gi_wp2_with (refine ⟨wide_depth _, ?_⟩; refine hR.mono ?_; clear hR; rintro e W3 (⟨rfl, hJ3, hk3⟩ | ⟨rfl, hJx3⟩))
          · go_roundw
            case rel => exact ⟨p + 1, by omega, by simp, by rw [← Nat.add_assoc, spotsTo_succ, spotAt_eq hlp]; exact hJ3, hnp.trans hk3⟩
            case measure => simp [intOf]; omega
          · refine bodyPost_ret (results_none rfl _ _ _) rfl ?_
            refine ⟨⟨_, rfl⟩, .inr ⟨_, spotsTo_prefix P (Hnum.out b p hlt hlp), ?_⟩⟩
            rw [spotsTo_succ, spotAt_eq hlp]; exact hJx3
        · obtain rfl : P = p := by omega
          gi_wp2
          go_roundw
          case rel => exact ⟨b + 1, by omega, by simp, by rw [Nat.add_mul, Nat.one_mul]; exact hJp, hnp⟩
          case measure => simp [intOf]; omega
    · obtain rfl : b = B := by omega
      gi_wp2
      go_end0
      exact ⟨⟨_, rfl⟩, .inl ⟨_, rfl, hJs⟩⟩

/-- What Spots gives. -/
def spotsL (bb pp : Int) : List (Int × Int × Int) := if 1 ≤ bb ∧ bb ≤ 64 ∧ 1 ≤ pp ∧ pp ≤ 32 then spotsTo pp.toNat (bb.toNat * pp.toNat) else []

theorem spots_stops (n Bn Bp : Nat) (bb pp : Int) (w : World) (hBn : Bn < w.heap.size) (hBp : Bp < w.heap.size)
    (hc1 : w.cell? ⟨Bn, 0, none⟩ = some (.int .i64 bb)) (hc2 : w.cell? ⟨Bp, 0, none⟩ = some (.int .i64 pp)) :
    SeqStopsK Fence.wide n Try.prog 21 #[.pointer (some ⟨Bn, 0, none⟩), .pointer (some ⟨Bp, 0, none⟩)] encS (KeepsBlk Bp) (fun ys => ys = spotsL bb pp) (fun pre => pre <+: spotsL bb pp) (spotsL bb pp).length w := fun l J Jx W hW _ _ hY h0 => by
  have d1 := (hW.cell (p := ⟨Bn, 0, none⟩) hBn).trans hc1
  have d2 := (hW.cell (p := ⟨Bp, 0, none⟩) hBp).trans hc2
  by_cases h : 1 ≤ bb ∧ bb ≤ 64 ∧ 1 ≤ pp ∧ pp ≤ 32
  · obtain ⟨B, rfl⟩ := Int.eq_ofNat_of_zero_le (show 0 ≤ bb by omega)
    obtain ⟨P, rfl⟩ := Int.eq_ofNat_of_zero_le (show 0 ≤ pp by omega)
    have e : spotsL (B : Int) (P : Int) = spotsTo P (B * P) := by unfold spotsL; rw [if_pos h]; rfl
    rw [e] at hY ⊢
    exact spots1_in n l Bn Bp B P (by omega) (by omega) (by omega) (by omega) J Jx hY W d1 d2 h0
  · have e : spotsL bb pp = [] := by unfold spotsL; rw [if_neg h]
    rw [e]
    exact spots1_none n l Bn Bp bb pp h J Jx W d1 d2 h0
end Go.Proofs.Ytemallklldebpaa
