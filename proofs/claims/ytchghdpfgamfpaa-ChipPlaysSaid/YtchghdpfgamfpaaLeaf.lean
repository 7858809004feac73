/- The reference's chip: what is to come (Fail, Worn, Cut, Power), is it now, is there such a spot. -/
import Derived.Test.YtchghdpfgamfpaaState
namespace Go.Proofs.Ytchghdpfgamfpaa
open Go.RowKit

def afterS (n : Int) : Int := if n < 0 ∨ 1099511627776 ≤ n then 0 else n + 1
theorem afterS_in (n : Int) : 0 ≤ afterS n ∧ afterS n ≤ 1099511627776 := by unfold afterS; split <;> omega
theorem after_any (n : Int) (w : World) : Calls Try.prog 47 #[.int .i64 n] w fun e w' => e = .returned (.int .i64 (afterS n)) ∧ w = w' := by
  go_enter Try.func47, Try.ntmps47
  go_wp2
  all_goals go_ret
  all_goals refine ⟨ret_int ?_, rfl⟩
  all_goals unfold afterS
  all_goals split <;> omega

/-- What a call on a chip at p tells and leaves. -/
def ChipPost (p q cap : Nat) (g : Nat → Nat) (C : Nat → Prop) (n : Nat) (v : Value) (S' : CS) (w : World) (e : Ending) (w' : World) : Prop :=
  e = .returned v ∧ ChipAt w' p q cap g C S' ∧ Turned (Own p q g C n) w w'
theorem cells10 {w : World} {p : Nat} {a b c d e f g h i j : Value} {t : TypeId} (hh : w.heap[p]? = some (.cells #[a, b, c, d, e, f, g, h, i, j] t (0, 0))) :
    w.cell? ⟨p, 0, none⟩ = some a ∧ w.cell? ⟨p, 1, none⟩ = some b ∧ w.cell? ⟨p, 2, none⟩ = some c ∧ w.cell? ⟨p, 3, none⟩ = some d ∧ w.cell? ⟨p, 4, none⟩ = some e ∧ w.cell? ⟨p, 5, none⟩ = some f ∧ w.cell? ⟨p, 6, none⟩ = some g ∧ w.cell? ⟨p, 7, none⟩ = some h ∧ w.cell? ⟨p, 8, none⟩ = some i ∧ w.cell? ⟨p, 9, none⟩ = some j := by
  simp [World.cell?, hh]
theorem frozen10 {w : World} {p : Nat} {cs : Array Value} {t : TypeId} (h : w.heap[p]? = some (.cells cs t (0, 0))) (j : Nat) : w.frozen? ⟨p, j, none⟩ = false := by
  simp [World.frozen?, h]

section
variable {p q cap : Nat} {g : Nat → Nat} {C : Nat → Prop} {S : CS} {w : World}
theorem fail_ref (n : Int) (h : ChipAt w p q cap g C S) : Calls Try.prog 19 #[.pointer (some ⟨p, 0, none⟩), .int .i64 n] w (ChipPost p q cap g C S.bl.length (.tuple #[]) { S with fails := afterS n } w) := by
  obtain ⟨c0, c1, c2, c3, c4, c5, c6, c7, c8, c9⟩ := cells10 h.self
  have f2 := frozen10 h.self 2
  go_enter Try.func19, Try.ntmps19
  go_wp2_with (go_at_call 47; refine (after_any _ _).mono ?_; rintro e w' ⟨rfl, rfl⟩)
  go_end0
  exact ⟨rfl, h.self_set rfl rfl rfl ⟨(afterS_in n).1, (afterS_in n).2, h.ints.2.2⟩, (Turned.refl _ _).setCell (fun _ => .inl rfl) _⟩
theorem worn_ref (n : Int) (h : ChipAt w p q cap g C S) : Calls Try.prog 21 #[.pointer (some ⟨p, 0, none⟩), .int .i64 n] w (ChipPost p q cap g C S.bl.length (.tuple #[]) { S with worns := afterS n } w) := by
  obtain ⟨c0, c1, c2, c3, c4, c5, c6, c7, c8, c9⟩ := cells10 h.self
  have f2 := frozen10 h.self 3
  go_enter Try.func21, Try.ntmps21
  go_wp2_with (go_at_call 47; refine (after_any _ _).mono ?_; rintro e w' ⟨rfl, rfl⟩)
  go_end0
  exact ⟨rfl, h.self_set rfl rfl rfl ⟨h.ints.1, h.ints.2.1, (afterS_in n).1, (afterS_in n).2, h.ints.2.2.2.2⟩, (Turned.refl _ _).setCell (fun _ => .inl rfl) _⟩
theorem cut_ref (n k : Int) (h : ChipAt w p q cap g C S) : Calls Try.prog 23 #[.pointer (some ⟨p, 0, none⟩), .int .i64 n, .int .i64 k] w (ChipPost p q cap g C S.bl.length (.tuple #[]) { S with cuts := afterS n, keep := max 0 k } w) := by
  obtain ⟨c0, c1, c2, c3, c4, c5, c6, c7, c8, c9⟩ := cells10 h.self
  have f4 := frozen10 h.self 4
  have f5 := frozen10 h.self 5
  have hC := h
  have hm : max (0 : Int) k = 0 ∧ k ≤ 0 ∨ max (0 : Int) k = k ∧ 0 ≤ k := by omega
  have HM := Lib.hid hm
  clear h hm
  go_enter Try.func23, Try.ntmps23
  go_wp2_with (go_at_call 47; refine (after_any _ _).mono ?_; rintro e w' ⟨rfl, rfl⟩)
  all_goals go_end0
  all_goals refine ⟨rfl, ?_, ((Turned.refl _ _).setCell (fun _ => .inl rfl) _).setCell (fun _ => .inl rfl) _⟩
  all_goals refine ChipAt.self_set (S := { S with cuts := afterS n }) (hC.self_set rfl rfl rfl ⟨hC.ints.1, hC.ints.2.1, hC.ints.2.2.1, hC.ints.2.2.2.1, (afterS_in n).1, (afterS_in n).2, hC.ints.2.2.2.2.2.2⟩) rfl rfl ?_ ⟨hC.ints.1, hC.ints.2.1, hC.ints.2.2.1, hC.ints.2.2.2.1, (afterS_in n).1, (afterS_in n).2, ?_⟩
  all_goals have hm := HM.out
  all_goals first | (show 0 ≤ max 0 k; omega) | skip
  all_goals simp only [CS.cells]
  all_goals first | (rw [show max (0 : Int) k = k by omega]; rfl) | (rw [show max (0 : Int) k = 0 by omega]; rfl)
theorem power_ref (h : ChipAt w p q cap g C S) : Calls Try.prog 25 #[.pointer (some ⟨p, 0, none⟩)] w (ChipPost p q cap g C S.bl.length (.tuple #[]) { S with dark := false, cuts := 0 } w) := by
  obtain ⟨c0, c1, c2, c3, c4, c5, c6, c7, c8, c9⟩ := cells10 h.self
  have f4 := frozen10 h.self 4
  have f6 := frozen10 h.self 6
  go_enter Try.func25, Try.ntmps25
  go_wp2
  go_end0
  exact ⟨rfl, ChipAt.self_set (S := { S with dark := false }) (h.self_set rfl rfl rfl h.ints) rfl rfl rfl ⟨h.ints.1, h.ints.2.1, h.ints.2.2.1, h.ints.2.2.2.1, Int.le_refl 0, by show (0 : Int) ≤ _; omega, h.ints.2.2.2.2.2.2⟩, ((Turned.refl _ _).setCell (fun _ => .inl rfl) _).setCell (fun _ => .inl rfl) _⟩
end

/-- Is it now? What it tells, and what is left. -/
def comesS (n : Int) : Bool := n == 1
def leftS (n : Int) : Int := if n = 0 then 0 else n - 1
theorem leftS_in {n : Int} (h0 : 0 ≤ n) (h1 : n ≤ 1099511627776) : 0 ≤ leftS n ∧ leftS n ≤ 1099511627776 := by unfold leftS; split <;> omega
theorem comes_zero (a : Addr) (w : World) (h : w.cell? a = some (.int .i64 0)) : Calls Try.prog 45 #[.pointer (some a)] w fun e w' => e = .returned (.bool false) ∧ w' = w := by
  go_enter Try.func45, Try.ntmps45
  go_wp2
  go_ret
  exact ⟨rfl, rfl⟩
theorem comes_some (a : Addr) (n : Int) (w : World) (h : w.cell? a = some (.int .i64 n)) (hf : w.frozen? a = false) (h0 : 1 ≤ n) (h1 : n ≤ 1099511627776) : Calls Try.prog 45 #[.pointer (some a)] w fun e w' => e = .returned (.bool (comesS n)) ∧ w' = w.setCell a (.int .i64 (leftS n)) := by
  have hne : (n == 0) = false := by simp; omega
  go_enter Try.func45, Try.ntmps45
  go_wp2
  go_ret
  refine ⟨ret_bool ?_, ?_⟩
  · unfold comesS; rw [Bool.eq_iff_iff]; simp; omega
  · unfold leftS; rw [if_neg (by omega)]
end Go.Proofs.Ytchghdpfgamfpaa
