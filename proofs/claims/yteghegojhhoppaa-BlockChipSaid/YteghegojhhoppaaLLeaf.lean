/- The landed chip: within, behind, Fail, Worn, Cut, Power, Down, Bill, comes. -/
import Derived.Laws.Rows
import Derived.Test.YteghegojhhoppaaLSet
import Derived.Test.YteghegojhhoppaaLeaf
namespace Go.Proofs.Yteghegojhhoppaa
open Go.RowKit

theorem within_any (x n : Int) (w : World) :
    Calls Try.prog 17 #[.int .i64 x, .int .i64 n] w fun e w' => e = .returned (.bool (decide (1 ≤ x ∧ x ≤ n))) ∧ w = w' := by
  go_enter Try.func17, Try.ntmps17
  go_wp2
  · have h : 1 ≤ x := by assumption
    go_ret
    exact ⟨ret_bool (by simp [h]), rfl⟩
  · have h : x < 1 := by assumption
    go_ret
    exact ⟨ret_bool (by simp; omega), rfl⟩

def behindS (n : Int) : Tm := if n < 0 then ⟨false, 0⟩ else ⟨true, n⟩
theorem behindS_in {n : Int} (h : n ≤ 9223372036854775807) : 0 ≤ (behindS n).left ∧ (behindS n).left ≤ 9223372036854775807 := by unfold behindS; split <;> simp <;> omega
section
variable {p q cap : Nat} {g : Nat → Nat} {C : Nat → Prop} {S : LS} {w : World}
/-- What a call on a chip at p tells and leaves. -/
def LPost (p q cap : Nat) (g : Nat → Nat) (C : Nat → Prop) (n : Nat) (v : Value) (S' : LS) (w : World) (e : Ending) (w' : World) : Prop :=
  e = .returned v ∧ LAt w' p q cap g C S' ∧ Turned (Own p q g C n) w w'
end

/-- Is it now? What is left of a timer. -/
def Tm.hit (t : Tm) : Bool := t.set && decide (t.left ≤ 0)
def Tm.tick (t : Tm) : Tm := if t.set = true then (if 0 < t.left then ⟨true, t.left - 1⟩ else ⟨false, 0⟩) else t
theorem Tm.tick_in {t : Tm} (h : 0 ≤ t.left ∧ t.left ≤ 9223372036854775807) : 0 ≤ t.tick.left ∧ t.tick.left ≤ 9223372036854775807 := by
  unfold Tm.tick
  split
  · split
    · exact ⟨by show 0 ≤ t.left - 1; omega, by show t.left - 1 ≤ _; omega⟩
    · exact ⟨Int.le_refl 0, by decide⟩
  · exact h
theorem tm_not {p o : Nat} {t : Tm} {w : World} (h0 : w.cell? ⟨p, o, none⟩ = some (.bool t.set)) (ht : t.set = false) : Calls Try.prog 21 #[.pointer (some ⟨p, o, none⟩)] w fun e w' => e = .returned (.bool false) ∧ w' = w := by
  rw [ht] at h0
  go_enter Try.func21, Try.ntmps21
  go_wp2
  go_ret
  exact ⟨rfl, rfl⟩
theorem tm_left {p o : Nat} {t : Tm} {w : World} (h0 : w.cell? ⟨p, o, none⟩ = some (.bool t.set)) (h1 : w.cell? ⟨p, o + 1, none⟩ = some (.int .i64 t.left)) (hf : w.frozen? ⟨p, o + 1, none⟩ = false) (ht : t.set = true) (hl : 0 < t.left) (hl2 : t.left ≤ 9223372036854775807) : Calls Try.prog 21 #[.pointer (some ⟨p, o, none⟩)] w fun e w' => e = .returned (.bool false) ∧ w' = w.setCell ⟨p, o + 1, none⟩ (.int .i64 (t.left - 1)) := by
  rw [ht] at h0
  go_enter Try.func21, Try.ntmps21
  go_wp2
  go_ret
  exact ⟨rfl, rfl⟩
theorem tm_now {p o : Nat} {t : Tm} {w : World} (h0 : w.cell? ⟨p, o, none⟩ = some (.bool t.set)) (h1 : w.cell? ⟨p, o + 1, none⟩ = some (.int .i64 t.left)) (hg : w.frozen? ⟨p, o, none⟩ = false) (hf : w.frozen? ⟨p, o + 1, none⟩ = false) (ht : t.set = true) (hl : t.left ≤ 0) : Calls Try.prog 21 #[.pointer (some ⟨p, o, none⟩)] w fun e w' => e = .returned (.bool true) ∧ w' = (w.setCell ⟨p, o, none⟩ (.bool false)).setCell ⟨p, o + 1, none⟩ (.int .i64 0) := by
  rw [ht] at h0
  go_enter Try.func21, Try.ntmps21
  go_wp2
  go_ret
  exact ⟨rfl, rfl⟩
section
variable {p q cap : Nat} {g : Nat → Nat} {C : Nat → Prop} {S : LS} {w : World}
theorem comes_f (h : LAt w p q cap g C S) : Calls Try.prog 21 #[.pointer (some ⟨p, 6, none⟩)] w fun e w' => e = .returned (.bool S.f.hit) ∧ LAt w' p q cap g C { S with f := S.f.tick } ∧ Turned (fun b => b = p) w w' := by
  obtain ⟨c0, c1, c2, c3, c4, c5, c6, c7, c8, c9, c10, c11, c12⟩ := cells13 h.self
  have hin := h.ints
  cases hs : S.f.set with
  | false =>
    refine (tm_not (t := S.f) c6 hs).mono ?_
    rintro e w' ⟨rfl, rfl⟩
    have e1 : S.f.tick = S.f := by unfold Tm.tick; rw [hs]; rfl
    rw [e1]
    exact ⟨by unfold Tm.hit; rw [hs]; rfl, h, .refl _ _⟩
  | true =>
    by_cases hl : 0 < S.f.left
    · refine (tm_left (t := S.f) c6 c7 (frozen10 h.self 7) hs hl (by omega)).mono ?_
      rintro e w' ⟨rfl, rfl⟩
      have e1 : S.f.tick = ⟨S.f.set, S.f.left - 1⟩ := by unfold Tm.tick; rw [if_pos hs, if_pos hl, hs]
      have e2 : S.f.hit = false := by unfold Tm.hit; rw [hs]; simp; omega
      rw [e1, e2]
      exact ⟨rfl, h.self_set rfl rfl rfl (by refine ⟨?_, ?_, ?_, ?_, ?_, ?_, ?_⟩ <;> dsimp only <;> omega), (Turned.refl (fun b => b = p) w).setCell (p := ⟨p, _, none⟩) (fun _ => rfl) _⟩
    · refine (tm_now (t := S.f) c6 c7 (frozen10 h.self 6) (frozen10 h.self 7) hs (by omega)).mono ?_
      rintro e w' ⟨rfl, rfl⟩
      have e1 : S.f.tick = ⟨false, 0⟩ := by unfold Tm.tick; rw [if_pos hs, if_neg hl]
      have e2 : S.f.hit = true := by unfold Tm.hit; rw [hs]; simp; omega
      rw [e1, e2]
      exact ⟨rfl, LAt.self_set (S := { S with f := ⟨false, S.f.left⟩ }) (h.self_set rfl rfl rfl h.ints) rfl rfl rfl (by refine ⟨?_, ?_, ?_, ?_, ?_, ?_, ?_⟩ <;> dsimp only <;> omega), ((Turned.refl (fun b => b = p) w).setCell (p := ⟨p, _, none⟩) (fun _ => rfl) _).setCell (p := ⟨p, _, none⟩) (fun _ => rfl) _⟩
theorem comes_w (h : LAt w p q cap g C S) : Calls Try.prog 21 #[.pointer (some ⟨p, 8, none⟩)] w fun e w' => e = .returned (.bool S.w.hit) ∧ LAt w' p q cap g C { S with w := S.w.tick } ∧ Turned (fun b => b = p) w w' := by
  obtain ⟨c0, c1, c2, c3, c4, c5, c6, c7, c8, c9, c10, c11, c12⟩ := cells13 h.self
  have hin := h.ints
  cases hs : S.w.set with
  | false =>
    refine (tm_not (t := S.w) c8 hs).mono ?_
    rintro e w' ⟨rfl, rfl⟩
    have e1 : S.w.tick = S.w := by unfold Tm.tick; rw [hs]; rfl
    rw [e1]
    exact ⟨by unfold Tm.hit; rw [hs]; rfl, h, .refl _ _⟩
  | true =>
    by_cases hl : 0 < S.w.left
    · refine (tm_left (t := S.w) c8 c9 (frozen10 h.self 9) hs hl (by omega)).mono ?_
      rintro e w' ⟨rfl, rfl⟩
      have e1 : S.w.tick = ⟨S.w.set, S.w.left - 1⟩ := by unfold Tm.tick; rw [if_pos hs, if_pos hl, hs]
      have e2 : S.w.hit = false := by unfold Tm.hit; rw [hs]; simp; omega
      rw [e1, e2]
      exact ⟨rfl, h.self_set rfl rfl rfl (by refine ⟨?_, ?_, ?_, ?_, ?_, ?_, ?_⟩ <;> dsimp only <;> omega), (Turned.refl (fun b => b = p) w).setCell (p := ⟨p, _, none⟩) (fun _ => rfl) _⟩
    · refine (tm_now (t := S.w) c8 c9 (frozen10 h.self 8) (frozen10 h.self 9) hs (by omega)).mono ?_
      rintro e w' ⟨rfl, rfl⟩
      have e1 : S.w.tick = ⟨false, 0⟩ := by unfold Tm.tick; rw [if_pos hs, if_neg hl]
      have e2 : S.w.hit = true := by unfold Tm.hit; rw [hs]; simp; omega
      rw [e1, e2]
      exact ⟨rfl, LAt.self_set (S := { S with w := ⟨false, S.w.left⟩ }) (h.self_set rfl rfl rfl h.ints) rfl rfl rfl (by refine ⟨?_, ?_, ?_, ?_, ?_, ?_, ?_⟩ <;> dsimp only <;> omega), ((Turned.refl (fun b => b = p) w).setCell (p := ⟨p, _, none⟩) (fun _ => rfl) _).setCell (p := ⟨p, _, none⟩) (fun _ => rfl) _⟩
theorem comes_c (h : LAt w p q cap g C S) : Calls Try.prog 21 #[.pointer (some ⟨p, 10, none⟩)] w fun e w' => e = .returned (.bool S.c.hit) ∧ LAt w' p q cap g C { S with c := S.c.tick } ∧ Turned (fun b => b = p) w w' := by
  obtain ⟨c0, c1, c2, c3, c4, c5, c6, c7, c8, c9, c10, c11, c12⟩ := cells13 h.self
  have hin := h.ints
  cases hs : S.c.set with
  | false =>
    refine (tm_not (t := S.c) c10 hs).mono ?_
    rintro e w' ⟨rfl, rfl⟩
    have e1 : S.c.tick = S.c := by unfold Tm.tick; rw [hs]; rfl
    rw [e1]
    exact ⟨by unfold Tm.hit; rw [hs]; rfl, h, .refl _ _⟩
  | true =>
    by_cases hl : 0 < S.c.left
    · refine (tm_left (t := S.c) c10 c11 (frozen10 h.self 11) hs hl (by omega)).mono ?_
      rintro e w' ⟨rfl, rfl⟩
      have e1 : S.c.tick = ⟨S.c.set, S.c.left - 1⟩ := by unfold Tm.tick; rw [if_pos hs, if_pos hl, hs]
      have e2 : S.c.hit = false := by unfold Tm.hit; rw [hs]; simp; omega
      rw [e1, e2]
      exact ⟨rfl, h.self_set rfl rfl rfl (by refine ⟨?_, ?_, ?_, ?_, ?_, ?_, ?_⟩ <;> dsimp only <;> omega), (Turned.refl (fun b => b = p) w).setCell (p := ⟨p, _, none⟩) (fun _ => rfl) _⟩
    · refine (tm_now (t := S.c) c10 c11 (frozen10 h.self 10) (frozen10 h.self 11) hs (by omega)).mono ?_
      rintro e w' ⟨rfl, rfl⟩
      have e1 : S.c.tick = ⟨false, 0⟩ := by unfold Tm.tick; rw [if_pos hs, if_neg hl]
      have e2 : S.c.hit = true := by unfold Tm.hit; rw [hs]; simp; omega
      rw [e1, e2]
      exact ⟨rfl, LAt.self_set (S := { S with c := ⟨false, S.c.left⟩ }) (h.self_set rfl rfl rfl h.ints) rfl rfl rfl (by refine ⟨?_, ?_, ?_, ?_, ?_, ?_, ?_⟩ <;> dsimp only <;> omega), ((Turned.refl (fun b => b = p) w).setCell (p := ⟨p, _, none⟩) (fun _ => rfl) _).setCell (p := ⟨p, _, none⟩) (fun _ => rfl) _⟩
end
end Go.Proofs.Yteghegojhhoppaa
