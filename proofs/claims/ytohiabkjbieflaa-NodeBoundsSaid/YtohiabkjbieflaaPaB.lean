/- Package path: May, by which bytes a name has. -/
import Derived.Test.YtohiabkjbieflaaPaA
namespace Go.Proofs.Ytohiabkjbieflaa
open Go.RowKit Go.Lib

theorem let_of (b : UInt8) : letrI (b.toNat : Int) = letB b := by
  unfold letrI letB
  congr 1
  apply propext
  omega
theorem let_high (r : Int) (h : 128 ≤ r) : letrI r = false := decide_eq_false (by omega)
theorem letB_high (b : UInt8) (h : 128 ≤ b.toNat) : letB b = false := decide_eq_false (by omega)

theorem dot_eq (s : ByteArray) (l : List UInt8) : (s.toList == l) = decide (s.data.toList = l) := by
  rw [Lib.toList_data]
  by_cases h : s.data.toList = l
  · rw [decide_eq_true h]; simp [h]
  · rw [decide_eq_false h]; simpa using h

theorem mayL_short {s : ByteArray} (h : (s.size : Int) < 1) : mayL s.data.toList = false := by
  have hsz : s.size = s.data.toList.length := Lib.size_eq s
  unfold mayL; rw [decide_eq_false (by omega)]; rfl
theorem mayL_long {s : ByteArray} (h : (8 : Int) < s.size) : mayL s.data.toList = false := by
  have hsz : s.size = s.data.toList.length := Lib.size_eq s
  unfold mayL; rw [decide_eq_false (by omega)]; rfl
theorem mayL_all {s : ByteArray} (h1 : ¬ (s.size : Int) < 1) (h2 : ¬ (8 : Int) < s.size) (h3 : s.data.toList ≠ [46]) (h4 : s.data.toList ≠ [46, 46]) : mayL s.data.toList = s.data.toList.all letB := by
  have hsz : s.size = s.data.toList.length := Lib.size_eq s
  unfold mayL
  rw [decide_eq_true ⟨by omega, by omega, h3, h4⟩, Bool.true_and]
theorem all_until {s : ByteArray} {pos : Nat} (h : pos < s.size) (hb : letB (s[pos]'h) = false) : s.data.toList.all letB = false := by
  rw [List.all_eq_false]
  refine ⟨s[pos]'h, ?_, by simp [hb]⟩
  rw [Array.mem_toList_iff]
  exact Array.getElem_mem (xs := s.data) h
theorem all_done {s : ByteArray} (h : ∀ i (hi : i < s.size), letB (s[i]'hi) = true) : s.data.toList.all letB = true := by
  rw [List.all_eq_true]
  intro b hb
  obtain ⟨i, hi, rfl⟩ := List.getElem_of_mem hb
  exact h i (by rw [Array.length_toList] at hi; exact hi)
set_option maxRecDepth 100000 in
theorem may_any (s : ByteArray) (w : World) : Calls Try.prog 38 #[.string s] w fun e w' => e = .returned (.bool (mayL s.data.toList)) ∧ Below w.heap.size w w' := by
  by_cases h1 : (s.size : Int) < 1
  · rw [mayL_short h1]
    have d1 : decide ((s.size : Int) < 1) = true := decide_eq_true h1
    go_enter Try.func38, Try.ntmps38
    go_wp2_with fail
    go_ret
    exact ⟨rfl, Below.refl _ _⟩
  have d1 : decide ((s.size : Int) < 1) = false := decide_eq_false h1
  by_cases h2 : (8 : Int) < s.size
  · rw [mayL_long h2]
    have d2 : decide ((8 : Int) < s.size) = true := decide_eq_true h2
    go_enter Try.func38, Try.ntmps38
    go_wp2_with fail
    go_ret
    exact ⟨rfl, Below.refl _ _⟩
  have d2 : decide ((8 : Int) < s.size) = false := decide_eq_false h2
  by_cases h3 : s.data.toList = [46]
  · have e : mayL s.data.toList = false := by rw [h3]; rfl
    rw [e]
    have d3 : (s.toList == [46]) = true := by rw [dot_eq]; exact decide_eq_true h3
    clear h3 e
    go_enter Try.func38, Try.ntmps38
    go_wp2_with fail
    go_ret
    exact ⟨rfl, Below.refl _ _⟩
  have d3 : (s.toList == [46]) = false := by rw [dot_eq]; exact decide_eq_false h3
  by_cases h4 : s.data.toList = [46, 46]
  · have e : mayL s.data.toList = false := by rw [h4]; rfl
    rw [e]
    have d4 : (s.toList == [46, 46]) = true := by rw [dot_eq]; exact decide_eq_true h4
    clear h3 h4 e
    go_enter Try.func38, Try.ntmps38
    go_wp2_with fail
    go_ret
    exact ⟨rfl, Below.refl _ _⟩
  have d4 : (s.toList == [46, 46]) = false := by rw [dot_eq]; exact decide_eq_false h4
  rw [mayL_all h1 h2 h3 h4]
  have hs8 : s.size ≤ 8 := by omega
  obtain ⟨R, hR⟩ : ∃ R, s.data.toList.all letB = R := ⟨_, rfl⟩
  rw [hR]
  replace hR := Lib.hid hR
  clear h3 h4
  go_enter Try.func38, Try.ntmps38
  go_wp2_with fail
  go_loopw [4] (fun _ w' => ∃ pos, w' = w.iter s pos ∧ Hid (∀ i (hi : i < s.size), i < pos → letB (s[i]'hi) = true)) (fun _ w' => s.size - w'.iterPos w.heap.size)
  case atStart => exact ⟨0, rfl, Lib.hid fun i _ h => absurd h (Nat.not_lt_zero i)⟩
  case round =>
    obtain ⟨pos, rfl, HL⟩ := hrel
    by_cases hp : pos < s.size
    · by_cases ha : (s[pos]'hp).toNat < 128
      · have hnx : ∀ ty, (Instr.next (.pointer (some ⟨w.heap.size, 0, none⟩)) true ty).run Try.prog (w.iter s pos) = _ := fun ty => run_next_ascii w s pos ty hp ha
        have hle := let_of (s[pos]'hp)
        obtain ⟨x, hx⟩ : ∃ x, (s[pos]'hp).toNat = x := ⟨_, rfl⟩
        rw [hx] at hnx hle ha
        replace hle := Lib.hid hle
        clear hx
        cases hb : letB (s[pos]'hp) with
        | true =>
          rw [hb] at hle
          go_wp2_with (first
            | (go_at_call 39; (with_reducible refine (letter_low (x : Int) (by omega) (by omega) _).mono ?_); rintro e w1 ⟨rfl, rfl⟩; rw [hle.out])
            | fail)
          go_roundw
          case rel =>
            refine ⟨pos + 1, rfl, Lib.hid fun i hi hlt => ?_⟩
            by_cases e : i = pos
            · subst e; exact hb
            · exact HL.out i hi (by omega)
          case measure =>
            simp
            omega
        | false =>
          rw [hb] at hle
          have hF : R = false := by rw [← hR.out]; exact all_until hp hb
          subst hF
          go_wp2_with (first
            | (go_at_call 39; (with_reducible refine (letter_low (x : Int) (by omega) (by omega) _).mono ?_); rintro e w1 ⟨rfl, rfl⟩; rw [hle.out])
            | fail)
          go_ret
          exact ⟨rfl, (Below.refl _ _).alloc (Nat.le_refl _) _⟩
      · have hnx : ∀ ty, (Instr.next (.pointer (some ⟨w.heap.size, 0, none⟩)) true ty).run Try.prog (w.iter s pos) = _ := fun ty => run_next_any w s pos ty hp
        obtain ⟨hd1, hd2⟩ := decode_high s pos hp (by omega)
        have hd3 := decode_le s pos
        obtain ⟨p, hpd⟩ : ∃ p, Utf8.decode s pos = p := ⟨_, rfl⟩
        rw [hpd] at hnx hd1 hd2 hd3
        have hle := Lib.hid (let_high (p.1 : Int) (by omega))
        have hF : R = false := by rw [← hR.out]; exact all_until hp (letB_high _ (by omega))
        subst hF
        have hb0 : Hid (Below w.heap.size w (w.iter s (pos + p.2))) := Lib.hid ((Below.refl _ _).alloc (Nat.le_refl _) _)
        go_wp2_with (first
          | (go_at_call 39; (with_reducible refine (letter_any _ (by omega) (by omega) _).mono ?_); rintro e w1 ⟨rfl, hb1⟩; rw [hle.out])
          | fail)
        go_ret
        exact ⟨rfl, hb0.out.trans (hb1.mono hb0.out.size)⟩
    · have hnx : ∀ ty, (Instr.next (.pointer (some ⟨w.heap.size, 0, none⟩)) true ty).run Try.prog (w.iter s pos) = _ := fun ty => run_next_end w s pos ty hp
      have hT : R = true := by rw [← hR.out]; exact all_done fun i hi => HL.out i hi (by omega)
      subst hT
      go_wp2_with fail
      go_ret
      exact ⟨rfl, (Below.refl _ _).alloc (Nat.le_refl _) _⟩
end Go.Proofs.Ytohiabkjbieflaa
