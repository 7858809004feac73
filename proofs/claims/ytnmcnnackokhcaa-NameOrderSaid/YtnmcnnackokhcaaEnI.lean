/- The law's awake: entries that every program must know. -/
import Derived.Test.YtnmcnnackokhcaaEnF
import Derived.Test.YtnmcnnackokhcaaEnD
import Derived.Test.YtnmcnnackokhcaaEnN
namespace Go.Proofs.Ytnmcnnackokhcaa
open Go.RowKit Go.Lib

abbrev tA : ByteArray := ⟨#[97]⟩
abbrev tB : ByteArray := ⟨#[98]⟩
abbrev tC : ByteArray := ⟨#[99]⟩
theorem aw_1 : withE [] tB 2 = ([(tB, 2)], 0) := by decide
theorem aw_2 : withE [(tB, 2)] tA 1 = ([(tA, 1), (tB, 2)], 0) := by decide
theorem aw1 (w : World) : Calls Try.prog 9 #[.slice none 0 0, .string tB, .int .i64 2] w fun e w' => ∃ A c, e = .returned (.tuple #[.slice A 1 c, .int .i64 0]) ∧ ELies w' A [(tB, 2)] ∧ (A = none → False) ∧ 1 ≤ c ∧ Below w.heap.size w w' := by
  refine (with_any none 0 [] tB 2 w (.nil _ _) (fun _ => ⟨rfl, rfl⟩) (Nat.le_refl _)).mono ?_
  rw [aw_1]
  rintro e w' ⟨A, c, rfl, h1, -, h3, h4, h5⟩
  exact ⟨A, c, rfl, h1, fun e => by simpa using (h3 e).1, h4, h5⟩
theorem aw2 (A : Option Addr) (c : Nat) (w : World) (h : ELies w A [(tB, 2)]) (hn : A = none → False) (hc : 1 ≤ c) : Calls Try.prog 9 #[.slice A 1 c, .string tA, .int .i64 1] w fun e w' => ∃ A c, e = .returned (.tuple #[.slice A 2 c, .int .i64 0]) ∧ ELies w' A [(tA, 1), (tB, 2)] ∧ Below w.heap.size w w' := by
  refine (with_any A c [(tB, 2)] tA 1 w h (fun e => (hn e).elim) hc).mono ?_
  rw [aw_2]
  rintro e w' ⟨A, c, rfl, h1, -, h3, h4, h5⟩
  exact ⟨A, c, rfl, h1, h5⟩
theorem aw3 (A : Option Addr) (c : Nat) (w : World) (h : ELies w A [(tA, 1), (tB, 2)]) : Calls Try.prog 13 #[.slice A 2 c] w fun e w' => ∃ b o c', e = .returned (.slice (some ⟨b, o, none⟩) 2 c') ∧ b < w'.heap.size ∧ w'.cell? ⟨b, o, none⟩ = some (.string tA) ∧ Below w.heap.size w w' := by
  refine (names_any A c [(tA, 1), (tB, 2)] w h (by simp)).mono ?_
  rintro e w' ⟨A', c', rfl, h1, -, h3⟩
  obtain ⟨b, o, rfl, hb, hc⟩ := h1 (by simp)
  exact ⟨b, o, c', rfl, hb, by simpa using hc 0 (by simp), h3⟩
theorem aw4 (A : Option Addr) (c : Nat) (w : World) (h : ELies w A [(tA, 1), (tB, 2)]) : Calls Try.prog 17 #[.slice A 2 c, .string tB] w fun e w' => e = .returned (.int .i64 2) ∧ Below w.heap.size w w' :=
  (find_any A c [(tA, 1), (tB, 2)] tB w h (by simp [maxLen])).mono fun e w' h => ⟨by rw [h.1, show findE [(tA, 1), (tB, 2)] tB = 2 by decide], h.2⟩
theorem aw5 (A : Option Addr) (c : Nat) (w : World) (h : ELies w A [(tA, 1), (tB, 2)]) : Calls Try.prog 17 #[.slice A 2 c, .string tC] w fun e w' => e = .returned (.int .i64 (-1)) ∧ Below w.heap.size w w' :=
  (find_any A c [(tA, 1), (tB, 2)] tC w h (by simp [maxLen])).mono fun e w' h => ⟨by rw [h.1, show findE [(tA, 1), (tB, 2)] tC = -1 by decide], h.2⟩
theorem aw6 (A : Option Addr) (c : Nat) (w : World) (h : ELies w A [(tA, 1), (tB, 2)]) : Calls Try.prog 15 #[.slice A 2 c] w fun e w' => e = .returned (.bool true) ∧ Below w.heap.size w w' :=
  (mays_any A c [(tA, 1), (tB, 2)] w h).mono fun e w' h => ⟨by rw [h.1, show mayEs [(tA, 1), (tB, 2)] = true by decide], h.2⟩
set_option maxRecDepth 100000 in
set_option maxHeartbeats 2000000 in
theorem awake_any (w : World) : Calls Try.prog 8 #[] w fun e w' => e = .returned (.bool true) ∧ Below w.heap.size w w' := by
  have hA : (tA.toList == [97]) = true := by rw [Lib.toList_data]; rfl
  go_enter Try.func8, Try.ntmps8
  go_wp2_with (first
    | (go_at_call 9; (with_reducible refine (aw1 _).mono ?_); rintro e w1 ⟨A1, c1, rfl, hl1, hn1, hc1, hb1⟩; replace hl1 := Lib.hid hl1; replace hn1 := Lib.hid hn1; replace hb1 := Lib.hid hb1; have HC1 := Lib.hid hc1; clear hc1)
    | (go_at_call 9; (with_reducible refine (aw2 _ _ _ hl1.out hn1.out HC1.out).mono ?_); rintro e w2 ⟨A2, c2, rfl, hl2, hb2⟩; replace hl2 := Lib.hid hl2; replace hb2 := Lib.hid (hb1.out.trans (hb2.mono hb1.out.size)))
    | (go_at_call 13; (with_reducible refine (aw3 _ _ _ hl2.out).mono ?_); rintro e w3 ⟨b, o, c3, rfl, hbl, hcl, hb3⟩; have hl3 := Lib.hid (hl2.out.below hb3); replace hb3 := Lib.hid (hb2.out.trans (hb3.mono hb2.out.size)); have HBL := Lib.hid hbl; clear hbl)
    | (go_at_call 17; (with_reducible refine (aw4 _ _ _ hl3.out).mono ?_); rintro e w4 ⟨rfl, hb4⟩; have hl4 := Lib.hid (hl3.out.below hb4); replace hb4 := Lib.hid (hb3.out.trans (hb4.mono hb3.out.size)))
    | (go_at_call 15; (with_reducible refine (aw6 _ _ _ hl4.out).mono ?_); rintro e w5 ⟨rfl, hb5⟩; have hl5 := Lib.hid (hl4.out.below hb5); replace hb5 := Lib.hid (hb4.out.trans (hb5.mono hb4.out.size)))
    | (go_at_call 17; (with_reducible refine (aw5 _ _ _ hl5.out).mono ?_); rintro e w6 ⟨rfl, hb6⟩; replace hb6 := Lib.hid (hb5.out.trans (hb6.mono hb5.out.size)))
    | fail)
  go_ret
  exact ⟨rfl, hb6.out⟩
end Go.Proofs.Ytnmcnnackokhcaa
