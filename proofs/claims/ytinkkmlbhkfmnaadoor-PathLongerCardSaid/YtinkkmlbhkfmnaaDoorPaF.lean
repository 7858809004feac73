/- The law's awake: paths that every program must know. -/
import Derived.Test.YtinkkmlbhkfmnaaDoorPaE
namespace Go.Proofs.YtinkkmlbhkfmnaaDoor
open Go.RowKit Go.Lib

theorem names_eq {L : List ByteArray} {M : List (List UInt8)} (h : L.map (·.data.toList) = M) : L = M.map fun l => ⟨l.toArray⟩ := by
  subst h
  rw [List.map_map]
  conv => lhs; rw [← List.map_id L]
  refine List.map_congr_left fun x _ => byte_ext (by simp)

abbrev ex1 : ByteArray := ⟨#[47, 97, 47, 98, 46, 99]⟩
theorem ex1_split : splitL ex1.data.toList = some [[97], [98, 46, 99]] := by decide
theorem split_ex1 (w : World) : Calls Tryd.prog 7 #[.string ex1] w fun e w' => ∃ b, e = .returned (.tuple #[.slice (some ⟨b, 0, none⟩) 2 2, .int .i64 0]) ∧ Below w.heap.size w w' ∧ b < w'.heap.size ∧ w'.cell? ⟨b, 1, none⟩ = some (.string ⟨#[98, 46, 99]⟩) := by
  refine (split_two ex1 w).mono ?_
  rintro e w' ⟨A, L, r, rfl, hb, _, hsl, ⟨_, _, _, h⟩ | ⟨rfl, h⟩⟩
  · rw [ex1_split] at h
    cases h
  · rw [ex1_split] at h
    have hL := names_eq (Option.some.inj h).symm
    subst hL
    obtain ⟨b, rfl, _, hlt, hc⟩ := hsl (by simp)
    exact ⟨b, rfl, hb, hlt, hc 1 (by simp)⟩
theorem last_ex1 (w : World) : Calls Tryd.prog 11 #[.string ex1] w fun e w' => e = .returned (.tuple #[.string ⟨#[47, 97]⟩, .string ⟨#[98, 46, 99]⟩, .int .i64 0]) ∧ Below w.heap.size w w' := by
  refine (last_any ex1 w).mono ?_
  rintro e w' ⟨x, y, r, rfl, hb, ⟨_, h⟩ | ⟨_, h⟩ | ⟨rfl, L, rfl, h⟩⟩
  · rw [ex1_split] at h; cases h
  · rw [ex1_split] at h; cases h
  · rw [ex1_split] at h
    have hL := names_eq (Option.some.inj h).symm
    have e2 : L = [⟨#[97]⟩] ∧ y = ⟨#[98, 46, 99]⟩ := by
      have := List.append_inj' (t₁ := [y]) (t₂ := [(⟨#[98, 46, 99]⟩ : ByteArray)]) (s₂ := [(⟨#[97]⟩ : ByteArray)]) hL rfl
      exact ⟨this.1, by simpa using this.2⟩
    obtain ⟨rfl, rfl⟩ := e2
    exact ⟨rfl, hb⟩
theorem split_ex2 (w : World) : Calls Tryd.prog 7 #[.string ⟨#[47, 97, 47]⟩] w fun e w' => e = .returned (.tuple #[.slice none 0 0, .int .i64 7]) ∧ Below w.heap.size w w' := by
  refine (split_two ⟨#[47, 97, 47]⟩ w).mono ?_
  have hN : splitL (⟨#[47, 97, 47]⟩ : ByteArray).data.toList = none := by decide
  rintro e w' ⟨A, L, r, rfl, hb, _, _, ⟨rfl, rfl, rfl, _⟩ | ⟨rfl, h⟩⟩
  · exact ⟨rfl, hb⟩
  · rw [hN] at h; cases h

set_option maxRecDepth 100000 in
theorem awake_any (w : World) : Calls Tryd.prog 6 #[] w fun e w' => e = .returned (.bool true) ∧ Below w.heap.size w w' := by
  have hj : ∀ w, Calls Tryd.prog 9 #[.slice none 0 0] w fun e w' => e = .returned (.string ⟨#[47]⟩) ∧ Below w.heap.size w w' := fun w => join_any none 0 0 [] w (fun h => absurd rfl h) (by simp)
  have hm := fun w => may_any ⟨#[46, 46]⟩ w
  rw [show mayL (⟨#[46, 46]⟩ : ByteArray).data.toList = false from rfl] at hm
  go_enter Tryd.func6, Tryd.ntmps6
  go_upto_region 4 with (first
    | (go_at_call 7; (with_reducible refine (split_ex1 _).mono ?_); rintro e w1 ⟨b, rfl, hb1, hl1, hc1⟩; replace hb1 := Lib.hid hb1)
    | (go_at_call 11; (with_reducible refine (last_ex1 _).mono ?_); rintro e w2 ⟨rfl, hb2⟩; replace hb2 := Lib.hid hb2)
    | (go_at_call 7; (with_reducible refine (split_ex2 _).mono ?_); rintro e w3 ⟨rfl, hb3⟩; replace hb3 := Lib.hid hb3)
    | fail)
  have hc3 : w3.cell? ⟨b, 1, none⟩ = some (.string ⟨#[98, 46, 99]⟩) := by
    refine (hb3.out.cell (p := ⟨b, 1, none⟩) (Nat.lt_of_lt_of_le hl1 hb2.out.size)).trans ((hb2.out.cell (p := ⟨b, 1, none⟩) hl1).trans hc1)
  have hb13 : Hid (Below w.heap.size w w3) := Lib.hid (hb1.out.trans ((hb2.out.mono hb1.out.size).trans (hb3.out.mono (hb1.out.trans (hb2.out.mono hb1.out.size)).size)))
  go_wp2_with (first
    | (go_at_call 9; (with_reducible refine (hj _).mono ?_); rintro e w4 ⟨rfl, hb4⟩; replace hb4 := Lib.hid hb4)
    | (go_at_call 8; (with_reducible refine (hm _).mono ?_); rintro e w5 ⟨rfl, hb5⟩; replace hb5 := Lib.hid hb5)
    | fail)
  go_ret
  have h4 := hb13.out.trans (hb4.out.mono hb13.out.size)
  exact ⟨rfl, h4.trans (hb5.out.mono h4.size)⟩
end Go.Proofs.YtinkkmlbhkfmnaaDoor
