/- Package path: Last. -/
import Derived.Test.YtinkkmlbhkfmnaaDoorPaD
import Derived.Deep.RegionHeld3
import Derived.Deep.Cut
namespace Go.Proofs.YtinkkmlbhkfmnaaDoor
open Go.RowKit Go.Lib

def Split2 (s : ByteArray) (w : World) (e : Ending) (w' : World) : Prop :=
  ∃ (A : Option Addr) (L : List ByteArray) (r : Int), e = .returned (.tuple #[.slice A L.length L.length, .int .i64 r]) ∧ Below w.heap.size w w' ∧ L.length ≤ 61 ∧ SL w' w.heap.size A L ∧ (r = 7 ∧ L = [] ∧ A = none ∧ splitL s.data.toList = none ∨ r = 0 ∧ splitL s.data.toList = some (L.map (·.data.toList)))
theorem pcs_length : ∀ l : List UInt8, (pcs l).length ≤ l.length + 1
  | [] => by simp [pcs]
  | b :: l => by
    have ih := pcs_length l
    by_cases h : b = 47
    · subst h
      rw [pcs_slash]
      simp
      omega
    · cases e : pcs l with
      | nil => exact absurd e (pcs_ne l)
      | cons p t =>
        rw [pcs_cons b l h e]
        rw [e] at ih
        simp at ih ⊢
        omega
theorem split_two (s : ByteArray) (w : World) : Calls Tryd.prog 7 #[.string s] w (Split2 s w) := by
  refine (split_any s w).mono ?_
  rintro e w' ⟨hb, ⟨hN, rfl⟩ | ⟨A, L, hS, rfl, hsl⟩⟩
  · exact ⟨none, [], 7, rfl, hb, by simp, fun h => absurd rfl h, .inl ⟨rfl, rfl, rfl, hN⟩⟩
  · refine ⟨A, L, 0, rfl, hb, ?_, hsl, .inr ⟨rfl, hS⟩⟩
    have hl : (L.map (·.data.toList)).length = L.length := by simp
    obtain ⟨h60, ⟨_, e⟩ | ⟨t, e1, _, e2, _⟩⟩ := splitL_some hS
    · rw [e] at hl
      simp at hl
      omega
    · have := pcs_length t
      rw [← e2, hl] at this
      rw [e1] at h60
      simp at h60
      omega

def LastPost (s : ByteArray) (w : World) (e : Ending) (w' : World) : Prop :=
  ∃ (x y : ByteArray) (r : Int), e = .returned (.tuple #[.string x, .string y, .int .i64 r]) ∧ Below w.heap.size w w' ∧ (r = 7 ∧ splitL s.data.toList = none ∨ r = 18 ∧ splitL s.data.toList = some [] ∨ r = 0 ∧ ∃ L, x = joinB L ∧ splitL s.data.toList = some ((L ++ [y]).map (·.data.toList)))

theorem sl_less {w : World} {lo : Nat} {A : Option Addr} {L : List ByteArray} {y : ByteArray} (h : SL w lo A (L ++ [y])) : SL w lo A L := fun _ => by
  obtain ⟨b, e, h1, h2, h3⟩ := h (by simp)
  refine ⟨b, e, h1, h2, fun j hj => ?_⟩
  have := h3 j (by simp; omega)
  rw [List.getElem_append_left hj] at this
  exact this

set_option maxRecDepth 100000 in
theorem last_any (s : ByteArray) (w : World) : Calls Tryd.prog 11 #[.string s] w (LastPost s w) := by
  have hsp := split_two s
  go_enter Tryd.func11, Tryd.ntmps11
  go_upto_region 2 with (first
    | (go_at_call 7; (with_reducible refine (hsp _).mono ?_); rintro e w1 ⟨A, L, r, rfl, hb1, hl61, hsl, hcase⟩; replace hcase := Lib.hid hcase; replace hsl := Lib.hid hsl; replace hb1 := Lib.hid hb1)
    | fail)
  rcases hcase.out with ⟨rfl, rfl, rfl, hN⟩ | ⟨rfl, hS⟩
  · clear hsp
    go_wp2_with fail
    refine bodyPost_ret (by simp [results, Tryd.results11, go_sem]; try rfl) rfl ?_
    exact ⟨_, _, _, rfl, hb1.out, .inl ⟨rfl, hN⟩⟩
  · by_cases h0 : L = []
    · subst h0
      clear hsp
      replace hS := Lib.hid hS
      go_wp2_with fail
      refine bodyPost_ret (by simp [results, Tryd.results11, go_sem]; try rfl) rfl ?_
      exact ⟨_, _, _, rfl, hb1.out, .inr (.inl ⟨rfl, hS.out⟩)⟩
    · obtain ⟨M, y, hLy⟩ : ∃ M y, L = M ++ [y] := ⟨L.dropLast, L.getLast h0, (List.dropLast_concat_getLast h0).symm⟩
      subst hLy
      have hS2 := Lib.hid hS
      clear hsp hcase hS h0
      have hlM : (M ++ [y]).length = M.length + 1 := by simp
      rw [hlM] at hl61
      simp only [hlM]
      obtain ⟨b, rfl, hb2, hb3, hcell⟩ := hsl.out (by simp)
      have hcy : w1.cell? ⟨b, M.length, none⟩ = some (.string y) := by
        have := hcell M.length (by simp)
        simpa using this
      have hslM : Hid (SL w1 w.heap.size (some ⟨b, 0, none⟩) M) := Lib.hid (sl_less hsl.out)
      clear hcell hlM
      have hn0 : ¬ ((M.length : Int) + 1 = 0) := by omega
      have i0 : (0 : Int) ≤ (M.length : Int) := by omega
      have i1 : (M.length : Int) ≤ (M.length : Int) + 1 := by omega
      have i2 : (M.length : Int) < (M.length : Int) + 1 := by omega
      go_upto_region 7 with fail
      have hS0 : Hid (∀ V, Below w1.heap.size w1 V → V.cell? ⟨b, M.length, none⟩ = some (.string y)) := Lib.hid fun V hV => (hV.cell (p := ⟨b, M.length, none⟩) hb3).trans hcy
      go_region_held3 (fun V => V.cell? ⟨b, M.length, none⟩ = some (.string y))
        (first | assumption | (refine hS0.out _ ?_; (repeat (first | exact Below.refl _ _ | refine Below.drew ?_)); done))
        (first
          | (go_at_call 9; refine (join_any _ _ w.heap.size M _ (hslM.out.below (Below.refl _ _).drew) (by omega)).mono ?_; rintro e w2 ⟨rfl, hb4⟩; have hb5 : Below w1.heap.size w1 w2 := (Below.refl _ _).drew.trans hb4; have hcy2 : w2.cell? ⟨b, M.length, none⟩ = some (.string y) := hS0.out _ hb5; replace hb5 := Lib.hid hb5; clear hb4)
          | fail)
      all_goals
        go_wp2_with fail
        refine bodyPost_ret (by simp [results, Tryd.results11, go_sem]; try rfl) rfl ?_
        exact ⟨_, _, _, rfl, hb1.out.trans (hb5.out.mono hb1.out.size), .inr (.inr ⟨rfl, M, rfl, hS2.out⟩)⟩
end Go.Proofs.YtinkkmlbhkfmnaaDoor
