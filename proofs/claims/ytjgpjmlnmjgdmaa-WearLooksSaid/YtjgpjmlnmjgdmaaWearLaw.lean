/- potsherdlaw7: all, awake; WearForms' walk. -/
import Derived.Deep.CutBlock
import Derived.Deep.DeepCutAuto
import Derived.Test.YtjgpjmlnmjgdmaaWearLand2
namespace Go.Proofs.Ytjgpjmlnmjgdmaa
open Go.RowKit

/-- A law's end: true; nothing that was there when it began has turned. -/
def Holds (w : World) (e : Ending) (w' : World) : Prop := e = .returned (.bool true) ∧ Below w.heap.size w w'
theorem info_bool : (Try.prog.info? 4).map (fun i => (i.zero, i.size, i.bytes)) = some (some (.bool false), 1, 1) := by kernel_rfl
theorem made_bools (n : Nat) : madeCells #[Value.bool false] n = ((List.replicate n false).map Value.bool).toArray := by
  apply Array.ext
  · simp [madeCells]
  · intro i h1 h2
    simp [madeCells, Nat.mod_one]
theorem make_bools (n : Nat) (h : n ≤ 1000000) (w : World) : (Instr.makeSlice 23 (.int .i64 n) (.int .i64 n)).run Try.prog w = .ok (.slice (some ⟨w.heap.size, 0, none⟩) n n) (w.alloc (.cells (madeCells #[Value.bool false] n) 4)) :=
  run_make_row' 23 4 (.bool false) 1 Try.underlying23 info_bool rfl .i64 .i64 n (by omega) (by omega) w
theorem rowB_arr {α : Type} {enc : α → Value} {w : World} {g : Nat} {l : List α} {t : TypeId} (h : w.heap[g]? = some (.cells (l.map enc).toArray t (0, 0))) : Arr enc w (some ⟨g, 0, none⟩) l := fun _ =>
  ⟨g, 0, rfl, (Array.getElem?_eq_some_iff.1 h).1, fun j hj => by rw [Nat.zero_add]; simp [World.cell?, h, hj]⟩
theorem rowE_set {α : Type} {enc : α → Value} {w : World} {g : Nat} {l : List α} {t : TypeId} (h : w.heap[g]? = some (.cells (l.map enc).toArray t (0, 0))) (k : Nat) (v : α) : (w.setCell ⟨g, k, none⟩ (enc v)).heap[g]? = some (.cells ((l.set k v).map enc).toArray t (0, 0)) := by
  rw [heap_setCell_same w g k _ t _ h]
  simp [List.map_set]
/-- j trues, then noughts. -/
def someB (n j : Nat) : List Bool := List.replicate j true ++ List.replicate (n - j) false
theorem someB_step (n j : Nat) (h : j < n) : (someB n j).set j true = someB n (j + 1) := by
  unfold someB
  apply List.ext_getElem
  · simp; omega
  · intro i h1 h2
    simp only [List.getElem_set, List.getElem_append, List.length_replicate, List.getElem_replicate]
    by_cases hi : i < j
    · rw [if_neg (by omega), dif_pos hi, dif_pos (by omega)]
    · by_cases hj : j = i
      · rw [if_pos hj, dif_pos (by omega)]
      · rw [if_neg hj, dif_neg hi, dif_neg (by omega)]
set_option maxRecDepth 100000 in
set_option maxHeartbeats 1000000 in
theorem all_any (n : Nat) (h : n ≤ 1000000) (w : World) : Calls Try.prog 22 #[.int .i64 n] w fun e w' => ∃ g, e = .returned (.slice (some ⟨g, 0, none⟩) n n) ∧ w'.heap[g]? = some (.cells ((List.replicate n true).map Value.bool).toArray 4 (0, 0)) ∧ w.heap.size ≤ g ∧ Below w.heap.size w w' := by
  have hmk := fun w => make_bools n h w
  have HE := Lib.hid (made_bools n)
  have HX0 := Lib.hid (heap_alloc_new w (.cells (madeCells #[Value.bool false] n) 4))
  have HB0 := Lib.hid ((Below.refl w.heap.size w).alloc (Nat.le_refl _) (.cells (madeCells #[Value.bool false] n) 4))
  go_enter Try.func22, Try.ntmps22
  go_wp2_with fail
  rw [HE.out] at HX0 HB0 ⊢
  obtain ⟨g, hg⟩ : ∃ g, g = w.heap.size := ⟨_, rfl⟩
  have hgw : w.heap.size ≤ g := by omega
  rw [← hg] at HX0 ⊢
  rw [hg] at hgw
  generalize w.alloc (.cells ((List.replicate n false).map Value.bool).toArray 4) = w5 at HX0 HB0 ⊢
  have HG := Lib.hid hg
  clear hg hmk hgw
  go_loopw [9] (fun v wr => ∃ j : Nat, j ≤ n ∧ v = .int .i64 j ∧ wr.heap[g]? = some (.cells ((someB n j).map Value.bool).toArray 4 (0, 0)) ∧ Below w.heap.size w wr) (fun v _ => n - (intOf v).toNat)
  case atStart => exact ⟨0, Nat.zero_le _, rfl, HX0.out, HB0.out⟩
  case round =>
    obtain ⟨j, hj, rfl, hx, hB⟩ := hrel
    have HX := Lib.hid hx
    have HB := Lib.hid hB
    clear hB
    by_cases hj1 : j < n
    · have q1 := row_frozen hx j
      have HXN := Lib.hid (rowE_set hx j true)
      have q0 : wr.cell? ⟨g, j, none⟩ = some (.bool ((someB n j)[j]'(by simp [someB]; omega))) := by
        obtain ⟨B, o, e, _, hc⟩ := rowB_arr hx (by simp [someB]; omega)
        cases e
        have := hc j (by simp [someB]; omega)
        rwa [Nat.zero_add] at this
      clear hx
      go_wp2_with fail
      go_roundw
      case rel => exact ⟨j + 1, by omega, by go_num, by rw [← someB_step n j hj1]; exact HXN.out, HB.out.setCell (p := ⟨g, j, none⟩) (by rw [HG.out]; exact Nat.le_refl _) _⟩
      case measure => simp [intOf]; omega
    · obtain rfl : j = n := by omega
      have e : someB j j = List.replicate j true := by simp [someB]
      rw [e] at HX
      go_wp2_with fail
      go_ret
      exact ⟨g, rfl, HX.out, by rw [HG.out]; exact Nat.le_refl _, HB.out⟩
theorem ia_of {w : World} {g : Nat} {l : List Int} {t : TypeId} (h : w.heap[g]? = some (.cells (l.map (Value.int .i64)).toArray t (0, 0))) : IA w (some ⟨g, 0, none⟩) l := rowB_arr h
theorem aw_lo : loP (([5, 2, 2] : List Int).zip (List.replicate 3 true)) = 2 := by decide
theorem aw_hi : hiP (([5, 2, 2] : List Int).zip (List.replicate 3 true)) = 5 := by decide
theorem aw_due2 : dueP (([5, 2, 2] : List Int).zip (List.replicate 3 true)) 2 = 1 := by decide
theorem aw_due3 : dueP (([5, 2, 2] : List Int).zip (List.replicate 3 true)) 3 = -1 := by decide
theorem aw_hot : hotP (([5, 2, 2] : List Int).zip (List.replicate 3 true)) = 0 := by decide
theorem aw_buck : (bucketsP (([5, 2, 2] : List Int).zip (List.replicate 3 true))).length = 4 := by decide
theorem aw_wf : ∀ x ∈ ([5, 2, 2] : List Int), (Lit.int .i64 x).wf = true := by decide
set_option maxRecDepth 100000 in
set_option maxHeartbeats 4000000 in
theorem awake_any (w : World) : Calls Try.prog 8 #[] w (Holds w) := by
  have HB := Lib.hid ((Below.refl w.heap.size w).alloc (Nat.le_refl _) (.cells #[.int .i64 5, .int .i64 2, .int .i64 2] 3))
  have HL : Hid (IA (w.alloc (.cells #[.int .i64 5, .int .i64 2, .int .i64 2] 3)) (some ⟨w.heap.size, 0, none⟩) [5, 2, 2]) := Lib.hid (rowB_arr (heap_alloc_new w (.cells #[.int .i64 5, .int .i64 2, .int .i64 2] 3)))
  go_enter Try.func8, Try.ntmps8
  go_wp2_with fail
  refine (all_any 3 (by omega) _).mono ?_
  rintro e w1 ⟨g1, rfl, hx1, hg1, hb1⟩
  have HB1 := Lib.hid (HB.out.trans (hb1.mono HB.out.size))
  have HL1 := Lib.hid (HL.out.below hb1)
  go_wp2_with fail
  refine (ends_any (some ⟨w.heap.size, 0, none⟩) (some ⟨g1, 0, none⟩) 3 3 [5, 2, 2] (List.replicate 3 true) w1 (by decide) (by decide) HL1.out (rowB_arr hx1) aw_wf (roomy_some (by decide))).mono ?_
  rintro e w2 ⟨rfl, hb2⟩
  rw [aw_lo, aw_hi]
  have HB2 := Lib.hid (HB1.out.trans (hb2.mono HB1.out.size))
  have HL2 := Lib.hid (HL1.out.below hb2)
  clear hx1 hg1 hb1 hb2 HB HL
  go_wp2_with fail
  refine (all_any 3 (by omega) _).mono ?_
  rintro e w3 ⟨g3, rfl, hx3, hg3, hb3⟩
  have HB3 := Lib.hid (HB2.out.trans (hb3.mono HB2.out.size))
  have HL3 := Lib.hid (HL2.out.below hb3)
  go_wp2_with fail
  refine (due_any (some ⟨w.heap.size, 0, none⟩) (some ⟨g3, 0, none⟩) 3 3 [5, 2, 2] (List.replicate 3 true) w3 (by decide) (by decide) HL3.out (rowB_arr hx3) aw_wf (roomy_some (by decide)) 2 (by decide)).mono ?_
  rintro e w4 ⟨rfl, hb4⟩
  rw [aw_due2]
  have HB4 := Lib.hid (HB3.out.trans (hb4.mono HB3.out.size))
  have HL4 := Lib.hid (HL3.out.below hb4)
  clear hx3 hg3 hb3 hb4 HB1 HL1 HB2 HL2
  go_wp2_with fail
  refine (all_any 3 (by omega) _).mono ?_
  rintro e w5 ⟨g5, rfl, hx5, hg5, hb5⟩
  have HB5 := Lib.hid (HB4.out.trans (hb5.mono HB4.out.size))
  have HL5 := Lib.hid (HL4.out.below hb5)
  go_wp2_with fail
  refine (due_any (some ⟨w.heap.size, 0, none⟩) (some ⟨g5, 0, none⟩) 3 3 [5, 2, 2] (List.replicate 3 true) w5 (by decide) (by decide) HL5.out (rowB_arr hx5) aw_wf (roomy_some (by decide)) 3 (by decide)).mono ?_
  rintro e w6 ⟨rfl, hb6⟩
  rw [aw_due3]
  have HB6 := Lib.hid (HB5.out.trans (hb6.mono HB5.out.size))
  have HL6 := Lib.hid (HL5.out.below hb6)
  clear hx5 hg5 hb5 hb6 HB3 HL3 HB4 HL4
  go_wp2_with fail
  refine (all_any 3 (by omega) _).mono ?_
  rintro e w7 ⟨g7, rfl, hx7, hg7, hb7⟩
  have HB7 := Lib.hid (HB6.out.trans (hb7.mono HB6.out.size))
  have HL7 := Lib.hid (HL6.out.below hb7)
  go_wp2_with fail
  refine (hot_any (some ⟨w.heap.size, 0, none⟩) (some ⟨g7, 0, none⟩) 3 3 [5, 2, 2] (List.replicate 3 true) w7 (by decide) (by decide) HL7.out (rowB_arr hx7) aw_wf (roomy_some (by decide))).mono ?_
  rintro e w8 ⟨rfl, hb8⟩
  rw [aw_hot]
  have HB8 := Lib.hid (HB7.out.trans (hb8.mono HB7.out.size))
  have HL8 := Lib.hid (HL7.out.below hb8)
  clear hx7 hg7 hb7 hb8 HB5 HL5 HB6 HL6
  go_wp2_with fail
  refine (all_any 3 (by omega) _).mono ?_
  rintro e w9 ⟨g9, rfl, hx9, hg9, hb9⟩
  have HB9 := Lib.hid (HB8.out.trans (hb9.mono HB8.out.size))
  have HL9 := Lib.hid (HL8.out.below hb9)
  go_wp2_with fail
  refine (buck_any (some ⟨w.heap.size, 0, none⟩) (some ⟨g9, 0, none⟩) 3 3 [5, 2, 2] (List.replicate 3 true) w9 (by decide) (by decide) HL9.out (rowB_arr hx9) aw_wf (roomy_some (by decide))).mono ?_
  rintro e wa ⟨Aa, ca, rfl, hxa, hga, hba⟩
  rw [aw_buck]
  have HBa := Lib.hid (HB9.out.trans (hba.mono HB9.out.size))
  clear hx9 hg9 hb9 hba hxa hga HB7 HL7 HB8 HL8 HL9
  go_wp2_with fail
  go_ret
  exact ⟨rfl, HBa.out⟩
end Go.Proofs.Ytjgpjmlnmjgdmaa
