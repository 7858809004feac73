/- The landed Same, Empty, within (written by mknl.py). -/
import Derived.Test.YtohiabkjbieflaaNdQ
namespace Go.Proofs.Ytohiabkjbieflaa
open Go.RowKit Go.Lib

theorem nwithin_any (a b c : Int) (w : World) : Calls Try.prog 24 #[.int .i64 a, .int .i64 b, .int .i64 c] w fun e w' => e = .returned (.bool (decide (b ≤ a ∧ a ≤ c))) ∧ w = w' := by
  go_enter Try.func24, Try.ntmps24
  go_wp2
  · have h : b ≤ a := by assumption
    go_ret
    exact ⟨ret_bool (by simp [h]), rfl⟩
  · have h : a < b := by assumption
    go_ret
    exact ⟨ret_bool (by simp; omega), rfl⟩
set_option maxRecDepth 100000 in
set_option maxHeartbeats 4000000 in
theorem samel_any (n m : Nd) (A B A' B' : Option Addr) (c d c' d' : Nat) (w : World) (h : NLies w n A B c d) (h' : NLies w m A' B' c' d') : Calls Try.prog 14 #[ndV n A B c d, ndV m A' B' c' d'] w fun x w' => x = .returned (.bool (sameN n m)) ∧ Below w.heap.size w w' := by
  rw [sameN_eq]
  have HN := Lib.hid h
  have HM := Lib.hid h'
  clear h h'
  obtain ⟨k, l, z, sq, en⟩ := n
  obtain ⟨k', l', z', sq', en'⟩ := m
  dsimp only
  have HBA := Lib.hid (((Below.refl w.heap.size w).alloc (Nat.le_refl _) (.cells #[.int .i64 k, .int .i64 l, .int .i64 z, .slice A sq.length c, .slice B en.length d] 25)).alloc (by simp) (.cells #[.int .i64 k', .int .i64 l', .int .i64 z', .slice A' sq'.length c', .slice B' en'.length d'] 25))
  have HQ : Hid (∀ w1, Below ((w.alloc (.cells #[.int .i64 k, .int .i64 l, .int .i64 z, .slice A sq.length c, .slice B en.length d] 25)).alloc (.cells #[.int .i64 k', .int .i64 l', .int .i64 z', .slice A' sq'.length c', .slice B' en'.length d'] 25)).heap.size ((w.alloc (.cells #[.int .i64 k, .int .i64 l, .int .i64 z, .slice A sq.length c, .slice B en.length d] 25)).alloc (.cells #[.int .i64 k', .int .i64 l', .int .i64 z', .slice A' sq'.length c', .slice B' en'.length d'] 25)) w1 → w1.cell? ⟨w.heap.size, 4, none⟩ = some (.slice B en.length d) ∧ w1.cell? ⟨w.heap.size + 1, 4, none⟩ = some (.slice B' en'.length d')) := Lib.hid fun w1 hb => by
    have e1 := node_cell w (#[.int .i64 k, .int .i64 l, .int .i64 z, .slice A sq.length c, .slice B en.length d]) 25 4 (by simp)
    have b2 := (Below.refl (w.alloc (.cells #[.int .i64 k, .int .i64 l, .int .i64 z, .slice A sq.length c, .slice B en.length d] 25)).heap.size (w.alloc (.cells #[.int .i64 k, .int .i64 l, .int .i64 z, .slice A sq.length c, .slice B en.length d] 25))).alloc (Nat.le_refl _) (.cells #[.int .i64 k', .int .i64 l', .int .i64 z', .slice A' sq'.length c', .slice B' en'.length d'] 25)
    have e1' := (b2.cell (p := ⟨w.heap.size, 4, none⟩) (by simp)).trans e1
    have e2 := node_cell (w.alloc (.cells #[.int .i64 k, .int .i64 l, .int .i64 z, .slice A sq.length c, .slice B en.length d] 25)) (#[.int .i64 k', .int .i64 l', .int .i64 z', .slice A' sq'.length c', .slice B' en'.length d']) 25 4 (by simp)
    have hs : (w.alloc (.cells #[.int .i64 k, .int .i64 l, .int .i64 z, .slice A sq.length c, .slice B en.length d] 25)).heap.size = w.heap.size + 1 := by simp
    rw [hs] at e2
    exact ⟨(hb.cell (p := ⟨w.heap.size, 4, none⟩) (by simp; omega)).trans e1', (hb.cell (p := ⟨w.heap.size + 1, 4, none⟩) (by simp)).trans e2⟩
  have a1 : (k == k') = decide (k = k') := rfl
  have a2 : (l == l') = decide (l = l') := rfl
  have a3 : (z == z') = decide (z = z') := rfl
  have HC1 := Lib.hid (fun w1 (hb : Below w.heap.size w w1) => eqi_any A A' c c' sq sq' w1 (HN.out.below hb).sq (HM.out.below hb).sq HN.out.sm HM.out.sm)
  have HC2 := Lib.hid (fun w1 (hb : Below w.heap.size w w1) => eqe_any B B' d d' en en' w1 (HN.out.below hb).en (HM.out.below hb).en HN.out.em HM.out.em)
  generalize decide (sq = sq') = x4 at HC1 ⊢
  generalize decide (en = en') = x5 at HC2 ⊢
  generalize decide (k = k') = x1 at a1 ⊢
  generalize decide (l = l') = x2 at a2 ⊢
  generalize decide (z = z') = x3 at a3 ⊢
  cases x1 <;> cases x2 <;> cases x3 <;> cases x4
  all_goals
    go_enter Try.func14, Try.ntmps14
    go_wp2_with (first
      | (go_at_call 29; refine (HC1.out _ HBA.out).mono ?_; rintro e w1 ⟨rfl, hb1⟩; have HB1 := Lib.hid (HBA.out.trans (hb1.mono HBA.out.size)); obtain ⟨q4, q5⟩ := HQ.out _ hb1; clear hb1)
      | (go_at_call 30; refine (HC2.out _ HB1.out).mono ?_; rintro e w2 ⟨rfl, hb2⟩; have HB2 := Lib.hid (HB1.out.trans (hb2.mono HB1.out.size)); clear hb2))
    go_ret
    first
      | exact ⟨rfl, HBA.out⟩
      | exact ⟨by simp, HB1.out⟩
      | exact ⟨by simp, HB2.out⟩
set_option maxRecDepth 100000 in
set_option maxHeartbeats 4000000 in
theorem emptyl_any (k : Int) (w : World) : Calls Try.prog 16 #[.int .i64 k] w (EmptyPost w k) := by
  by_cases h1 : k = 1
  · subst h1
    have hmk := fun w1 : World => make_ints5 w1
    go_enter Try.func16, Try.ntmps16
    go_wp2_with fail
    refine bodyPost_ret (results_cell_row rfl _ _ w.heap.size _ _ _ _ rfl ((((Below.refl _ _).alloc (Nat.le_refl _) _).block w.heap.size (by simp)).trans (heap_alloc_new _ _)) Try.underlying25 rfl (by kernel_rfl)) rfl ?_
    refine ⟨some ⟨w.heap.size + 1, 0, none⟩, 5, rfl, iown_five ?_ (by omega), ((Below.refl _ _).alloc (Nat.le_refl _) _).alloc (by simp) _⟩
    have := heap_alloc_new (w.alloc (.cells #[.int .i64 1, .int .i64 1, .int .i64 0, .slice (some ⟨w.heap.size + 1, 0, none⟩) 5 5, .slice none 0 0] 25)) (.cells (madeCells #[Value.int .i64 0] 5) 3)
    rwa [show (w.alloc (.cells #[.int .i64 1, .int .i64 1, .int .i64 0, .slice (some ⟨w.heap.size + 1, 0, none⟩) 5 5, .slice none 0 0] 25)).heap.size = w.heap.size + 1 by simp] at this
  have e1 : (k == 1) = false := by simpa using h1
  by_cases h2 : k = 2
  · subst h2
    go_enter Try.func16, Try.ntmps16
    go_wp2_with fail
    refine bodyPost_ret (results_cell_row rfl _ _ w.heap.size _ _ _ _ rfl (heap_alloc_new _ _) Try.underlying25 rfl (by kernel_rfl)) rfl ?_
    exact ⟨none, 0, rfl, iown_nil _ _, (Below.refl _ _).alloc (Nat.le_refl _) _⟩
  have e2 : (k == 2) = false := by simpa using h2
  have HF : Hid (emptyN k = ⟨0, 0, 0, [], []⟩) := Lib.hid (by unfold emptyN; rw [if_neg h1, if_neg h2])
  go_enter Try.func16, Try.ntmps16
  go_wp2_with fail
  refine bodyPost_ret (results_cell_row rfl _ _ w.heap.size _ _ _ _ rfl (heap_alloc_new _ _) Try.underlying25 rfl (by kernel_rfl)) rfl ?_
  refine ⟨none, 0, by rw [HF.out]; rfl, ?_, (Below.refl _ _).alloc (Nat.le_refl _) _⟩
  rw [HF.out]
  exact iown_nil _ _
end Go.Proofs.Ytohiabkjbieflaa
