/- The reference's SameNode, EmptyNode, Pages. -/
import Derived.Test.YtohiabkjbieflaaNdH
namespace Go.Proofs.Ytohiabkjbieflaa
open Go.RowKit Go.Lib

theorem node_cell (w : World) (cs : Array Value) (t : TypeId) (k : Nat) (hk : k < cs.size) : (w.alloc (.cells cs t)).cell? ⟨w.heap.size, k, none⟩ = some cs[k] := by
  have hn := heap_alloc_new w (.cells cs t)
  generalize w.alloc _ = W at hn ⊢
  simp [World.cell?, hn, hk]
set_option maxRecDepth 100000 in
set_option maxHeartbeats 4000000 in
theorem samenr_any (n m : Nd) (A B A' B' : Option Addr) (c d c' d' : Nat) (w : World) (h : NLies w n A B c d) (h' : NLies w m A' B' c' d') : Calls Try.prog 15 #[ndV n A B c d, ndV m A' B' c' d'] w fun x w' => x = .returned (.bool (sameN n m)) ∧ Below w.heap.size w w' := by
  rw [sameN_eq]
  have HN := Lib.hid h
  have HM := Lib.hid h'
  clear h h'
  obtain ⟨k, l, z, sq, en⟩ := n
  obtain ⟨k', l', z', sq', en'⟩ := m
  dsimp only
  have HBA := Lib.hid (((Below.refl w.heap.size w).alloc (Nat.le_refl _) (.cells #[.int .i64 k, .int .i64 l, .int .i64 z, .slice A sq.length c, .slice B en.length d] 25)).alloc (by simp) (.cells #[.int .i64 k', .int .i64 l', .int .i64 z', .slice A' sq'.length c', .slice B' en'.length d'] 25))
  have HQ : Hid (∀ w1, Below ((w.alloc (.cells #[.int .i64 k, .int .i64 l, .int .i64 z, .slice A sq.length c, .slice B en.length d] 25)).alloc (.cells #[.int .i64 k', .int .i64 l', .int .i64 z', .slice A' sq'.length c', .slice B' en'.length d'] 25)).heap.size ((w.alloc (.cells #[.int .i64 k, .int .i64 l, .int .i64 z, .slice A sq.length c, .slice B en.length d] 25)).alloc (.cells #[.int .i64 k', .int .i64 l', .int .i64 z', .slice A' sq'.length c', .slice B' en'.length d'] 25)) w1 → w1.cell? ⟨w.heap.size, 4, none⟩ = some (.slice B en.length d) ∧ w1.cell? ⟨w.heap.size + 1, 4, none⟩ = some (.slice B' en'.length d')) := Lib.hid fun w1 hb => by
    have e1 := node_cell w (#[.int .i64 k, .int .i64 l, .int .i64 z, .slice A sq.length c, .slice B en.length d]) 25 4 (by simp)
    have b2 := (Below.refl (w.alloc (.cells #[.int .i64 k, .int .i64 l, .int .i64 z, .slice A sq.length c, .slice B en.length d] 25)).heap.size (w.alloc (.cells #[.int .i64 k, .int .i64 l, .int .i64 z, .slice A sq.length c, .slice B en.length d] 25))).alloc (Nat.le_refl _) (.cells #[.int .i64 k', .int .i64 l', .int .i64 z', .slice A' sq'.length c', .slice B' en'.length d'] 25)
    have e1' := (b2.cell (p := ⟨w.heap.size, 4, none⟩) (by simp)).trans e1
    have e2 := node_cell (w.alloc (.cells #[.int .i64 k, .int .i64 l, .int .i64 z, .slice A sq.length c, .slice B en.length d] 25)) (#[.int .i64 k', .int .i64 l', .int .i64 z', .slice A' sq'.length c', .slice B' en'.length d']) 25 4 (by simp)
    have hs : (w.alloc (.cells #[.int .i64 k, .int .i64 l, .int .i64 z, .slice A sq.length c, .slice B en.length d] 25)).heap.size = w.heap.size + 1 := by simp
    rw [hs] at e2
    exact ⟨(hb.cell (p := ⟨w.heap.size, 4, none⟩) (by simp; omega)).trans e1', (hb.cell (p := ⟨w.heap.size + 1, 4, none⟩) (by simp)).trans e2⟩
  have a1 : (k == k') = decide (k = k') := rfl
  have a2 : (l == l') = decide (l = l') := rfl
  have a3 : (z == z') = decide (z = z') := rfl
  have HC1 := Lib.hid (fun w1 (hb : Below w.heap.size w w1) => ints_any A A' c c' sq sq' w1 (HN.out.below hb).sq (HM.out.below hb).sq HN.out.sm HM.out.sm)
  have HC2 := Lib.hid (fun w1 (hb : Below w.heap.size w w1) => same_any B B' d d' en en' w1 (HN.out.below hb).en (HM.out.below hb).en HN.out.em HM.out.em)
  generalize decide (sq = sq') = x4 at HC1 ⊢
  generalize decide (en = en') = x5 at HC2 ⊢
  generalize decide (k = k') = x1 at a1 ⊢
  generalize decide (l = l') = x2 at a2 ⊢
  generalize decide (z = z') = x3 at a3 ⊢
  cases x1 <;> cases x2 <;> cases x3 <;> cases x4
  all_goals
    go_enter Try.func15, Try.ntmps15
    go_wp2_with (first
      | (go_at_call 31; refine (HC1.out _ HBA.out).mono ?_; rintro e w1 ⟨rfl, hb1⟩; have HB1 := Lib.hid (HBA.out.trans (hb1.mono HBA.out.size)); obtain ⟨q4, q5⟩ := HQ.out _ hb1; clear hb1)
      | (go_at_call 32; refine (HC2.out _ HB1.out).mono ?_; rintro e w2 ⟨rfl, hb2⟩; have HB2 := Lib.hid (HB1.out.trans (hb2.mono HB1.out.size)); clear hb2))
    go_ret
    first
      | exact ⟨rfl, HBA.out⟩
      | exact ⟨by simp, HB1.out⟩
      | exact ⟨by simp, HB2.out⟩
set_option maxRecDepth 100000 in
set_option maxHeartbeats 4000000 in
theorem pagesr_any (n : Nd) (A B : Option Addr) (c d : Nat) (w : World) (h : NLies w n A B c d) : Calls Try.prog 19 #[ndV n A B c d] w fun x w' => x = .returned (.int .i64 (pagesN n)) ∧ Below w.heap.size w w' := by
  have hmx : maxLen = 9223372036854775807 := rfl
  have hsm : n.sq.length ≤ maxLen := h.sm
  have HH := Lib.hid h
  have HBA := Lib.hid ((Below.refl w.heap.size w).alloc (Nat.le_refl _) (.cells #[.int .i64 n.k, .int .i64 n.l, .int .i64 n.z, .slice A n.sq.length c, .slice B n.en.length d] 25))
  have HX := Lib.hid (node_cell w #[.int .i64 n.k, .int .i64 n.l, .int .i64 n.z, .slice A n.sq.length c, .slice B n.en.length d] 25 3 (by simp))
  clear h
  obtain ⟨R, hR⟩ : ∃ R, pagesN n = R := ⟨_, rfl⟩
  rw [hR]
  have HR := Lib.hid hR
  clear hR
  by_cases h1 : n.k = 1
  case neg =>
    have d1 : (n.k != 1) = true := by simpa using h1
    have HF : Hid (R = 0) := Lib.hid (by rw [← HR.out]; exact if_neg fun e => h1 e.1)
    clear h1
    go_enter Try.func19, Try.ntmps19
    go_wp2_with fail
    go_ret
    exact ⟨by rw [HF.out]; rfl, HBA.out⟩
  have d1 : (n.k != 1) = false := by rw [h1]; rfl
  obtain ⟨m, hm⟩ : ∃ m, mayNd n = m := ⟨_, rfl⟩
  have HC := Lib.hid (fun w1 (hb : Below w.heap.size w w1) => maynr_any n A B c d w1 (HH.out.below hb))
  rw [hm] at HC
  have HM := Lib.hid hm
  have H1 := Lib.hid h1
  clear hm h1
  cases m with
  | false =>
    have HF : Hid (R = 0) := Lib.hid (by rw [← HR.out]; exact if_neg fun e => by rw [HM.out] at e; cases e.2)
    go_enter Try.func19, Try.ntmps19
    go_wp2_with (go_at_call 13; refine (HC.out _ HBA.out).mono ?_; rintro e w1 ⟨rfl, hb1⟩; have HB1 := Lib.hid (HBA.out.trans (hb1.mono HBA.out.size)); clear hb1)
    go_ret
    exact ⟨by rw [HF.out]; rfl, HB1.out⟩
  | true =>
    have HF : Hid (R = cntN n.sq) := Lib.hid (by rw [← HR.out]; exact if_pos ⟨H1.out, HM.out⟩)
    have F5 : Hid (n.sq.length = 5) := Lib.hid (by have := HM.out; rw [mayNd_file H1.out] at this; exact (mayFl_at this).2.2.2.2.1)
    go_enter Try.func19, Try.ntmps19
    go_wp2_with (go_at_call 13; refine (HC.out _ HBA.out).mono ?_; rintro e w1 ⟨rfl, hb1⟩; have HB1 := Lib.hid (HBA.out.trans (hb1.mono HBA.out.size)); have hx : w1.cell? ⟨w.heap.size, 3, none⟩ = some (.slice A n.sq.length c) := (hb1.cell (p := ⟨w.heap.size, 3, none⟩) (by simp)).trans HX.out; clear hb1)
    go_loopw [3, 5, 17] (fun v3 _ v17 wr => ∃ jx : Nat, jx ≤ n.sq.length ∧ v17 = .int .i64 jx ∧ v3 = .int .i64 (cntN (n.sq.take jx)) ∧ wr = w1) (fun _ _ v17 _ => n.sq.length - (RowKit.intOf v17).toNat)
    case atStart => exact ⟨0, Nat.zero_le _, rfl, by simp [cntN], rfl⟩
    case round =>
      obtain ⟨jx, hj, rfl, rfl, rfl⟩ := hrel
      have hc5 : cntN (n.sq.take jx) ≤ 5 := by have := cntN_le (n.sq.take jx); rw [List.length_take] at this; have := F5.out; omega
      by_cases hj1 : jx < n.sq.length
      · obtain ⟨B1, o, rfl, hBs, hc⟩ := (HH.out.below HB1.out).sq (show 0 < n.sq.length by omega)
        have d2 : decide ((jx : Int) < (n.sq.length : Int)) = true := decide_eq_true (by omega)
        have k0 := hc jx hj1
        have ht := cntN_take hj1
        obtain ⟨s, hs⟩ : ∃ s, n.sq[jx] = s := ⟨_, rfl⟩
        rw [hs] at k0 ht
        have HT := Lib.hid ht
        clear hc hs ht
        generalize cntN (n.sq.take jx) = q at HT hc5 ⊢
        by_cases g : s = 0
        · subst g
          go_wp2_with fail
          go_roundw
          case rel => exact ⟨jx + 1, by omega, by go_num, by rw [HT.out]; rfl, by trivial⟩
          case measure => simp [RowKit.intOf]; omega
        · have b : (s != 0) = true := by simpa using g
          have hw : IntKind.i64.wrap ((q : Int) + 1) = ((q + 1 : Nat) : Int) := by rw [i64w_idE _ (by omega)]; omega
          have G := Lib.hid g
          clear g
          go_wp2_with fail
          go_roundw
          case rel => exact ⟨jx + 1, by omega, by go_num, by rw [HT.out, if_neg G.out]; first | rfl | exact congrArg _ hw | simp [hw], by trivial⟩
          case measure => simp [RowKit.intOf]; omega
      · have d2 : decide ((jx : Int) < (n.sq.length : Int)) = false := decide_eq_false (by omega)
        have HT : Hid (cntN (n.sq.take jx) = cntN n.sq) := Lib.hid (by rw [List.take_of_length_le (by omega)])
        go_wp2_with fail
        go_ret
        exact ⟨by rw [HF.out, ← HT.out]; rfl, HB1.out⟩
end Go.Proofs.Ytohiabkjbieflaa
