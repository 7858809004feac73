/- The landed mayDir, May (written by mknv.py). -/
import Derived.Test.YtohiabkjbieflaaNdT
import Derived.Test.YtohiabkjbieflaaNdU
namespace Go.Proofs.Ytohiabkjbieflaa
open Go.RowKit Go.Lib

theorem emptyd_any (w : World) : Calls Try.prog 16 #[.int .i64 2] w fun e w' => e = .returned (.agg #[.int .i64 2, .int .i64 1, .int .i64 0, .slice none 0 0, .slice none 0 0]) ∧ Below w.heap.size w w' := by
  go_enter Try.func16, Try.ntmps16
  go_wp2_with fail
  refine bodyPost_ret (results_cell_row rfl _ _ w.heap.size _ _ _ _ rfl (heap_alloc_new _ _) Try.underlying25 rfl (by kernel_rfl)) rfl ?_
  exact ⟨rfl, (Below.refl _ _).alloc (Nat.le_refl _) _⟩
theorem NLies.plain (w : World) (k l z : Int) : NLies w ⟨k, l, z, [], []⟩ none none 0 0 :=
  ⟨.nil _ _, .nil _ _, fun _ => ⟨rfl, rfl⟩, fun _ => ⟨rfl, rfl⟩, Nat.le_refl _, Nat.le_refl _, by simp, by simp⟩
theorem NLies.noname {w : World} {k l z : Int} {sq : List Int} {en : List Ent} {A B : Option Addr} {c d : Nat} (h : NLies w ⟨k, l, z, sq, en⟩ A B c d) : NLies w ⟨k, l, z, sq, []⟩ A none c 0 :=
  ⟨h.sq, .nil _ _, h.sn, fun _ => ⟨rfl, rfl⟩, h.sc, Nat.le_refl _, h.sm, by simp⟩
set_option maxRecDepth 100000 in
set_option maxHeartbeats 4000000 in
theorem maydir_any (k l z : Int) (sq : List Int) (en : List Ent) (A B : Option Addr) (c d s t : Nat) (w : World) (HS : Hid (sq.length = s)) (HT : Hid (en.length = t)) (h : Hid (NLies w ⟨k, l, z, sq, en⟩ A B c d)) : Calls Try.prog 27 #[.agg #[.int .i64 k, .int .i64 l, .int .i64 z, .slice A s c, .slice B t d]] w fun x w' => x = .returned (.bool (mayEs en && sameN ⟨k, l, z, sq, []⟩ ⟨2, 1, 0, [], []⟩)) ∧ Below w.heap.size w w' := by
  have HBA := Lib.hid ((Below.refl w.heap.size w).alloc (Nat.le_refl _) (.cells #[.int .i64 k, .int .i64 l, .int .i64 z, .slice A s c, .slice B t d] 25))
  have HX := Lib.hid (heap_alloc_new w (.cells #[.int .i64 k, .int .i64 l, .int .i64 z, .slice A s c, .slice B t d] 25))
  obtain ⟨M, hM⟩ : ∃ M, mayEs en = M := ⟨_, rfl⟩
  have HC := Lib.hid (fun w1 (hw : ELies w1 B en) => (mays_any B d en w1 hw))
  rw [hM, HT.out] at HC
  rw [hM]
  cases M with
  | false =>
    go_enter Try.func27, Try.ntmps27
    go_wp2_with (first
      | (go_at_call 35; (with_reducible refine (HC.out _ (h.out.below HBA.out).en).mono ?_); rintro e w1 ⟨rfl, hb1⟩; replace hb1 := Lib.hid (HBA.out.trans (hb1.mono HBA.out.size)))
      | fail)
    go_ret
    exact ⟨rfl, hb1.out⟩
  | true =>
    obtain ⟨Q, hQ⟩ : ∃ Q, sameN ⟨k, l, z, sq, []⟩ ⟨2, 1, 0, [], []⟩ = Q := ⟨_, rfl⟩
    have HSM := Lib.hid (fun w1 (hw : NLies w1 ⟨k, l, z, sq, []⟩ A none c 0) => samel_any ⟨k, l, z, sq, []⟩ ⟨2, 1, 0, [], []⟩ A none none none c 0 0 0 w1 hw (.plain _ _ _ _))
    rw [hQ] at HSM
    rw [hQ]
    have HSL : Hid (∀ w1, NLies w1 ⟨k, l, z, sq, []⟩ A none c 0 → Calls Try.prog 14 #[.agg #[.int .i64 k, .int .i64 l, .int .i64 z, .slice A s c, .slice none 0 0], .agg #[.int .i64 2, .int .i64 1, .int .i64 0, .slice none 0 0, .slice none 0 0]] w1 fun x w' => x = .returned (.bool Q) ∧ Below w1.heap.size w1 w') := Lib.hid fun w1 hw => by
      have := HSM.out w1 hw
      rw [← HS.out]
      exact this
    have hx4 : ∀ w1, Below (w.alloc (.cells #[.int .i64 k, .int .i64 l, .int .i64 z, .slice A s c, .slice B t d] 25)).heap.size (w.alloc (.cells #[.int .i64 k, .int .i64 l, .int .i64 z, .slice A s c, .slice B t d] 25)) w1 → w1.heap[w.heap.size]? = some (.cells #[.int .i64 k, .int .i64 l, .int .i64 z, .slice A s c, .slice B t d] 25 (0, 0)) := fun w1 hb => (hb.block w.heap.size (by simp)).trans HX.out
    have HX4 := Lib.hid hx4
    clear hx4 hQ hM HSM
    go_enter Try.func27, Try.ntmps27
    go_wp2_with (first
      | (go_at_call 35; (with_reducible refine (HC.out _ (h.out.below HBA.out).en).mono ?_); rintro e w1 ⟨rfl, hb1⟩; have HX1 := Lib.hid (HX4.out _ hb1); replace hb1 := Lib.hid (HBA.out.trans (hb1.mono HBA.out.size)); have k4 : w1.cell? ⟨w.heap.size, 4, none⟩ = some (.slice B t d) := (by have := HX1.out; simp [World.cell?, this]); have f4 : w1.frozen? ⟨w.heap.size, 4, none⟩ = false := (by have := HX1.out; simp [World.frozen?, this]))
      | fail)
    obtain ⟨W, hW⟩ : ∃ X, X = w1.setCell ⟨w.heap.size, 4, none⟩ (.slice none 0 0) := ⟨_, rfl⟩
    rw [← hW]
    have HZ : Hid (W.heap[w.heap.size]? = some (.cells #[.int .i64 k, .int .i64 l, .int .i64 z, .slice A s c, .slice none 0 0] 25 (0, 0))) := Lib.hid (by
      rw [hW, heap_setCell_same _ w.heap.size 4 _ _ _ HX1.out]; rfl)
    have HBW : Hid (Below w.heap.size w W) := Lib.hid (by rw [hW]; exact hb1.out.setCell (Nat.le_refl _) _)
    have hsz : Hid (w.heap.size < W.heap.size) := Lib.hid (lt_size HZ.out)
    clear hW k4 f4
    have HK : Hid (∀ w1, Below W.heap.size W w1 → w1.cell? ⟨w.heap.size, 0, none⟩ = some (.int .i64 k) ∧ w1.cell? ⟨w.heap.size, 1, none⟩ = some (.int .i64 l) ∧ w1.cell? ⟨w.heap.size, 2, none⟩ = some (.int .i64 z) ∧ w1.cell? ⟨w.heap.size, 3, none⟩ = some (.slice A s c) ∧ w1.cell? ⟨w.heap.size, 4, none⟩ = some (.slice none 0 0)) := Lib.hid fun w1 hb => by
      have := (hb.block w.heap.size hsz.out).trans HZ.out
      exact ⟨by simp [World.cell?, this], by simp [World.cell?, this], by simp [World.cell?, this], by simp [World.cell?, this], by simp [World.cell?, this]⟩
    have HNL : Hid (NLies W ⟨k, l, z, sq, []⟩ A none c 0) := Lib.hid (h.out.below HBW.out).noname
    refine region_st (fun j v w' => match j with | 0 => v = .agg #[.int .i64 k, .int .i64 l, .int .i64 z, .slice A s c, .slice none 0 0] | 1 => v = .agg #[.int .i64 2, .int .i64 1, .int .i64 0, .slice none 0 0, .slice none 0 0] | 2 => v = .bool Q | 3 => v = .bool Q | _ => True) (fun _ w' => Below W.heap.size W w') (fun w1 w2 => Below w1.heap.size w1 w2) (by kernel_rfl) (by kernel_rfl) (by kernel_rfl) ?hR ?hG ?hops ?hend
    case hR =>
      intro j v w1 w2 hv hb
      match j, hv with
      | 0, hv => exact hv
      | 1, hv => exact hv
      | 2, hv => exact hv
      | 3, hv => exact hv
      | _ + 4, _ => exact trivial
    case hG => exact (Below.refl _ _).drew
    case hops =>
      refine OpsOkS.cons ?o0 (OpsOkS.cons ?o1 (OpsOkS.cons ?o2 (OpsOkS.cons ?o3 OpsOkS.nil)))
      case o0 =>
        intro a w1 Kx hG need old hsz fresh hKx
        have e0 : a.tmps[1]?.getD undef = .pointer (some ⟨w.heap.size, 0, none⟩) := by rw [← Array.getD_eq_getD_getElem?]; exact old 1 (by kernel_rfl)
        obtain ⟨j0, j1, j2, j3, j4⟩ := HK.out w1 hG
        refine op_value (v := .agg #[.int .i64 k, .int .i64 l, .int .i64 z, .slice A s c, .slice none 0 0]) (wanted_none rfl) ?_ (hKx _ w1 rfl hG (Below.refl _ _))
        simp [execOp, go_sem, e0, j0, j1, j2, j3, j4]
      case o1 =>
        intro a w1 Kx hG need old hsz fresh hKx
        refine op_call (wanted_none rfl) (f := 16) (args := #[.int .i64 2]) ?run ((emptyd_any w1).mono ?post)
        case run => simp [go_sem]
        case post =>
          rintro e w2 ⟨rfl, hb2⟩
          exact ⟨_, rfl, hKx _ w2 rfl (hG.trans (hb2.mono hG.size)) hb2⟩
      case o2 =>
        intro a w1 Kx hG need old hsz fresh hKx
        have e0 : a.tmps[8]?.getD undef = .agg #[.int .i64 k, .int .i64 l, .int .i64 z, .slice A s c, .slice none 0 0] := by rw [← Array.getD_eq_getD_getElem?]; exact (need 0 (by kernel_rfl) (by kernel_rfl))
        have e1 : a.tmps[9]?.getD undef = .agg #[.int .i64 2, .int .i64 1, .int .i64 0, .slice none 0 0, .slice none 0 0] := by rw [← Array.getD_eq_getD_getElem?]; exact (need 1 (by kernel_rfl) (by kernel_rfl))
        refine op_call (wanted_none rfl) (f := 14) (args := #[.agg #[.int .i64 k, .int .i64 l, .int .i64 z, .slice A s c, .slice none 0 0], .agg #[.int .i64 2, .int .i64 1, .int .i64 0, .slice none 0 0, .slice none 0 0]]) ?run ((HSL.out w1 (HNL.out.below hG)).mono ?post)
        case run => simp [go_sem, e0, e1]
        case post =>
          rintro e w2 ⟨rfl, hb2⟩
          exact ⟨_, rfl, hKx _ w2 rfl (hG.trans (hb2.mono hG.size)) hb2⟩
      case o3 =>
        intro a w1 Kx hG need old hsz fresh hKx
        have e0 : a.tmps[10]?.getD undef = .bool Q := by rw [← Array.getD_eq_getD_getElem?]; exact (need 2 (by kernel_rfl) (by kernel_rfl))
        refine op_value (v := .bool Q) (wanted_none rfl) ?_ (hKx _ w1 rfl hG (Below.refl _ _))
        simp [execOp, go_sem, e0]
    case hend =>
      intro a w6 hG hde hsz hφ hold
      obtain rfl := act_puts [(8, .agg #[.int .i64 k, .int .i64 l, .int .i64 z, .slice A s c, .slice none 0 0]), (9, .agg #[.int .i64 2, .int .i64 1, .int .i64 0, .slice none 0 0, .slice none 0 0]), (10, .bool Q), (2, .bool Q)] [8, 9, 10, 2] rfl (by kernel_rfl) (by kernel_rfl) hde hsz (List.forall_mem_cons.2 ⟨(show a.tmps.getD 8 undef = .agg #[.int .i64 k, .int .i64 l, .int .i64 z, .slice A s c, .slice none 0 0] from (hφ 0 (by kernel_rfl))), (List.forall_mem_cons.2 ⟨(show a.tmps.getD 9 undef = .agg #[.int .i64 2, .int .i64 1, .int .i64 0, .slice none 0 0, .slice none 0 0] from (hφ 1 (by kernel_rfl))), (List.forall_mem_cons.2 ⟨(show a.tmps.getD 10 undef = .bool Q from (hφ 2 (by kernel_rfl))), (List.forall_mem_cons.2 ⟨(show a.tmps.getD 2 undef = .bool Q from (hφ 3 (by kernel_rfl))), (fun _ h => absurd h (by simp))⟩)⟩)⟩)⟩) hold
      clear hφ hold hsz hde
      simp only [putAll]
      go_frame
      go_wp2_with fail
      go_ret
      exact ⟨by cases Q <;> rfl, HBW.out.trans (hG.mono HBW.out.size)⟩
theorem may_none {n : Nd} (h : n.k = 0) : mayNd n = sameN n ⟨0, 0, 0, [], []⟩ := by
  rw [sameN_eq]
  unfold mayNd
  rw [if_pos h, decide_eq_true h, Bool.true_and]
  have e1 : decide (n.sq = []) = decide (n.sq.length = 0) := by rw [Bool.eq_iff_iff]; simp
  have e2 : decide (n.en = []) = decide (n.en.length = 0) := by rw [Bool.eq_iff_iff]; simp
  show _ = (decide (n.l = 0) && (decide (n.z = 0) && (decide (n.sq = []) && decide (n.en = []))))
  rw [e1, e2]
theorem may_dir {n : Nd} (h : n.k = 2) : mayNd n = (mayEs n.en && sameN ⟨n.k, n.l, n.z, n.sq, []⟩ ⟨2, 1, 0, [], []⟩) := by
  rw [sameN_eq]
  unfold mayNd
  rw [if_neg (by omega), if_pos h]
  have e1 : decide (n.sq = []) = decide (n.sq.length = 0) := by rw [Bool.eq_iff_iff]; simp
  show _ = (mayEs n.en && (decide (n.k = 2) && (decide (n.l = 1) && (decide (n.z = 0) && (decide (n.sq = []) && decide (([] : List Ent) = []))))))
  rw [e1, decide_eq_true h]
  generalize mayEs n.en = a
  generalize decide (n.l = 1) = b
  generalize decide (n.z = 0) = c
  generalize decide (n.sq.length = 0) = d
  cases a <;> cases b <;> cases c <;> cases d <;> rfl
set_option maxRecDepth 100000 in
set_option maxHeartbeats 4000000 in
theorem maynl_any (n : Nd) (A B : Option Addr) (c d : Nat) (w : World) (h : NLies w n A B c d) : Calls Try.prog 12 #[ndV n A B c d] w fun x w' => x = .returned (.bool (mayNd n)) ∧ Below w.heap.size w w' := by
  have HH := Lib.hid h
  have HBA := Lib.hid ((Below.refl w.heap.size w).alloc (Nat.le_refl _) (.cells #[.int .i64 n.k, .int .i64 n.l, .int .i64 n.z, .slice A n.sq.length c, .slice B n.en.length d] 25))
  have HN := Lib.hid (HH.out.below HBA.out)
  by_cases h0 : n.k = 0
  · have HC := Lib.hid (samel_any n ⟨0, 0, 0, [], []⟩ A B none none c d 0 0 _ HN.out (.plain _ _ _ _))
    rw [← may_none h0] at HC
    generalize mayNd n = R at HC ⊢
    clear h HH HN
    dsimp only [ndV] at HC ⊢
    rw [h0] at HC HBA ⊢
    go_enter Try.func12, Try.ntmps12
    go_wp2_with (first
      | (go_at_call 14; refine HC.out.mono ?_; rintro e w1 ⟨rfl, hb1⟩; have HB1 := Lib.hid (HBA.out.trans (hb1.mono HBA.out.size)); clear hb1)
      | fail)
    go_ret
    exact ⟨rfl, HB1.out⟩
  by_cases h1 : n.k = 1
  · have HC := Lib.hid (mayfl_any n A B c d _ HN.out)
    rw [← mayNd_file h1] at HC
    generalize mayNd n = R at HC ⊢
    clear h HH HN h0
    dsimp only [ndV] at HC ⊢
    rw [h1] at HC HBA ⊢
    go_enter Try.func12, Try.ntmps12
    go_wp2_with (first
      | (go_at_call 26; refine HC.out.mono ?_; rintro e w1 ⟨rfl, hb1⟩; have HB1 := Lib.hid (HBA.out.trans (hb1.mono HBA.out.size)); clear hb1)
      | fail)
    go_ret
    exact ⟨rfl, HB1.out⟩
  by_cases h2 : n.k = 2
  · have HC := Lib.hid (maydir_any n.k n.l n.z n.sq n.en A B c d _ _ _ (Lib.hid rfl) (Lib.hid rfl) (Lib.hid HN.out))
    rw [← may_dir h2] at HC
    generalize mayNd n = R at HC ⊢
    clear h HH HN h0 h1
    dsimp only [ndV] at HC ⊢
    rw [h2] at HC HBA ⊢
    go_enter Try.func12, Try.ntmps12
    go_wp2_with (first
      | (go_at_call 27; refine HC.out.mono ?_; rintro e w1 ⟨rfl, hb1⟩; have HB1 := Lib.hid (HBA.out.trans (hb1.mono HBA.out.size)); clear hb1)
      | fail)
    go_ret
    exact ⟨rfl, HB1.out⟩
  have HF : Hid (mayNd n = false) := Lib.hid (by unfold mayNd; rw [if_neg h0, if_neg h2, if_neg h1])
  have e0 : (n.k == 0) = false := by simpa using h0
  have e1 : (n.k == 1) = false := by simpa using h1
  have e2 : (n.k == 2) = false := by simpa using h2
  rw [HF.out]
  clear h HH HN h0 h1 h2
  go_enter Try.func12, Try.ntmps12
  go_wp2_with fail
  go_ret
  exact ⟨rfl, HBA.out⟩
end Go.Proofs.Ytohiabkjbieflaa
