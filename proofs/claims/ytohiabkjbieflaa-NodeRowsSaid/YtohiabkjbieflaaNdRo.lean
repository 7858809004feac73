/- NodeRows: refs of two files share no page; there are as many as pages (written by mkro.py). -/
import Derived.Test.YtohiabkjbieflaaNdY
namespace Go.Proofs.Ytohiabkjbieflaa
open Go.RowKit Go.Lib

set_option maxRecDepth 100000 in
set_option maxHeartbeats 8000000 in
theorem rows_law (n m : Nd) (A B A' B' : Option Addr) (c d c' d' : Nat) (i0 k0 : Int) (w : World) (hn : NLies w n A B c d) (hm : NLies w m A' B' c' d') :
    Calls Try.prog 7 #[ndV n A B c d, ndV m A' B' c' d', .int .i64 i0, .int .i64 k0] w fun e w' => e = .returned (.bool true) ∧ Below w.heap.size w w' := by
  have HNC := Lib.hid (lightN_cases n)
  have HMC := Lib.hid (lightN_cases m)
  obtain ⟨k, l, z, sq, en⟩ := n
  obtain ⟨k', l', z', sq', en'⟩ := m
  have HBX := Lib.hid (two_boxes w k l z k' l' z' (.slice A sq.length c) (.slice B en.length d) (.slice A' sq'.length c') (.slice B' en'.length d'))
  have HB0 : Hid (Below w.heap.size w (two w (.cells #[.int .i64 k, .int .i64 l, .int .i64 z, .slice A sq.length c, .slice B en.length d] 25) (.cells #[.int .i64 k', .int .i64 l', .int .i64 z', .slice A' sq'.length c', .slice B' en'.length d'] 25))) := Lib.hid (((Below.refl _ _).alloc (Nat.le_refl _) _).alloc (by simp) _)
  have hz0 : Hid (w.heap.size + 1 < (two w (.cells #[.int .i64 k, .int .i64 l, .int .i64 z, .slice A sq.length c, .slice B en.length d] 25) (.cells #[.int .i64 k', .int .i64 l', .int .i64 z', .slice A' sq'.length c', .slice B' en'.length d'] 25)).heap.size) := Lib.hid (lt_size HBX.out.2)
  have HLA : Hid (∀ w1, NLies w1 ⟨k, l, z, sq, en⟩ A B c d → Calls Try.prog 8 #[.agg #[.int .i64 k, .int .i64 l, .int .i64 z, .slice A sq.length c, .slice B en.length d]] w1 fun x w' => x = .returned (.int .i64 (lightN ⟨k, l, z, sq, en⟩)) ∧ Below w1.heap.size w1 w') := Lib.hid fun w1 h => lightN_any ⟨k, l, z, sq, en⟩ A B c d w1 h
  have HLB : Hid (∀ w1, NLies w1 ⟨k', l', z', sq', en'⟩ A' B' c' d' → Calls Try.prog 8 #[.agg #[.int .i64 k', .int .i64 l', .int .i64 z', .slice A' sq'.length c', .slice B' en'.length d']] w1 fun x w' => x = .returned (.int .i64 (lightN ⟨k', l', z', sq', en'⟩)) ∧ Below w1.heap.size w1 w') := Lib.hid fun w1 h => lightN_any ⟨k', l', z', sq', en'⟩ A' B' c' d' w1 h
  have HMA : Hid (∀ w1, NLies w1 ⟨k, l, z, sq, en⟩ A B c d → Calls Try.prog 13 #[.agg #[.int .i64 k, .int .i64 l, .int .i64 z, .slice A sq.length c, .slice B en.length d]] w1 fun x w' => x = .returned (.bool (mayNd ⟨k, l, z, sq, en⟩)) ∧ Below w1.heap.size w1 w') := Lib.hid fun w1 h => maynr_any ⟨k, l, z, sq, en⟩ A B c d w1 h
  have HMB : Hid (∀ w1, NLies w1 ⟨k', l', z', sq', en'⟩ A' B' c' d' → Calls Try.prog 13 #[.agg #[.int .i64 k', .int .i64 l', .int .i64 z', .slice A' sq'.length c', .slice B' en'.length d']] w1 fun x w' => x = .returned (.bool (mayNd ⟨k', l', z', sq', en'⟩)) ∧ Below w1.heap.size w1 w') := Lib.hid fun w1 h => maynr_any ⟨k', l', z', sq', en'⟩ A' B' c' d' w1 h
  obtain ⟨LA, hLA⟩ : ∃ L, lightN ⟨k, l, z, sq, en⟩ = L := ⟨_, rfl⟩
  obtain ⟨LB, hLB⟩ : ∃ L, lightN ⟨k', l', z', sq', en'⟩ = L := ⟨_, rfl⟩
  obtain ⟨MA, hMA⟩ : ∃ L, mayNd ⟨k, l, z, sq, en⟩ = L := ⟨_, rfl⟩
  obtain ⟨MB, hMB⟩ : ∃ L, mayNd ⟨k', l', z', sq', en'⟩ = L := ⟨_, rfl⟩
  rw [hLA] at HNC HLA
  rw [hLB] at HMC HLB
  rw [hMA] at HMA
  rw [hMB] at HMB
  clear hLA hLB hMA hMB
  go_enter Try.func7, Try.ntmps7
  go_upto_region 1 with (fail)
  change Code.wp _ _ _ _ (two w (.cells #[.int .i64 k, .int .i64 l, .int .i64 z, .slice A sq.length c, .slice B en.length d] 25) (.cells #[.int .i64 k', .int .i64 l', .int .i64 z', .slice A' sq'.length c', .slice B' en'.length d'] 25))
  generalize two w _ _ = W at HBX HB0 hz0 ⊢
  obtain ⟨P, hP⟩ : ∃ P, P = w.heap.size := ⟨_, rfl⟩
  rw [← hP] at HBX hz0 ⊢
  clear hP
  have HN : Hid (∀ w1, Below W.heap.size W w1 → NLies w1 ⟨k, l, z, sq, en⟩ A B c d) := Lib.hid fun w1 hb => (hn.below HB0.out).below hb
  have HM : Hid (∀ w1, Below W.heap.size W w1 → NLies w1 ⟨k', l', z', sq', en'⟩ A' B' c' d') := Lib.hid fun w1 hb => (hm.below HB0.out).below hb
  have HK : Hid (∀ w1, Below W.heap.size W w1 → BoxAt w1 P k l z (.slice A sq.length c) (.slice B en.length d) ∧ BoxAt w1 (P + 1) k' l' z' (.slice A' sq'.length c') (.slice B' en'.length d')) := Lib.hid fun w1 hb => ⟨HBX.out.1.below hb (by have := hz0.out; omega), HBX.out.2.below hb hz0.out⟩
  clear hn hm
  rcases HNC.out with ⟨rfl, ha⟩ | rfl
  case inr =>
    rcases HMC.out with ⟨rfl, hb⟩ | rfl
    case inr =>
      refine region_st (fun j v w' => match j with | 0 => v = .agg #[.int .i64 k, .int .i64 l, .int .i64 z, .slice A sq.length c, .slice B en.length d] | 1 => v = .int .i64 1 | 2 => v = .agg #[.int .i64 k', .int .i64 l', .int .i64 z', .slice A' sq'.length c', .slice B' en'.length d'] | 3 => v = .int .i64 1 | 4 => v = .int .i64 2 | 5 => v = .bool true | 6 => v = .bool true | 7 => v = undef | 8 => v = undef | 9 => v = undef | 10 => v = .bool true | 11 => v = .bool true | 12 => v = undef | 13 => v = undef | 14 => v = undef | 15 => v = .bool true | _ => True) (fun _ w' => Below W.heap.size W w') (fun w1 w2 => Below w1.heap.size w1 w2) (by kernel_rfl) (by kernel_rfl) (by kernel_rfl) ?hR ?hG ?hops ?hend
      case hR =>
        intro j v w1 w2 hv hb
        match j, hv with
        | 0, hv => exact hv
        | 1, hv => exact hv
        | 2, hv => exact hv
        | 3, hv => exact hv
        | 4, hv => exact hv
        | 5, hv => exact hv
        | 6, hv => exact hv
        | 7, hv => exact hv
        | 8, hv => exact hv
        | 9, hv => exact hv
        | 10, hv => exact hv
        | 11, hv => exact hv
        | 12, hv => exact hv
        | 13, hv => exact hv
        | 14, hv => exact hv
        | 15, hv => exact hv
        | _ + 16, _ => exact trivial
      case hG => exact (Below.refl _ _).drew
      case hops =>
        refine OpsOkS.cons ?o0 (OpsOkS.cons ?o1 (OpsOkS.cons ?o2 (OpsOkS.cons ?o3 (OpsOkS.cons ?o4 (OpsOkS.cons ?o5 (OpsOkS.cons ?o6 (OpsOkS.cons ?o7 (OpsOkS.cons ?o8 (OpsOkS.cons ?o9 (OpsOkS.cons ?o10 (OpsOkS.cons ?o11 (OpsOkS.cons ?o12 (OpsOkS.cons ?o13 (OpsOkS.cons ?o14 (OpsOkS.cons ?o15 OpsOkS.nil)))))))))))))))
        case o0 =>
          intro a w1 Kx hG need old hsz fresh hKx
          have e0 : a.tmps[4]?.getD undef = .pointer (some ⟨P, 0, none⟩) := by rw [← Array.getD_eq_getD_getElem?]; exact old 4 (by kernel_rfl)
          obtain ⟨j0, j1, j2, j3, j4⟩ := (HK.out w1 hG).1.cells
          refine op_value (v := .agg #[.int .i64 k, .int .i64 l, .int .i64 z, .slice A sq.length c, .slice B en.length d]) (wanted_none rfl) ?_ (hKx _ w1 rfl hG (Below.refl _ _))
          simp [execOp, go_sem, e0, j0, j1, j2, j3, j4]
        case o1 =>
          intro a w1 Kx hG need old hsz fresh hKx
          have e0 : a.tmps[15]?.getD undef = .agg #[.int .i64 k, .int .i64 l, .int .i64 z, .slice A sq.length c, .slice B en.length d] := by rw [← Array.getD_eq_getD_getElem?]; exact (need 0 (by kernel_rfl) (by kernel_rfl))
          refine op_call (wanted_none rfl) (f := 8) (args := #[.agg #[.int .i64 k, .int .i64 l, .int .i64 z, .slice A sq.length c, .slice B en.length d]]) ?run ((HLA.out w1 (HN.out w1 hG)).mono ?post)
          case run => simp [go_sem, e0]
          case post =>
            rintro e w2 ⟨rfl, hb2⟩
            exact ⟨_, rfl, hKx _ w2 rfl (hG.trans (hb2.mono hG.size)) hb2⟩
        case o2 =>
          intro a w1 Kx hG need old hsz fresh hKx
          have e0 : a.tmps[5]?.getD undef = .pointer (some ⟨P + 1, 0, none⟩) := by rw [← Array.getD_eq_getD_getElem?]; exact old 5 (by kernel_rfl)
          obtain ⟨j0, j1, j2, j3, j4⟩ := (HK.out w1 hG).2.cells
          refine op_value (v := .agg #[.int .i64 k', .int .i64 l', .int .i64 z', .slice A' sq'.length c', .slice B' en'.length d']) (wanted_none rfl) ?_ (hKx _ w1 rfl hG (Below.refl _ _))
          simp [execOp, go_sem, e0, j0, j1, j2, j3, j4]
        case o3 =>
          intro a w1 Kx hG need old hsz fresh hKx
          have e0 : a.tmps[17]?.getD undef = .agg #[.int .i64 k', .int .i64 l', .int .i64 z', .slice A' sq'.length c', .slice B' en'.length d'] := by rw [← Array.getD_eq_getD_getElem?]; exact (need 2 (by kernel_rfl) (by kernel_rfl))
          refine op_call (wanted_none rfl) (f := 8) (args := #[.agg #[.int .i64 k', .int .i64 l', .int .i64 z', .slice A' sq'.length c', .slice B' en'.length d']]) ?run ((HLB.out w1 (HM.out w1 hG)).mono ?post)
          case run => simp [go_sem, e0]
          case post =>
            rintro e w2 ⟨rfl, hb2⟩
            exact ⟨_, rfl, hKx _ w2 rfl (hG.trans (hb2.mono hG.size)) hb2⟩
        case o4 =>
          intro a w1 Kx hG need old hsz fresh hKx
          have e0 : a.tmps[16]?.getD undef = .int .i64 1 := by rw [← Array.getD_eq_getD_getElem?]; exact (need 1 (by kernel_rfl) (by kernel_rfl))
          have e1 : a.tmps[18]?.getD undef = .int .i64 1 := by rw [← Array.getD_eq_getD_getElem?]; exact (need 3 (by kernel_rfl) (by kernel_rfl))
          refine op_value (v := .int .i64 2) (wanted_none rfl) ?_ (hKx _ w1 rfl hG (Below.refl _ _))
          simp [execOp, go_sem, e0, e1]; rfl
        case o5 =>
          intro a w1 Kx hG need old hsz fresh hKx
          have e0 : a.tmps[19]?.getD undef = .int .i64 2 := by rw [← Array.getD_eq_getD_getElem?]; exact (need 4 (by kernel_rfl) (by kernel_rfl))
          refine op_value (v := .bool true) (wanted_none rfl) ?_ (hKx _ w1 rfl hG (Below.refl _ _))
          simp [execOp, go_sem, e0]
        case o6 =>
          intro a w1 Kx hG need old hsz fresh hKx
          have e0 : a.tmps[20]?.getD undef = .bool true := by rw [← Array.getD_eq_getD_getElem?]; exact (need 5 (by kernel_rfl) (by kernel_rfl))
          refine op_value (v := .bool true) (wanted_none rfl) ?_ (hKx _ w1 rfl hG (Below.refl _ _))
          simp [execOp, go_sem, e0]
        case o7 =>
          intro a w1 Kx hG need old hsz fresh hKx
          exact skip_op (j := 6) rfl (need 6 (by kernel_rfl) (by kernel_rfl)) (by decide) (hKx undef w1 rfl hG (Below.refl _ _))
        case o8 =>
          intro a w1 Kx hG need old hsz fresh hKx
          exact skip_op (j := 6) rfl (need 6 (by kernel_rfl) (by kernel_rfl)) (by decide) (hKx undef w1 rfl hG (Below.refl _ _))
        case o9 =>
          intro a w1 Kx hG need old hsz fresh hKx
          exact skip_op (j := 6) rfl (need 6 (by kernel_rfl) (by kernel_rfl)) (by decide) (hKx undef w1 rfl hG (Below.refl _ _))
        case o10 =>
          intro a w1 Kx hG need old hsz fresh hKx
          have e0 : a.tmps[21]?.getD undef = .bool true := by rw [← Array.getD_eq_getD_getElem?]; exact (need 6 (by kernel_rfl) (by kernel_rfl))
          refine op_value (v := .bool true) (wanted_none rfl) ?_ (hKx _ w1 rfl hG (Below.refl _ _))
          simp [execOp, go_sem, asBool, e0]
        case o11 =>
          intro a w1 Kx hG need old hsz fresh hKx
          have e0 : a.tmps[25]?.getD undef = .bool true := by rw [← Array.getD_eq_getD_getElem?]; exact (need 10 (by kernel_rfl) (by kernel_rfl))
          refine op_value (v := .bool true) (wanted_none rfl) ?_ (hKx _ w1 rfl hG (Below.refl _ _))
          simp [execOp, go_sem, e0]
        case o12 =>
          intro a w1 Kx hG need old hsz fresh hKx
          exact skip_op (j := 11) rfl (need 11 (by kernel_rfl) (by kernel_rfl)) (by decide) (hKx undef w1 rfl hG (Below.refl _ _))
        case o13 =>
          intro a w1 Kx hG need old hsz fresh hKx
          exact skip_op (j := 11) rfl (need 11 (by kernel_rfl) (by kernel_rfl)) (by decide) (hKx undef w1 rfl hG (Below.refl _ _))
        case o14 =>
          intro a w1 Kx hG need old hsz fresh hKx
          exact skip_op (j := 11) rfl (need 11 (by kernel_rfl) (by kernel_rfl)) (by decide) (hKx undef w1 rfl hG (Below.refl _ _))
        case o15 =>
          intro a w1 Kx hG need old hsz fresh hKx
          have e0 : a.tmps[26]?.getD undef = .bool true := by rw [← Array.getD_eq_getD_getElem?]; exact (need 11 (by kernel_rfl) (by kernel_rfl))
          refine op_value (v := .bool true) (wanted_none rfl) ?_ (hKx _ w1 rfl hG (Below.refl _ _))
          simp [execOp, go_sem, asBool, e0]
      case hend =>
        intro a w6 hG hde hsz hφ hold
        obtain rfl := act_puts [(15, .agg #[.int .i64 k, .int .i64 l, .int .i64 z, .slice A sq.length c, .slice B en.length d]), (16, .int .i64 1), (17, .agg #[.int .i64 k', .int .i64 l', .int .i64 z', .slice A' sq'.length c', .slice B' en'.length d']), (18, .int .i64 1), (19, .int .i64 2), (20, .bool true), (21, .bool true), (22, undef), (23, undef), (24, undef), (25, .bool true), (26, .bool true), (27, undef), (28, undef), (29, undef), (30, .bool true)] [15, 16, 17, 18, 19, 20, 21, 22, 23, 24, 25, 26, 27, 28, 29, 30] rfl (by kernel_rfl) (by kernel_rfl) hde hsz (List.forall_mem_cons.2 ⟨(show a.tmps.getD 15 undef = .agg #[.int .i64 k, .int .i64 l, .int .i64 z, .slice A sq.length c, .slice B en.length d] from (hφ 0 (by kernel_rfl))), (List.forall_mem_cons.2 ⟨(show a.tmps.getD 16 undef = .int .i64 1 from (hφ 1 (by kernel_rfl))), (List.forall_mem_cons.2 ⟨(show a.tmps.getD 17 undef = .agg #[.int .i64 k', .int .i64 l', .int .i64 z', .slice A' sq'.length c', .slice B' en'.length d'] from (hφ 2 (by kernel_rfl))), (List.forall_mem_cons.2 ⟨(show a.tmps.getD 18 undef = .int .i64 1 from (hφ 3 (by kernel_rfl))), (List.forall_mem_cons.2 ⟨(show a.tmps.getD 19 undef = .int .i64 2 from (hφ 4 (by kernel_rfl))), (List.forall_mem_cons.2 ⟨(show a.tmps.getD 20 undef = .bool true from (hφ 5 (by kernel_rfl))), (List.forall_mem_cons.2 ⟨(show a.tmps.getD 21 undef = .bool true from (hφ 6 (by kernel_rfl))), (List.forall_mem_cons.2 ⟨(show a.tmps.getD 22 undef = undef from (hφ 7 (by kernel_rfl))), (List.forall_mem_cons.2 ⟨(show a.tmps.getD 23 undef = undef from (hφ 8 (by kernel_rfl))), (List.forall_mem_cons.2 ⟨(show a.tmps.getD 24 undef = undef from (hφ 9 (by kernel_rfl))), (List.forall_mem_cons.2 ⟨(show a.tmps.getD 25 undef = .bool true from (hφ 10 (by kernel_rfl))), (List.forall_mem_cons.2 ⟨(show a.tmps.getD 26 undef = .bool true from (hφ 11 (by kernel_rfl))), (List.forall_mem_cons.2 ⟨(show a.tmps.getD 27 undef = undef from (hφ 12 (by kernel_rfl))), (List.forall_mem_cons.2 ⟨(show a.tmps.getD 28 undef = undef from (hφ 13 (by kernel_rfl))), (List.forall_mem_cons.2 ⟨(show a.tmps.getD 29 undef = undef from (hφ 14 (by kernel_rfl))), (List.forall_mem_cons.2 ⟨(show a.tmps.getD 30 undef = .bool true from (hφ 15 (by kernel_rfl))), (fun _ h => absurd h (by simp))⟩)⟩)⟩)⟩)⟩)⟩)⟩)⟩)⟩)⟩)⟩)⟩)⟩)⟩)⟩)⟩) hold
        clear hφ hold hsz hde
        simp only [putAll]
        go_frame
        go_wp2_with (first
          | (go_at_call 9; (with_reducible refine (awake_any _).mono ?_); rintro e w2 ⟨rfl, hb2⟩; have HB2 := Lib.hid hb2; clear hb2)
          | fail)
        go_ret
        exact ⟨rfl, HB0.out.trans ((hG.trans (HB2.out.mono hG.size)).mono HB0.out.size)⟩
    case inl =>
      refine region_st (fun j v w' => match j with | 0 => v = .agg #[.int .i64 k, .int .i64 l, .int .i64 z, .slice A sq.length c, .slice B en.length d] | 1 => v = .int .i64 1 | 2 => v = .agg #[.int .i64 k', .int .i64 l', .int .i64 z', .slice A' sq'.length c', .slice B' en'.length d'] | 3 => v = .int .i64 0 | 4 => v = .int .i64 1 | 5 => v = .bool true | 6 => v = .bool true | 7 => v = undef | 8 => v = undef | 9 => v = undef | 10 => v = .bool true | 11 => v = .bool true | 12 => v = undef | 13 => v = undef | 14 => v = undef | 15 => v = .bool true | _ => True) (fun _ w' => Below W.heap.size W w') (fun w1 w2 => Below w1.heap.size w1 w2) (by kernel_rfl) (by kernel_rfl) (by kernel_rfl) ?hR ?hG ?hops ?hend
      case hR =>
        intro j v w1 w2 hv hb
        match j, hv with
        | 0, hv => exact hv
        | 1, hv => exact hv
        | 2, hv => exact hv
        | 3, hv => exact hv
        | 4, hv => exact hv
        | 5, hv => exact hv
        | 6, hv => exact hv
        | 7, hv => exact hv
        | 8, hv => exact hv
        | 9, hv => exact hv
        | 10, hv => exact hv
        | 11, hv => exact hv
        | 12, hv => exact hv
        | 13, hv => exact hv
        | 14, hv => exact hv
        | 15, hv => exact hv
        | _ + 16, _ => exact trivial
      case hG => exact (Below.refl _ _).drew
      case hops =>
        refine OpsOkS.cons ?o0 (OpsOkS.cons ?o1 (OpsOkS.cons ?o2 (OpsOkS.cons ?o3 (OpsOkS.cons ?o4 (OpsOkS.cons ?o5 (OpsOkS.cons ?o6 (OpsOkS.cons ?o7 (OpsOkS.cons ?o8 (OpsOkS.cons ?o9 (OpsOkS.cons ?o10 (OpsOkS.cons ?o11 (OpsOkS.cons ?o12 (OpsOkS.cons ?o13 (OpsOkS.cons ?o14 (OpsOkS.cons ?o15 OpsOkS.nil)))))))))))))))
        case o0 =>
          intro a w1 Kx hG need old hsz fresh hKx
          have e0 : a.tmps[4]?.getD undef = .pointer (some ⟨P, 0, none⟩) := by rw [← Array.getD_eq_getD_getElem?]; exact old 4 (by kernel_rfl)
          obtain ⟨j0, j1, j2, j3, j4⟩ := (HK.out w1 hG).1.cells
          refine op_value (v := .agg #[.int .i64 k, .int .i64 l, .int .i64 z, .slice A sq.length c, .slice B en.length d]) (wanted_none rfl) ?_ (hKx _ w1 rfl hG (Below.refl _ _))
          simp [execOp, go_sem, e0, j0, j1, j2, j3, j4]
        case o1 =>
          intro a w1 Kx hG need old hsz fresh hKx
          have e0 : a.tmps[15]?.getD undef = .agg #[.int .i64 k, .int .i64 l, .int .i64 z, .slice A sq.length c, .slice B en.length d] := by rw [← Array.getD_eq_getD_getElem?]; exact (need 0 (by kernel_rfl) (by kernel_rfl))
          refine op_call (wanted_none rfl) (f := 8) (args := #[.agg #[.int .i64 k, .int .i64 l, .int .i64 z, .slice A sq.length c, .slice B en.length d]]) ?run ((HLA.out w1 (HN.out w1 hG)).mono ?post)
          case run => simp [go_sem, e0]
          case post =>
            rintro e w2 ⟨rfl, hb2⟩
            exact ⟨_, rfl, hKx _ w2 rfl (hG.trans (hb2.mono hG.size)) hb2⟩
        case o2 =>
          intro a w1 Kx hG need old hsz fresh hKx
          have e0 : a.tmps[5]?.getD undef = .pointer (some ⟨P + 1, 0, none⟩) := by rw [← Array.getD_eq_getD_getElem?]; exact old 5 (by kernel_rfl)
          obtain ⟨j0, j1, j2, j3, j4⟩ := (HK.out w1 hG).2.cells
          refine op_value (v := .agg #[.int .i64 k', .int .i64 l', .int .i64 z', .slice A' sq'.length c', .slice B' en'.length d']) (wanted_none rfl) ?_ (hKx _ w1 rfl hG (Below.refl _ _))
          simp [execOp, go_sem, e0, j0, j1, j2, j3, j4]
        case o3 =>
          intro a w1 Kx hG need old hsz fresh hKx
          have e0 : a.tmps[17]?.getD undef = .agg #[.int .i64 k', .int .i64 l', .int .i64 z', .slice A' sq'.length c', .slice B' en'.length d'] := by rw [← Array.getD_eq_getD_getElem?]; exact (need 2 (by kernel_rfl) (by kernel_rfl))
          refine op_call (wanted_none rfl) (f := 8) (args := #[.agg #[.int .i64 k', .int .i64 l', .int .i64 z', .slice A' sq'.length c', .slice B' en'.length d']]) ?run ((HLB.out w1 (HM.out w1 hG)).mono ?post)
          case run => simp [go_sem, e0]
          case post =>
            rintro e w2 ⟨rfl, hb2⟩
            exact ⟨_, rfl, hKx _ w2 rfl (hG.trans (hb2.mono hG.size)) hb2⟩
        case o4 =>
          intro a w1 Kx hG need old hsz fresh hKx
          have e0 : a.tmps[16]?.getD undef = .int .i64 1 := by rw [← Array.getD_eq_getD_getElem?]; exact (need 1 (by kernel_rfl) (by kernel_rfl))
          have e1 : a.tmps[18]?.getD undef = .int .i64 0 := by rw [← Array.getD_eq_getD_getElem?]; exact (need 3 (by kernel_rfl) (by kernel_rfl))
          refine op_value (v := .int .i64 1) (wanted_none rfl) ?_ (hKx _ w1 rfl hG (Below.refl _ _))
          simp [execOp, go_sem, e0, e1]; rfl
        case o5 =>
          intro a w1 Kx hG need old hsz fresh hKx
          have e0 : a.tmps[19]?.getD undef = .int .i64 1 := by rw [← Array.getD_eq_getD_getElem?]; exact (need 4 (by kernel_rfl) (by kernel_rfl))
          refine op_value (v := .bool true) (wanted_none rfl) ?_ (hKx _ w1 rfl hG (Below.refl _ _))
          simp [execOp, go_sem, e0]
        case o6 =>
          intro a w1 Kx hG need old hsz fresh hKx
          have e0 : a.tmps[20]?.getD undef = .bool true := by rw [← Array.getD_eq_getD_getElem?]; exact (need 5 (by kernel_rfl) (by kernel_rfl))
          refine op_value (v := .bool true) (wanted_none rfl) ?_ (hKx _ w1 rfl hG (Below.refl _ _))
          simp [execOp, go_sem, e0]
        case o7 =>
          intro a w1 Kx hG need old hsz fresh hKx
          exact skip_op (j := 6) rfl (need 6 (by kernel_rfl) (by kernel_rfl)) (by decide) (hKx undef w1 rfl hG (Below.refl _ _))
        case o8 =>
          intro a w1 Kx hG need old hsz fresh hKx
          exact skip_op (j := 6) rfl (need 6 (by kernel_rfl) (by kernel_rfl)) (by decide) (hKx undef w1 rfl hG (Below.refl _ _))
        case o9 =>
          intro a w1 Kx hG need old hsz fresh hKx
          exact skip_op (j := 6) rfl (need 6 (by kernel_rfl) (by kernel_rfl)) (by decide) (hKx undef w1 rfl hG (Below.refl _ _))
        case o10 =>
          intro a w1 Kx hG need old hsz fresh hKx
          have e0 : a.tmps[21]?.getD undef = .bool true := by rw [← Array.getD_eq_getD_getElem?]; exact (need 6 (by kernel_rfl) (by kernel_rfl))
          refine op_value (v := .bool true) (wanted_none rfl) ?_ (hKx _ w1 rfl hG (Below.refl _ _))
          simp [execOp, go_sem, asBool, e0]
        case o11 =>
          intro a w1 Kx hG need old hsz fresh hKx
          have e0 : a.tmps[25]?.getD undef = .bool true := by rw [← Array.getD_eq_getD_getElem?]; exact (need 10 (by kernel_rfl) (by kernel_rfl))
          refine op_value (v := .bool true) (wanted_none rfl) ?_ (hKx _ w1 rfl hG (Below.refl _ _))
          simp [execOp, go_sem, e0]
        case o12 =>
          intro a w1 Kx hG need old hsz fresh hKx
          exact skip_op (j := 11) rfl (need 11 (by kernel_rfl) (by kernel_rfl)) (by decide) (hKx undef w1 rfl hG (Below.refl _ _))
        case o13 =>
          intro a w1 Kx hG need old hsz fresh hKx
          exact skip_op (j := 11) rfl (need 11 (by kernel_rfl) (by kernel_rfl)) (by decide) (hKx undef w1 rfl hG (Below.refl _ _))
        case o14 =>
          intro a w1 Kx hG need old hsz fresh hKx
          exact skip_op (j := 11) rfl (need 11 (by kernel_rfl) (by kernel_rfl)) (by decide) (hKx undef w1 rfl hG (Below.refl _ _))
        case o15 =>
          intro a w1 Kx hG need old hsz fresh hKx
          have e0 : a.tmps[26]?.getD undef = .bool true := by rw [← Array.getD_eq_getD_getElem?]; exact (need 11 (by kernel_rfl) (by kernel_rfl))
          refine op_value (v := .bool true) (wanted_none rfl) ?_ (hKx _ w1 rfl hG (Below.refl _ _))
          simp [execOp, go_sem, asBool, e0]
      case hend =>
        intro a w6 hG hde hsz hφ hold
        obtain rfl := act_puts [(15, .agg #[.int .i64 k, .int .i64 l, .int .i64 z, .slice A sq.length c, .slice B en.length d]), (16, .int .i64 1), (17, .agg #[.int .i64 k', .int .i64 l', .int .i64 z', .slice A' sq'.length c', .slice B' en'.length d']), (18, .int .i64 0), (19, .int .i64 1), (20, .bool true), (21, .bool true), (22, undef), (23, undef), (24, undef), (25, .bool true), (26, .bool true), (27, undef), (28, undef), (29, undef), (30, .bool true)] [15, 16, 17, 18, 19, 20, 21, 22, 23, 24, 25, 26, 27, 28, 29, 30] rfl (by kernel_rfl) (by kernel_rfl) hde hsz (List.forall_mem_cons.2 ⟨(show a.tmps.getD 15 undef = .agg #[.int .i64 k, .int .i64 l, .int .i64 z, .slice A sq.length c, .slice B en.length d] from (hφ 0 (by kernel_rfl))), (List.forall_mem_cons.2 ⟨(show a.tmps.getD 16 undef = .int .i64 1 from (hφ 1 (by kernel_rfl))), (List.forall_mem_cons.2 ⟨(show a.tmps.getD 17 undef = .agg #[.int .i64 k', .int .i64 l', .int .i64 z', .slice A' sq'.length c', .slice B' en'.length d'] from (hφ 2 (by kernel_rfl))), (List.forall_mem_cons.2 ⟨(show a.tmps.getD 18 undef = .int .i64 0 from (hφ 3 (by kernel_rfl))), (List.forall_mem_cons.2 ⟨(show a.tmps.getD 19 undef = .int .i64 1 from (hφ 4 (by kernel_rfl))), (List.forall_mem_cons.2 ⟨(show a.tmps.getD 20 undef = .bool true from (hφ 5 (by kernel_rfl))), (List.forall_mem_cons.2 ⟨(show a.tmps.getD 21 undef = .bool true from (hφ 6 (by kernel_rfl))), (List.forall_mem_cons.2 ⟨(show a.tmps.getD 22 undef = undef from (hφ 7 (by kernel_rfl))), (List.forall_mem_cons.2 ⟨(show a.tmps.getD 23 undef = undef from (hφ 8 (by kernel_rfl))), (List.forall_mem_cons.2 ⟨(show a.tmps.getD 24 undef = undef from (hφ 9 (by kernel_rfl))), (List.forall_mem_cons.2 ⟨(show a.tmps.getD 25 undef = .bool true from (hφ 10 (by kernel_rfl))), (List.forall_mem_cons.2 ⟨(show a.tmps.getD 26 undef = .bool true from (hφ 11 (by kernel_rfl))), (List.forall_mem_cons.2 ⟨(show a.tmps.getD 27 undef = undef from (hφ 12 (by kernel_rfl))), (List.forall_mem_cons.2 ⟨(show a.tmps.getD 28 undef = undef from (hφ 13 (by kernel_rfl))), (List.forall_mem_cons.2 ⟨(show a.tmps.getD 29 undef = undef from (hφ 14 (by kernel_rfl))), (List.forall_mem_cons.2 ⟨(show a.tmps.getD 30 undef = .bool true from (hφ 15 (by kernel_rfl))), (fun _ h => absurd h (by simp))⟩)⟩)⟩)⟩)⟩)⟩)⟩)⟩)⟩)⟩)⟩)⟩)⟩)⟩)⟩)⟩) hold
        clear hφ hold hsz hde
        simp only [putAll]
        go_frame
        go_wp2_with (first
          | (go_at_call 9; (with_reducible refine (awake_any _).mono ?_); rintro e w2 ⟨rfl, hb2⟩; have HB2 := Lib.hid hb2; clear hb2)
          | fail)
        go_ret
        exact ⟨rfl, HB0.out.trans ((hG.trans (HB2.out.mono hG.size)).mono HB0.out.size)⟩
  rcases HMC.out with ⟨rfl, hb⟩ | rfl
  case inr =>
    refine region_st (fun j v w' => match j with | 0 => v = .agg #[.int .i64 k, .int .i64 l, .int .i64 z, .slice A sq.length c, .slice B en.length d] | 1 => v = .int .i64 0 | 2 => v = .agg #[.int .i64 k', .int .i64 l', .int .i64 z', .slice A' sq'.length c', .slice B' en'.length d'] | 3 => v = .int .i64 1 | 4 => v = .int .i64 1 | 5 => v = .bool true | 6 => v = .bool true | 7 => v = undef | 8 => v = undef | 9 => v = undef | 10 => v = .bool true | 11 => v = .bool true | 12 => v = undef | 13 => v = undef | 14 => v = undef | 15 => v = .bool true | _ => True) (fun _ w' => Below W.heap.size W w') (fun w1 w2 => Below w1.heap.size w1 w2) (by kernel_rfl) (by kernel_rfl) (by kernel_rfl) ?hR ?hG ?hops ?hend
    case hR =>
      intro j v w1 w2 hv hb
      match j, hv with
      | 0, hv => exact hv
      | 1, hv => exact hv
      | 2, hv => exact hv
      | 3, hv => exact hv
      | 4, hv => exact hv
      | 5, hv => exact hv
      | 6, hv => exact hv
      | 7, hv => exact hv
      | 8, hv => exact hv
      | 9, hv => exact hv
      | 10, hv => exact hv
      | 11, hv => exact hv
      | 12, hv => exact hv
      | 13, hv => exact hv
      | 14, hv => exact hv
      | 15, hv => exact hv
      | _ + 16, _ => exact trivial
    case hG => exact (Below.refl _ _).drew
    case hops =>
      refine OpsOkS.cons ?o0 (OpsOkS.cons ?o1 (OpsOkS.cons ?o2 (OpsOkS.cons ?o3 (OpsOkS.cons ?o4 (OpsOkS.cons ?o5 (OpsOkS.cons ?o6 (OpsOkS.cons ?o7 (OpsOkS.cons ?o8 (OpsOkS.cons ?o9 (OpsOkS.cons ?o10 (OpsOkS.cons ?o11 (OpsOkS.cons ?o12 (OpsOkS.cons ?o13 (OpsOkS.cons ?o14 (OpsOkS.cons ?o15 OpsOkS.nil)))))))))))))))
      case o0 =>
        intro a w1 Kx hG need old hsz fresh hKx
        have e0 : a.tmps[4]?.getD undef = .pointer (some ⟨P, 0, none⟩) := by rw [← Array.getD_eq_getD_getElem?]; exact old 4 (by kernel_rfl)
        obtain ⟨j0, j1, j2, j3, j4⟩ := (HK.out w1 hG).1.cells
        refine op_value (v := .agg #[.int .i64 k, .int .i64 l, .int .i64 z, .slice A sq.length c, .slice B en.length d]) (wanted_none rfl) ?_ (hKx _ w1 rfl hG (Below.refl _ _))
        simp [execOp, go_sem, e0, j0, j1, j2, j3, j4]
      case o1 =>
        intro a w1 Kx hG need old hsz fresh hKx
        have e0 : a.tmps[15]?.getD undef = .agg #[.int .i64 k, .int .i64 l, .int .i64 z, .slice A sq.length c, .slice B en.length d] := by rw [← Array.getD_eq_getD_getElem?]; exact (need 0 (by kernel_rfl) (by kernel_rfl))
        refine op_call (wanted_none rfl) (f := 8) (args := #[.agg #[.int .i64 k, .int .i64 l, .int .i64 z, .slice A sq.length c, .slice B en.length d]]) ?run ((HLA.out w1 (HN.out w1 hG)).mono ?post)
        case run => simp [go_sem, e0]
        case post =>
          rintro e w2 ⟨rfl, hb2⟩
          exact ⟨_, rfl, hKx _ w2 rfl (hG.trans (hb2.mono hG.size)) hb2⟩
      case o2 =>
        intro a w1 Kx hG need old hsz fresh hKx
        have e0 : a.tmps[5]?.getD undef = .pointer (some ⟨P + 1, 0, none⟩) := by rw [← Array.getD_eq_getD_getElem?]; exact old 5 (by kernel_rfl)
        obtain ⟨j0, j1, j2, j3, j4⟩ := (HK.out w1 hG).2.cells
        refine op_value (v := .agg #[.int .i64 k', .int .i64 l', .int .i64 z', .slice A' sq'.length c', .slice B' en'.length d']) (wanted_none rfl) ?_ (hKx _ w1 rfl hG (Below.refl _ _))
        simp [execOp, go_sem, e0, j0, j1, j2, j3, j4]
      case o3 =>
        intro a w1 Kx hG need old hsz fresh hKx
        have e0 : a.tmps[17]?.getD undef = .agg #[.int .i64 k', .int .i64 l', .int .i64 z', .slice A' sq'.length c', .slice B' en'.length d'] := by rw [← Array.getD_eq_getD_getElem?]; exact (need 2 (by kernel_rfl) (by kernel_rfl))
        refine op_call (wanted_none rfl) (f := 8) (args := #[.agg #[.int .i64 k', .int .i64 l', .int .i64 z', .slice A' sq'.length c', .slice B' en'.length d']]) ?run ((HLB.out w1 (HM.out w1 hG)).mono ?post)
        case run => simp [go_sem, e0]
        case post =>
          rintro e w2 ⟨rfl, hb2⟩
          exact ⟨_, rfl, hKx _ w2 rfl (hG.trans (hb2.mono hG.size)) hb2⟩
      case o4 =>
        intro a w1 Kx hG need old hsz fresh hKx
        have e0 : a.tmps[16]?.getD undef = .int .i64 0 := by rw [← Array.getD_eq_getD_getElem?]; exact (need 1 (by kernel_rfl) (by kernel_rfl))
        have e1 : a.tmps[18]?.getD undef = .int .i64 1 := by rw [← Array.getD_eq_getD_getElem?]; exact (need 3 (by kernel_rfl) (by kernel_rfl))
        refine op_value (v := .int .i64 1) (wanted_none rfl) ?_ (hKx _ w1 rfl hG (Below.refl _ _))
        simp [execOp, go_sem, e0, e1]; rfl
      case o5 =>
        intro a w1 Kx hG need old hsz fresh hKx
        have e0 : a.tmps[19]?.getD undef = .int .i64 1 := by rw [← Array.getD_eq_getD_getElem?]; exact (need 4 (by kernel_rfl) (by kernel_rfl))
        refine op_value (v := .bool true) (wanted_none rfl) ?_ (hKx _ w1 rfl hG (Below.refl _ _))
        simp [execOp, go_sem, e0]
      case o6 =>
        intro a w1 Kx hG need old hsz fresh hKx
        have e0 : a.tmps[20]?.getD undef = .bool true := by rw [← Array.getD_eq_getD_getElem?]; exact (need 5 (by kernel_rfl) (by kernel_rfl))
        refine op_value (v := .bool true) (wanted_none rfl) ?_ (hKx _ w1 rfl hG (Below.refl _ _))
        simp [execOp, go_sem, e0]
      case o7 =>
        intro a w1 Kx hG need old hsz fresh hKx
        exact skip_op (j := 6) rfl (need 6 (by kernel_rfl) (by kernel_rfl)) (by decide) (hKx undef w1 rfl hG (Below.refl _ _))
      case o8 =>
        intro a w1 Kx hG need old hsz fresh hKx
        exact skip_op (j := 6) rfl (need 6 (by kernel_rfl) (by kernel_rfl)) (by decide) (hKx undef w1 rfl hG (Below.refl _ _))
      case o9 =>
        intro a w1 Kx hG need old hsz fresh hKx
        exact skip_op (j := 6) rfl (need 6 (by kernel_rfl) (by kernel_rfl)) (by decide) (hKx undef w1 rfl hG (Below.refl _ _))
      case o10 =>
        intro a w1 Kx hG need old hsz fresh hKx
        have e0 : a.tmps[21]?.getD undef = .bool true := by rw [← Array.getD_eq_getD_getElem?]; exact (need 6 (by kernel_rfl) (by kernel_rfl))
        refine op_value (v := .bool true) (wanted_none rfl) ?_ (hKx _ w1 rfl hG (Below.refl _ _))
        simp [execOp, go_sem, asBool, e0]
      case o11 =>
        intro a w1 Kx hG need old hsz fresh hKx
        have e0 : a.tmps[25]?.getD undef = .bool true := by rw [← Array.getD_eq_getD_getElem?]; exact (need 10 (by kernel_rfl) (by kernel_rfl))
        refine op_value (v := .bool true) (wanted_none rfl) ?_ (hKx _ w1 rfl hG (Below.refl _ _))
        simp [execOp, go_sem, e0]
      case o12 =>
        intro a w1 Kx hG need old hsz fresh hKx
        exact skip_op (j := 11) rfl (need 11 (by kernel_rfl) (by kernel_rfl)) (by decide) (hKx undef w1 rfl hG (Below.refl _ _))
      case o13 =>
        intro a w1 Kx hG need old hsz fresh hKx
        exact skip_op (j := 11) rfl (need 11 (by kernel_rfl) (by kernel_rfl)) (by decide) (hKx undef w1 rfl hG (Below.refl _ _))
      case o14 =>
        intro a w1 Kx hG need old hsz fresh hKx
        exact skip_op (j := 11) rfl (need 11 (by kernel_rfl) (by kernel_rfl)) (by decide) (hKx undef w1 rfl hG (Below.refl _ _))
      case o15 =>
        intro a w1 Kx hG need old hsz fresh hKx
        have e0 : a.tmps[26]?.getD undef = .bool true := by rw [← Array.getD_eq_getD_getElem?]; exact (need 11 (by kernel_rfl) (by kernel_rfl))
        refine op_value (v := .bool true) (wanted_none rfl) ?_ (hKx _ w1 rfl hG (Below.refl _ _))
        simp [execOp, go_sem, asBool, e0]
    case hend =>
      intro a w6 hG hde hsz hφ hold
      obtain rfl := act_puts [(15, .agg #[.int .i64 k, .int .i64 l, .int .i64 z, .slice A sq.length c, .slice B en.length d]), (16, .int .i64 0), (17, .agg #[.int .i64 k', .int .i64 l', .int .i64 z', .slice A' sq'.length c', .slice B' en'.length d']), (18, .int .i64 1), (19, .int .i64 1), (20, .bool true), (21, .bool true), (22, undef), (23, undef), (24, undef), (25, .bool true), (26, .bool true), (27, undef), (28, undef), (29, undef), (30, .bool true)] [15, 16, 17, 18, 19, 20, 21, 22, 23, 24, 25, 26, 27, 28, 29, 30] rfl (by kernel_rfl) (by kernel_rfl) hde hsz (List.forall_mem_cons.2 ⟨(show a.tmps.getD 15 undef = .agg #[.int .i64 k, .int .i64 l, .int .i64 z, .slice A sq.length c, .slice B en.length d] from (hφ 0 (by kernel_rfl))), (List.forall_mem_cons.2 ⟨(show a.tmps.getD 16 undef = .int .i64 0 from (hφ 1 (by kernel_rfl))), (List.forall_mem_cons.2 ⟨(show a.tmps.getD 17 undef = .agg #[.int .i64 k', .int .i64 l', .int .i64 z', .slice A' sq'.length c', .slice B' en'.length d'] from (hφ 2 (by kernel_rfl))), (List.forall_mem_cons.2 ⟨(show a.tmps.getD 18 undef = .int .i64 1 from (hφ 3 (by kernel_rfl))), (List.forall_mem_cons.2 ⟨(show a.tmps.getD 19 undef = .int .i64 1 from (hφ 4 (by kernel_rfl))), (List.forall_mem_cons.2 ⟨(show a.tmps.getD 20 undef = .bool true from (hφ 5 (by kernel_rfl))), (List.forall_mem_cons.2 ⟨(show a.tmps.getD 21 undef = .bool true from (hφ 6 (by kernel_rfl))), (List.forall_mem_cons.2 ⟨(show a.tmps.getD 22 undef = undef from (hφ 7 (by kernel_rfl))), (List.forall_mem_cons.2 ⟨(show a.tmps.getD 23 undef = undef from (hφ 8 (by kernel_rfl))), (List.forall_mem_cons.2 ⟨(show a.tmps.getD 24 undef = undef from (hφ 9 (by kernel_rfl))), (List.forall_mem_cons.2 ⟨(show a.tmps.getD 25 undef = .bool true from (hφ 10 (by kernel_rfl))), (List.forall_mem_cons.2 ⟨(show a.tmps.getD 26 undef = .bool true from (hφ 11 (by kernel_rfl))), (List.forall_mem_cons.2 ⟨(show a.tmps.getD 27 undef = undef from (hφ 12 (by kernel_rfl))), (List.forall_mem_cons.2 ⟨(show a.tmps.getD 28 undef = undef from (hφ 13 (by kernel_rfl))), (List.forall_mem_cons.2 ⟨(show a.tmps.getD 29 undef = undef from (hφ 14 (by kernel_rfl))), (List.forall_mem_cons.2 ⟨(show a.tmps.getD 30 undef = .bool true from (hφ 15 (by kernel_rfl))), (fun _ h => absurd h (by simp))⟩)⟩)⟩)⟩)⟩)⟩)⟩)⟩)⟩)⟩)⟩)⟩)⟩)⟩)⟩)⟩) hold
      clear hφ hold hsz hde
      simp only [putAll]
      go_frame
      go_wp2_with (first
        | (go_at_call 9; (with_reducible refine (awake_any _).mono ?_); rintro e w2 ⟨rfl, hb2⟩; have HB2 := Lib.hid hb2; clear hb2)
        | fail)
      go_ret
      exact ⟨rfl, HB0.out.trans ((hG.trans (HB2.out.mono hG.size)).mono HB0.out.size)⟩
  cases MA
  case false =>
    refine region_st (fun j v w' => match j with | 0 => v = .agg #[.int .i64 k, .int .i64 l, .int .i64 z, .slice A sq.length c, .slice B en.length d] | 1 => v = .int .i64 0 | 2 => v = .agg #[.int .i64 k', .int .i64 l', .int .i64 z', .slice A' sq'.length c', .slice B' en'.length d'] | 3 => v = .int .i64 0 | 4 => v = .int .i64 0 | 5 => v = .bool false | 6 => v = .bool false | 7 => v = .agg #[.int .i64 k, .int .i64 l, .int .i64 z, .slice A sq.length c, .slice B en.length d] | 8 => v = .bool false | 9 => v = .bool true | 10 => v = .bool true | 11 => v = .bool true | 12 => v = undef | 13 => v = undef | 14 => v = undef | 15 => v = .bool true | _ => True) (fun _ w' => Below W.heap.size W w') (fun w1 w2 => Below w1.heap.size w1 w2) (by kernel_rfl) (by kernel_rfl) (by kernel_rfl) ?hR ?hG ?hops ?hend
    case hR =>
      intro j v w1 w2 hv hb
      match j, hv with
      | 0, hv => exact hv
      | 1, hv => exact hv
      | 2, hv => exact hv
      | 3, hv => exact hv
      | 4, hv => exact hv
      | 5, hv => exact hv
      | 6, hv => exact hv
      | 7, hv => exact hv
      | 8, hv => exact hv
      | 9, hv => exact hv
      | 10, hv => exact hv
      | 11, hv => exact hv
      | 12, hv => exact hv
      | 13, hv => exact hv
      | 14, hv => exact hv
      | 15, hv => exact hv
      | _ + 16, _ => exact trivial
    case hG => exact (Below.refl _ _).drew
    case hops =>
      refine OpsOkS.cons ?o0 (OpsOkS.cons ?o1 (OpsOkS.cons ?o2 (OpsOkS.cons ?o3 (OpsOkS.cons ?o4 (OpsOkS.cons ?o5 (OpsOkS.cons ?o6 (OpsOkS.cons ?o7 (OpsOkS.cons ?o8 (OpsOkS.cons ?o9 (OpsOkS.cons ?o10 (OpsOkS.cons ?o11 (OpsOkS.cons ?o12 (OpsOkS.cons ?o13 (OpsOkS.cons ?o14 (OpsOkS.cons ?o15 OpsOkS.nil)))))))))))))))
      case o0 =>
        intro a w1 Kx hG need old hsz fresh hKx
        have e0 : a.tmps[4]?.getD undef = .pointer (some ⟨P, 0, none⟩) := by rw [← Array.getD_eq_getD_getElem?]; exact old 4 (by kernel_rfl)
        obtain ⟨j0, j1, j2, j3, j4⟩ := (HK.out w1 hG).1.cells
        refine op_value (v := .agg #[.int .i64 k, .int .i64 l, .int .i64 z, .slice A sq.length c, .slice B en.length d]) (wanted_none rfl) ?_ (hKx _ w1 rfl hG (Below.refl _ _))
        simp [execOp, go_sem, e0, j0, j1, j2, j3, j4]
      case o1 =>
        intro a w1 Kx hG need old hsz fresh hKx
        have e0 : a.tmps[15]?.getD undef = .agg #[.int .i64 k, .int .i64 l, .int .i64 z, .slice A sq.length c, .slice B en.length d] := by rw [← Array.getD_eq_getD_getElem?]; exact (need 0 (by kernel_rfl) (by kernel_rfl))
        refine op_call (wanted_none rfl) (f := 8) (args := #[.agg #[.int .i64 k, .int .i64 l, .int .i64 z, .slice A sq.length c, .slice B en.length d]]) ?run ((HLA.out w1 (HN.out w1 hG)).mono ?post)
        case run => simp [go_sem, e0]
        case post =>
          rintro e w2 ⟨rfl, hb2⟩
          exact ⟨_, rfl, hKx _ w2 rfl (hG.trans (hb2.mono hG.size)) hb2⟩
      case o2 =>
        intro a w1 Kx hG need old hsz fresh hKx
        have e0 : a.tmps[5]?.getD undef = .pointer (some ⟨P + 1, 0, none⟩) := by rw [← Array.getD_eq_getD_getElem?]; exact old 5 (by kernel_rfl)
        obtain ⟨j0, j1, j2, j3, j4⟩ := (HK.out w1 hG).2.cells
        refine op_value (v := .agg #[.int .i64 k', .int .i64 l', .int .i64 z', .slice A' sq'.length c', .slice B' en'.length d']) (wanted_none rfl) ?_ (hKx _ w1 rfl hG (Below.refl _ _))
        simp [execOp, go_sem, e0, j0, j1, j2, j3, j4]
      case o3 =>
        intro a w1 Kx hG need old hsz fresh hKx
        have e0 : a.tmps[17]?.getD undef = .agg #[.int .i64 k', .int .i64 l', .int .i64 z', .slice A' sq'.length c', .slice B' en'.length d'] := by rw [← Array.getD_eq_getD_getElem?]; exact (need 2 (by kernel_rfl) (by kernel_rfl))
        refine op_call (wanted_none rfl) (f := 8) (args := #[.agg #[.int .i64 k', .int .i64 l', .int .i64 z', .slice A' sq'.length c', .slice B' en'.length d']]) ?run ((HLB.out w1 (HM.out w1 hG)).mono ?post)
        case run => simp [go_sem, e0]
        case post =>
          rintro e w2 ⟨rfl, hb2⟩
          exact ⟨_, rfl, hKx _ w2 rfl (hG.trans (hb2.mono hG.size)) hb2⟩
      case o4 =>
        intro a w1 Kx hG need old hsz fresh hKx
        have e0 : a.tmps[16]?.getD undef = .int .i64 0 := by rw [← Array.getD_eq_getD_getElem?]; exact (need 1 (by kernel_rfl) (by kernel_rfl))
        have e1 : a.tmps[18]?.getD undef = .int .i64 0 := by rw [← Array.getD_eq_getD_getElem?]; exact (need 3 (by kernel_rfl) (by kernel_rfl))
        refine op_value (v := .int .i64 0) (wanted_none rfl) ?_ (hKx _ w1 rfl hG (Below.refl _ _))
        simp [execOp, go_sem, e0, e1]; rfl
      case o5 =>
        intro a w1 Kx hG need old hsz fresh hKx
        have e0 : a.tmps[19]?.getD undef = .int .i64 0 := by rw [← Array.getD_eq_getD_getElem?]; exact (need 4 (by kernel_rfl) (by kernel_rfl))
        refine op_value (v := .bool false) (wanted_none rfl) ?_ (hKx _ w1 rfl hG (Below.refl _ _))
        simp [execOp, go_sem, e0]
      case o6 =>
        intro a w1 Kx hG need old hsz fresh hKx
        have e0 : a.tmps[20]?.getD undef = .bool false := by rw [← Array.getD_eq_getD_getElem?]; exact (need 5 (by kernel_rfl) (by kernel_rfl))
        refine op_value (v := .bool false) (wanted_none rfl) ?_ (hKx _ w1 rfl hG (Below.refl _ _))
        simp [execOp, go_sem, e0]
      case o7 =>
        intro a w1 Kx hG need old hsz fresh hKx
        have e0 : a.tmps[4]?.getD undef = .pointer (some ⟨P, 0, none⟩) := by rw [← Array.getD_eq_getD_getElem?]; exact old 4 (by kernel_rfl)
        obtain ⟨j0, j1, j2, j3, j4⟩ := (HK.out w1 hG).1.cells
        refine op_value (v := .agg #[.int .i64 k, .int .i64 l, .int .i64 z, .slice A sq.length c, .slice B en.length d]) (wanted_of (j := 6) rfl (need 6 (by kernel_rfl) (by kernel_rfl))) ?_ (hKx _ w1 rfl hG (Below.refl _ _))
        simp [execOp, go_sem, e0, j0, j1, j2, j3, j4]
      case o8 =>
        intro a w1 Kx hG need old hsz fresh hKx
        have e0 : a.tmps[22]?.getD undef = .agg #[.int .i64 k, .int .i64 l, .int .i64 z, .slice A sq.length c, .slice B en.length d] := by rw [← Array.getD_eq_getD_getElem?]; exact (need 7 (by kernel_rfl) (by kernel_rfl))
        refine op_call (wanted_of (j := 6) rfl (need 6 (by kernel_rfl) (by kernel_rfl))) (f := 13) (args := #[.agg #[.int .i64 k, .int .i64 l, .int .i64 z, .slice A sq.length c, .slice B en.length d]]) ?run ((HMA.out w1 (HN.out w1 hG)).mono ?post)
        case run => simp [go_sem, e0]
        case post =>
          rintro e w2 ⟨rfl, hb2⟩
          exact ⟨_, rfl, hKx _ w2 rfl (hG.trans (hb2.mono hG.size)) hb2⟩
      case o9 =>
        intro a w1 Kx hG need old hsz fresh hKx
        have e0 : a.tmps[23]?.getD undef = .bool false := by rw [← Array.getD_eq_getD_getElem?]; exact (need 8 (by kernel_rfl) (by kernel_rfl))
        refine op_value (v := .bool true) (wanted_of (j := 6) rfl (need 6 (by kernel_rfl) (by kernel_rfl))) ?_ (hKx _ w1 rfl hG (Below.refl _ _))
        simp [execOp, go_sem, e0]
      case o10 =>
        intro a w1 Kx hG need old hsz fresh hKx
        have e0 : a.tmps[21]?.getD undef = .bool false := by rw [← Array.getD_eq_getD_getElem?]; exact (need 6 (by kernel_rfl) (by kernel_rfl))
        have e1 : a.tmps[24]?.getD undef = .bool true := by rw [← Array.getD_eq_getD_getElem?]; exact (need 9 (by kernel_rfl) (by kernel_rfl))
        refine op_value (v := .bool true) (wanted_none rfl) ?_ (hKx _ w1 rfl hG (Below.refl _ _))
        simp [execOp, go_sem, asBool, e0, e1]
      case o11 =>
        intro a w1 Kx hG need old hsz fresh hKx
        have e0 : a.tmps[25]?.getD undef = .bool true := by rw [← Array.getD_eq_getD_getElem?]; exact (need 10 (by kernel_rfl) (by kernel_rfl))
        refine op_value (v := .bool true) (wanted_none rfl) ?_ (hKx _ w1 rfl hG (Below.refl _ _))
        simp [execOp, go_sem, e0]
      case o12 =>
        intro a w1 Kx hG need old hsz fresh hKx
        exact skip_op (j := 11) rfl (need 11 (by kernel_rfl) (by kernel_rfl)) (by decide) (hKx undef w1 rfl hG (Below.refl _ _))
      case o13 =>
        intro a w1 Kx hG need old hsz fresh hKx
        exact skip_op (j := 11) rfl (need 11 (by kernel_rfl) (by kernel_rfl)) (by decide) (hKx undef w1 rfl hG (Below.refl _ _))
      case o14 =>
        intro a w1 Kx hG need old hsz fresh hKx
        exact skip_op (j := 11) rfl (need 11 (by kernel_rfl) (by kernel_rfl)) (by decide) (hKx undef w1 rfl hG (Below.refl _ _))
      case o15 =>
        intro a w1 Kx hG need old hsz fresh hKx
        have e0 : a.tmps[26]?.getD undef = .bool true := by rw [← Array.getD_eq_getD_getElem?]; exact (need 11 (by kernel_rfl) (by kernel_rfl))
        refine op_value (v := .bool true) (wanted_none rfl) ?_ (hKx _ w1 rfl hG (Below.refl _ _))
        simp [execOp, go_sem, asBool, e0]
    case hend =>
      intro a w6 hG hde hsz hφ hold
      obtain rfl := act_puts [(15, .agg #[.int .i64 k, .int .i64 l, .int .i64 z, .slice A sq.length c, .slice B en.length d]), (16, .int .i64 0), (17, .agg #[.int .i64 k', .int .i64 l', .int .i64 z', .slice A' sq'.length c', .slice B' en'.length d']), (18, .int .i64 0), (19, .int .i64 0), (20, .bool false), (21, .bool false), (22, .agg #[.int .i64 k, .int .i64 l, .int .i64 z, .slice A sq.length c, .slice B en.length d]), (23, .bool false), (24, .bool true), (25, .bool true), (26, .bool true), (27, undef), (28, undef), (29, undef), (30, .bool true)] [15, 16, 17, 18, 19, 20, 21, 22, 23, 24, 25, 26, 27, 28, 29, 30] rfl (by kernel_rfl) (by kernel_rfl) hde hsz (List.forall_mem_cons.2 ⟨(show a.tmps.getD 15 undef = .agg #[.int .i64 k, .int .i64 l, .int .i64 z, .slice A sq.length c, .slice B en.length d] from (hφ 0 (by kernel_rfl))), (List.forall_mem_cons.2 ⟨(show a.tmps.getD 16 undef = .int .i64 0 from (hφ 1 (by kernel_rfl))), (List.forall_mem_cons.2 ⟨(show a.tmps.getD 17 undef = .agg #[.int .i64 k', .int .i64 l', .int .i64 z', .slice A' sq'.length c', .slice B' en'.length d'] from (hφ 2 (by kernel_rfl))), (List.forall_mem_cons.2 ⟨(show a.tmps.getD 18 undef = .int .i64 0 from (hφ 3 (by kernel_rfl))), (List.forall_mem_cons.2 ⟨(show a.tmps.getD 19 undef = .int .i64 0 from (hφ 4 (by kernel_rfl))), (List.forall_mem_cons.2 ⟨(show a.tmps.getD 20 undef = .bool false from (hφ 5 (by kernel_rfl))), (List.forall_mem_cons.2 ⟨(show a.tmps.getD 21 undef = .bool false from (hφ 6 (by kernel_rfl))), (List.forall_mem_cons.2 ⟨(show a.tmps.getD 22 undef = .agg #[.int .i64 k, .int .i64 l, .int .i64 z, .slice A sq.length c, .slice B en.length d] from (hφ 7 (by kernel_rfl))), (List.forall_mem_cons.2 ⟨(show a.tmps.getD 23 undef = .bool false from (hφ 8 (by kernel_rfl))), (List.forall_mem_cons.2 ⟨(show a.tmps.getD 24 undef = .bool true from (hφ 9 (by kernel_rfl))), (List.forall_mem_cons.2 ⟨(show a.tmps.getD 25 undef = .bool true from (hφ 10 (by kernel_rfl))), (List.forall_mem_cons.2 ⟨(show a.tmps.getD 26 undef = .bool true from (hφ 11 (by kernel_rfl))), (List.forall_mem_cons.2 ⟨(show a.tmps.getD 27 undef = undef from (hφ 12 (by kernel_rfl))), (List.forall_mem_cons.2 ⟨(show a.tmps.getD 28 undef = undef from (hφ 13 (by kernel_rfl))), (List.forall_mem_cons.2 ⟨(show a.tmps.getD 29 undef = undef from (hφ 14 (by kernel_rfl))), (List.forall_mem_cons.2 ⟨(show a.tmps.getD 30 undef = .bool true from (hφ 15 (by kernel_rfl))), (fun _ h => absurd h (by simp))⟩)⟩)⟩)⟩)⟩)⟩)⟩)⟩)⟩)⟩)⟩)⟩)⟩)⟩)⟩)⟩) hold
      clear hφ hold hsz hde
      simp only [putAll]
      go_frame
      go_wp2_with (first
        | (go_at_call 9; (with_reducible refine (awake_any _).mono ?_); rintro e w2 ⟨rfl, hb2⟩; have HB2 := Lib.hid hb2; clear hb2)
        | fail)
      go_ret
      exact ⟨rfl, HB0.out.trans ((hG.trans (HB2.out.mono hG.size)).mono HB0.out.size)⟩
  cases MB
  case false =>
    refine region_st (fun j v w' => match j with | 0 => v = .agg #[.int .i64 k, .int .i64 l, .int .i64 z, .slice A sq.length c, .slice B en.length d] | 1 => v = .int .i64 0 | 2 => v = .agg #[.int .i64 k', .int .i64 l', .int .i64 z', .slice A' sq'.length c', .slice B' en'.length d'] | 3 => v = .int .i64 0 | 4 => v = .int .i64 0 | 5 => v = .bool false | 6 => v = .bool false | 7 => v = .agg #[.int .i64 k, .int .i64 l, .int .i64 z, .slice A sq.length c, .slice B en.length d] | 8 => v = .bool true | 9 => v = .bool false | 10 => v = .bool false | 11 => v = .bool false | 12 => v = .agg #[.int .i64 k', .int .i64 l', .int .i64 z', .slice A' sq'.length c', .slice B' en'.length d'] | 13 => v = .bool false | 14 => v = .bool true | 15 => v = .bool true | _ => True) (fun _ w' => Below W.heap.size W w') (fun w1 w2 => Below w1.heap.size w1 w2) (by kernel_rfl) (by kernel_rfl) (by kernel_rfl) ?hR ?hG ?hops ?hend
    case hR =>
      intro j v w1 w2 hv hb
      match j, hv with
      | 0, hv => exact hv
      | 1, hv => exact hv
      | 2, hv => exact hv
      | 3, hv => exact hv
      | 4, hv => exact hv
      | 5, hv => exact hv
      | 6, hv => exact hv
      | 7, hv => exact hv
      | 8, hv => exact hv
      | 9, hv => exact hv
      | 10, hv => exact hv
      | 11, hv => exact hv
      | 12, hv => exact hv
      | 13, hv => exact hv
      | 14, hv => exact hv
      | 15, hv => exact hv
      | _ + 16, _ => exact trivial
    case hG => exact (Below.refl _ _).drew
    case hops =>
      refine OpsOkS.cons ?o0 (OpsOkS.cons ?o1 (OpsOkS.cons ?o2 (OpsOkS.cons ?o3 (OpsOkS.cons ?o4 (OpsOkS.cons ?o5 (OpsOkS.cons ?o6 (OpsOkS.cons ?o7 (OpsOkS.cons ?o8 (OpsOkS.cons ?o9 (OpsOkS.cons ?o10 (OpsOkS.cons ?o11 (OpsOkS.cons ?o12 (OpsOkS.cons ?o13 (OpsOkS.cons ?o14 (OpsOkS.cons ?o15 OpsOkS.nil)))))))))))))))
      case o0 =>
        intro a w1 Kx hG need old hsz fresh hKx
        have e0 : a.tmps[4]?.getD undef = .pointer (some ⟨P, 0, none⟩) := by rw [← Array.getD_eq_getD_getElem?]; exact old 4 (by kernel_rfl)
        obtain ⟨j0, j1, j2, j3, j4⟩ := (HK.out w1 hG).1.cells
        refine op_value (v := .agg #[.int .i64 k, .int .i64 l, .int .i64 z, .slice A sq.length c, .slice B en.length d]) (wanted_none rfl) ?_ (hKx _ w1 rfl hG (Below.refl _ _))
        simp [execOp, go_sem, e0, j0, j1, j2, j3, j4]
      case o1 =>
        intro a w1 Kx hG need old hsz fresh hKx
        have e0 : a.tmps[15]?.getD undef = .agg #[.int .i64 k, .int .i64 l, .int .i64 z, .slice A sq.length c, .slice B en.length d] := by rw [← Array.getD_eq_getD_getElem?]; exact (need 0 (by kernel_rfl) (by kernel_rfl))
        refine op_call (wanted_none rfl) (f := 8) (args := #[.agg #[.int .i64 k, .int .i64 l, .int .i64 z, .slice A sq.length c, .slice B en.length d]]) ?run ((HLA.out w1 (HN.out w1 hG)).mono ?post)
        case run => simp [go_sem, e0]
        case post =>
          rintro e w2 ⟨rfl, hb2⟩
          exact ⟨_, rfl, hKx _ w2 rfl (hG.trans (hb2.mono hG.size)) hb2⟩
      case o2 =>
        intro a w1 Kx hG need old hsz fresh hKx
        have e0 : a.tmps[5]?.getD undef = .pointer (some ⟨P + 1, 0, none⟩) := by rw [← Array.getD_eq_getD_getElem?]; exact old 5 (by kernel_rfl)
        obtain ⟨j0, j1, j2, j3, j4⟩ := (HK.out w1 hG).2.cells
        refine op_value (v := .agg #[.int .i64 k', .int .i64 l', .int .i64 z', .slice A' sq'.length c', .slice B' en'.length d']) (wanted_none rfl) ?_ (hKx _ w1 rfl hG (Below.refl _ _))
        simp [execOp, go_sem, e0, j0, j1, j2, j3, j4]
      case o3 =>
        intro a w1 Kx hG need old hsz fresh hKx
        have e0 : a.tmps[17]?.getD undef = .agg #[.int .i64 k', .int .i64 l', .int .i64 z', .slice A' sq'.length c', .slice B' en'.length d'] := by rw [← Array.getD_eq_getD_getElem?]; exact (need 2 (by kernel_rfl) (by kernel_rfl))
        refine op_call (wanted_none rfl) (f := 8) (args := #[.agg #[.int .i64 k', .int .i64 l', .int .i64 z', .slice A' sq'.length c', .slice B' en'.length d']]) ?run ((HLB.out w1 (HM.out w1 hG)).mono ?post)
        case run => simp [go_sem, e0]
        case post =>
          rintro e w2 ⟨rfl, hb2⟩
          exact ⟨_, rfl, hKx _ w2 rfl (hG.trans (hb2.mono hG.size)) hb2⟩
      case o4 =>
        intro a w1 Kx hG need old hsz fresh hKx
        have e0 : a.tmps[16]?.getD undef = .int .i64 0 := by rw [← Array.getD_eq_getD_getElem?]; exact (need 1 (by kernel_rfl) (by kernel_rfl))
        have e1 : a.tmps[18]?.getD undef = .int .i64 0 := by rw [← Array.getD_eq_getD_getElem?]; exact (need 3 (by kernel_rfl) (by kernel_rfl))
        refine op_value (v := .int .i64 0) (wanted_none rfl) ?_ (hKx _ w1 rfl hG (Below.refl _ _))
        simp [execOp, go_sem, e0, e1]; rfl
      case o5 =>
        intro a w1 Kx hG need old hsz fresh hKx
        have e0 : a.tmps[19]?.getD undef = .int .i64 0 := by rw [← Array.getD_eq_getD_getElem?]; exact (need 4 (by kernel_rfl) (by kernel_rfl))
        refine op_value (v := .bool false) (wanted_none rfl) ?_ (hKx _ w1 rfl hG (Below.refl _ _))
        simp [execOp, go_sem, e0]
      case o6 =>
        intro a w1 Kx hG need old hsz fresh hKx
        have e0 : a.tmps[20]?.getD undef = .bool false := by rw [← Array.getD_eq_getD_getElem?]; exact (need 5 (by kernel_rfl) (by kernel_rfl))
        refine op_value (v := .bool false) (wanted_none rfl) ?_ (hKx _ w1 rfl hG (Below.refl _ _))
        simp [execOp, go_sem, e0]
      case o7 =>
        intro a w1 Kx hG need old hsz fresh hKx
        have e0 : a.tmps[4]?.getD undef = .pointer (some ⟨P, 0, none⟩) := by rw [← Array.getD_eq_getD_getElem?]; exact old 4 (by kernel_rfl)
        obtain ⟨j0, j1, j2, j3, j4⟩ := (HK.out w1 hG).1.cells
        refine op_value (v := .agg #[.int .i64 k, .int .i64 l, .int .i64 z, .slice A sq.length c, .slice B en.length d]) (wanted_of (j := 6) rfl (need 6 (by kernel_rfl) (by kernel_rfl))) ?_ (hKx _ w1 rfl hG (Below.refl _ _))
        simp [execOp, go_sem, e0, j0, j1, j2, j3, j4]
      case o8 =>
        intro a w1 Kx hG need old hsz fresh hKx
        have e0 : a.tmps[22]?.getD undef = .agg #[.int .i64 k, .int .i64 l, .int .i64 z, .slice A sq.length c, .slice B en.length d] := by rw [← Array.getD_eq_getD_getElem?]; exact (need 7 (by kernel_rfl) (by kernel_rfl))
        refine op_call (wanted_of (j := 6) rfl (need 6 (by kernel_rfl) (by kernel_rfl))) (f := 13) (args := #[.agg #[.int .i64 k, .int .i64 l, .int .i64 z, .slice A sq.length c, .slice B en.length d]]) ?run ((HMA.out w1 (HN.out w1 hG)).mono ?post)
        case run => simp [go_sem, e0]
        case post =>
          rintro e w2 ⟨rfl, hb2⟩
          exact ⟨_, rfl, hKx _ w2 rfl (hG.trans (hb2.mono hG.size)) hb2⟩
      case o9 =>
        intro a w1 Kx hG need old hsz fresh hKx
        have e0 : a.tmps[23]?.getD undef = .bool true := by rw [← Array.getD_eq_getD_getElem?]; exact (need 8 (by kernel_rfl) (by kernel_rfl))
        refine op_value (v := .bool false) (wanted_of (j := 6) rfl (need 6 (by kernel_rfl) (by kernel_rfl))) ?_ (hKx _ w1 rfl hG (Below.refl _ _))
        simp [execOp, go_sem, e0]
      case o10 =>
        intro a w1 Kx hG need old hsz fresh hKx
        have e0 : a.tmps[21]?.getD undef = .bool false := by rw [← Array.getD_eq_getD_getElem?]; exact (need 6 (by kernel_rfl) (by kernel_rfl))
        have e1 : a.tmps[24]?.getD undef = .bool false := by rw [← Array.getD_eq_getD_getElem?]; exact (need 9 (by kernel_rfl) (by kernel_rfl))
        refine op_value (v := .bool false) (wanted_none rfl) ?_ (hKx _ w1 rfl hG (Below.refl _ _))
        simp [execOp, go_sem, asBool, e0, e1]
      case o11 =>
        intro a w1 Kx hG need old hsz fresh hKx
        have e0 : a.tmps[25]?.getD undef = .bool false := by rw [← Array.getD_eq_getD_getElem?]; exact (need 10 (by kernel_rfl) (by kernel_rfl))
        refine op_value (v := .bool false) (wanted_none rfl) ?_ (hKx _ w1 rfl hG (Below.refl _ _))
        simp [execOp, go_sem, e0]
      case o12 =>
        intro a w1 Kx hG need old hsz fresh hKx
        have e0 : a.tmps[5]?.getD undef = .pointer (some ⟨P + 1, 0, none⟩) := by rw [← Array.getD_eq_getD_getElem?]; exact old 5 (by kernel_rfl)
        obtain ⟨j0, j1, j2, j3, j4⟩ := (HK.out w1 hG).2.cells
        refine op_value (v := .agg #[.int .i64 k', .int .i64 l', .int .i64 z', .slice A' sq'.length c', .slice B' en'.length d']) (wanted_of (j := 11) rfl (need 11 (by kernel_rfl) (by kernel_rfl))) ?_ (hKx _ w1 rfl hG (Below.refl _ _))
        simp [execOp, go_sem, e0, j0, j1, j2, j3, j4]
      case o13 =>
        intro a w1 Kx hG need old hsz fresh hKx
        have e0 : a.tmps[27]?.getD undef = .agg #[.int .i64 k', .int .i64 l', .int .i64 z', .slice A' sq'.length c', .slice B' en'.length d'] := by rw [← Array.getD_eq_getD_getElem?]; exact (need 12 (by kernel_rfl) (by kernel_rfl))
        refine op_call (wanted_of (j := 11) rfl (need 11 (by kernel_rfl) (by kernel_rfl))) (f := 13) (args := #[.agg #[.int .i64 k', .int .i64 l', .int .i64 z', .slice A' sq'.length c', .slice B' en'.length d']]) ?run ((HMB.out w1 (HM.out w1 hG)).mono ?post)
        case run => simp [go_sem, e0]
        case post =>
          rintro e w2 ⟨rfl, hb2⟩
          exact ⟨_, rfl, hKx _ w2 rfl (hG.trans (hb2.mono hG.size)) hb2⟩
      case o14 =>
        intro a w1 Kx hG need old hsz fresh hKx
        have e0 : a.tmps[28]?.getD undef = .bool false := by rw [← Array.getD_eq_getD_getElem?]; exact (need 13 (by kernel_rfl) (by kernel_rfl))
        refine op_value (v := .bool true) (wanted_of (j := 11) rfl (need 11 (by kernel_rfl) (by kernel_rfl))) ?_ (hKx _ w1 rfl hG (Below.refl _ _))
        simp [execOp, go_sem, e0]
      case o15 =>
        intro a w1 Kx hG need old hsz fresh hKx
        have e0 : a.tmps[26]?.getD undef = .bool false := by rw [← Array.getD_eq_getD_getElem?]; exact (need 11 (by kernel_rfl) (by kernel_rfl))
        have e1 : a.tmps[29]?.getD undef = .bool true := by rw [← Array.getD_eq_getD_getElem?]; exact (need 14 (by kernel_rfl) (by kernel_rfl))
        refine op_value (v := .bool true) (wanted_none rfl) ?_ (hKx _ w1 rfl hG (Below.refl _ _))
        simp [execOp, go_sem, asBool, e0, e1]
    case hend =>
      intro a w6 hG hde hsz hφ hold
      obtain rfl := act_puts [(15, .agg #[.int .i64 k, .int .i64 l, .int .i64 z, .slice A sq.length c, .slice B en.length d]), (16, .int .i64 0), (17, .agg #[.int .i64 k', .int .i64 l', .int .i64 z', .slice A' sq'.length c', .slice B' en'.length d']), (18, .int .i64 0), (19, .int .i64 0), (20, .bool false), (21, .bool false), (22, .agg #[.int .i64 k, .int .i64 l, .int .i64 z, .slice A sq.length c, .slice B en.length d]), (23, .bool true), (24, .bool false), (25, .bool false), (26, .bool false), (27, .agg #[.int .i64 k', .int .i64 l', .int .i64 z', .slice A' sq'.length c', .slice B' en'.length d']), (28, .bool false), (29, .bool true), (30, .bool true)] [15, 16, 17, 18, 19, 20, 21, 22, 23, 24, 25, 26, 27, 28, 29, 30] rfl (by kernel_rfl) (by kernel_rfl) hde hsz (List.forall_mem_cons.2 ⟨(show a.tmps.getD 15 undef = .agg #[.int .i64 k, .int .i64 l, .int .i64 z, .slice A sq.length c, .slice B en.length d] from (hφ 0 (by kernel_rfl))), (List.forall_mem_cons.2 ⟨(show a.tmps.getD 16 undef = .int .i64 0 from (hφ 1 (by kernel_rfl))), (List.forall_mem_cons.2 ⟨(show a.tmps.getD 17 undef = .agg #[.int .i64 k', .int .i64 l', .int .i64 z', .slice A' sq'.length c', .slice B' en'.length d'] from (hφ 2 (by kernel_rfl))), (List.forall_mem_cons.2 ⟨(show a.tmps.getD 18 undef = .int .i64 0 from (hφ 3 (by kernel_rfl))), (List.forall_mem_cons.2 ⟨(show a.tmps.getD 19 undef = .int .i64 0 from (hφ 4 (by kernel_rfl))), (List.forall_mem_cons.2 ⟨(show a.tmps.getD 20 undef = .bool false from (hφ 5 (by kernel_rfl))), (List.forall_mem_cons.2 ⟨(show a.tmps.getD 21 undef = .bool false from (hφ 6 (by kernel_rfl))), (List.forall_mem_cons.2 ⟨(show a.tmps.getD 22 undef = .agg #[.int .i64 k, .int .i64 l, .int .i64 z, .slice A sq.length c, .slice B en.length d] from (hφ 7 (by kernel_rfl))), (List.forall_mem_cons.2 ⟨(show a.tmps.getD 23 undef = .bool true from (hφ 8 (by kernel_rfl))), (List.forall_mem_cons.2 ⟨(show a.tmps.getD 24 undef = .bool false from (hφ 9 (by kernel_rfl))), (List.forall_mem_cons.2 ⟨(show a.tmps.getD 25 undef = .bool false from (hφ 10 (by kernel_rfl))), (List.forall_mem_cons.2 ⟨(show a.tmps.getD 26 undef = .bool false from (hφ 11 (by kernel_rfl))), (List.forall_mem_cons.2 ⟨(show a.tmps.getD 27 undef = .agg #[.int .i64 k', .int .i64 l', .int .i64 z', .slice A' sq'.length c', .slice B' en'.length d'] from (hφ 12 (by kernel_rfl))), (List.forall_mem_cons.2 ⟨(show a.tmps.getD 28 undef = .bool false from (hφ 13 (by kernel_rfl))), (List.forall_mem_cons.2 ⟨(show a.tmps.getD 29 undef = .bool true from (hφ 14 (by kernel_rfl))), (List.forall_mem_cons.2 ⟨(show a.tmps.getD 30 undef = .bool true from (hφ 15 (by kernel_rfl))), (fun _ h => absurd h (by simp))⟩)⟩)⟩)⟩)⟩)⟩)⟩)⟩)⟩)⟩)⟩)⟩)⟩)⟩)⟩)⟩) hold
      clear hφ hold hsz hde
      simp only [putAll]
      go_frame
      go_wp2_with (first
        | (go_at_call 9; (with_reducible refine (awake_any _).mono ?_); rintro e w2 ⟨rfl, hb2⟩; have HB2 := Lib.hid hb2; clear hb2)
        | fail)
      go_ret
      exact ⟨rfl, HB0.out.trans ((hG.trans (HB2.out.mono hG.size)).mono HB0.out.size)⟩
  refine region_st (fun j v w' => match j with | 0 => v = .agg #[.int .i64 k, .int .i64 l, .int .i64 z, .slice A sq.length c, .slice B en.length d] | 1 => v = .int .i64 0 | 2 => v = .agg #[.int .i64 k', .int .i64 l', .int .i64 z', .slice A' sq'.length c', .slice B' en'.length d'] | 3 => v = .int .i64 0 | 4 => v = .int .i64 0 | 5 => v = .bool false | 6 => v = .bool false | 7 => v = .agg #[.int .i64 k, .int .i64 l, .int .i64 z, .slice A sq.length c, .slice B en.length d] | 8 => v = .bool true | 9 => v = .bool false | 10 => v = .bool false | 11 => v = .bool false | 12 => v = .agg #[.int .i64 k', .int .i64 l', .int .i64 z', .slice A' sq'.length c', .slice B' en'.length d'] | 13 => v = .bool true | 14 => v = .bool false | 15 => v = .bool false | _ => True) (fun _ w' => Below W.heap.size W w') (fun w1 w2 => Below w1.heap.size w1 w2) (by kernel_rfl) (by kernel_rfl) (by kernel_rfl) ?hR ?hG ?hops ?hend
  case hR =>
    intro j v w1 w2 hv hb
    match j, hv with
    | 0, hv => exact hv
    | 1, hv => exact hv
    | 2, hv => exact hv
    | 3, hv => exact hv
    | 4, hv => exact hv
    | 5, hv => exact hv
    | 6, hv => exact hv
    | 7, hv => exact hv
    | 8, hv => exact hv
    | 9, hv => exact hv
    | 10, hv => exact hv
    | 11, hv => exact hv
    | 12, hv => exact hv
    | 13, hv => exact hv
    | 14, hv => exact hv
    | 15, hv => exact hv
    | _ + 16, _ => exact trivial
  case hG => exact (Below.refl _ _).drew
  case hops =>
    refine OpsOkS.cons ?o0 (OpsOkS.cons ?o1 (OpsOkS.cons ?o2 (OpsOkS.cons ?o3 (OpsOkS.cons ?o4 (OpsOkS.cons ?o5 (OpsOkS.cons ?o6 (OpsOkS.cons ?o7 (OpsOkS.cons ?o8 (OpsOkS.cons ?o9 (OpsOkS.cons ?o10 (OpsOkS.cons ?o11 (OpsOkS.cons ?o12 (OpsOkS.cons ?o13 (OpsOkS.cons ?o14 (OpsOkS.cons ?o15 OpsOkS.nil)))))))))))))))
    case o0 =>
      intro a w1 Kx hG need old hsz fresh hKx
      have e0 : a.tmps[4]?.getD undef = .pointer (some ⟨P, 0, none⟩) := by rw [← Array.getD_eq_getD_getElem?]; exact old 4 (by kernel_rfl)
      obtain ⟨j0, j1, j2, j3, j4⟩ := (HK.out w1 hG).1.cells
      refine op_value (v := .agg #[.int .i64 k, .int .i64 l, .int .i64 z, .slice A sq.length c, .slice B en.length d]) (wanted_none rfl) ?_ (hKx _ w1 rfl hG (Below.refl _ _))
      simp [execOp, go_sem, e0, j0, j1, j2, j3, j4]
    case o1 =>
      intro a w1 Kx hG need old hsz fresh hKx
      have e0 : a.tmps[15]?.getD undef = .agg #[.int .i64 k, .int .i64 l, .int .i64 z, .slice A sq.length c, .slice B en.length d] := by rw [← Array.getD_eq_getD_getElem?]; exact (need 0 (by kernel_rfl) (by kernel_rfl))
      refine op_call (wanted_none rfl) (f := 8) (args := #[.agg #[.int .i64 k, .int .i64 l, .int .i64 z, .slice A sq.length c, .slice B en.length d]]) ?run ((HLA.out w1 (HN.out w1 hG)).mono ?post)
      case run => simp [go_sem, e0]
      case post =>
        rintro e w2 ⟨rfl, hb2⟩
        exact ⟨_, rfl, hKx _ w2 rfl (hG.trans (hb2.mono hG.size)) hb2⟩
    case o2 =>
      intro a w1 Kx hG need old hsz fresh hKx
      have e0 : a.tmps[5]?.getD undef = .pointer (some ⟨P + 1, 0, none⟩) := by rw [← Array.getD_eq_getD_getElem?]; exact old 5 (by kernel_rfl)
      obtain ⟨j0, j1, j2, j3, j4⟩ := (HK.out w1 hG).2.cells
      refine op_value (v := .agg #[.int .i64 k', .int .i64 l', .int .i64 z', .slice A' sq'.length c', .slice B' en'.length d']) (wanted_none rfl) ?_ (hKx _ w1 rfl hG (Below.refl _ _))
      simp [execOp, go_sem, e0, j0, j1, j2, j3, j4]
    case o3 =>
      intro a w1 Kx hG need old hsz fresh hKx
      have e0 : a.tmps[17]?.getD undef = .agg #[.int .i64 k', .int .i64 l', .int .i64 z', .slice A' sq'.length c', .slice B' en'.length d'] := by rw [← Array.getD_eq_getD_getElem?]; exact (need 2 (by kernel_rfl) (by kernel_rfl))
      refine op_call (wanted_none rfl) (f := 8) (args := #[.agg #[.int .i64 k', .int .i64 l', .int .i64 z', .slice A' sq'.length c', .slice B' en'.length d']]) ?run ((HLB.out w1 (HM.out w1 hG)).mono ?post)
      case run => simp [go_sem, e0]
      case post =>
        rintro e w2 ⟨rfl, hb2⟩
        exact ⟨_, rfl, hKx _ w2 rfl (hG.trans (hb2.mono hG.size)) hb2⟩
    case o4 =>
      intro a w1 Kx hG need old hsz fresh hKx
      have e0 : a.tmps[16]?.getD undef = .int .i64 0 := by rw [← Array.getD_eq_getD_getElem?]; exact (need 1 (by kernel_rfl) (by kernel_rfl))
      have e1 : a.tmps[18]?.getD undef = .int .i64 0 := by rw [← Array.getD_eq_getD_getElem?]; exact (need 3 (by kernel_rfl) (by kernel_rfl))
      refine op_value (v := .int .i64 0) (wanted_none rfl) ?_ (hKx _ w1 rfl hG (Below.refl _ _))
      simp [execOp, go_sem, e0, e1]; rfl
    case o5 =>
      intro a w1 Kx hG need old hsz fresh hKx
      have e0 : a.tmps[19]?.getD undef = .int .i64 0 := by rw [← Array.getD_eq_getD_getElem?]; exact (need 4 (by kernel_rfl) (by kernel_rfl))
      refine op_value (v := .bool false) (wanted_none rfl) ?_ (hKx _ w1 rfl hG (Below.refl _ _))
      simp [execOp, go_sem, e0]
    case o6 =>
      intro a w1 Kx hG need old hsz fresh hKx
      have e0 : a.tmps[20]?.getD undef = .bool false := by rw [← Array.getD_eq_getD_getElem?]; exact (need 5 (by kernel_rfl) (by kernel_rfl))
      refine op_value (v := .bool false) (wanted_none rfl) ?_ (hKx _ w1 rfl hG (Below.refl _ _))
      simp [execOp, go_sem, e0]
    case o7 =>
      intro a w1 Kx hG need old hsz fresh hKx
      have e0 : a.tmps[4]?.getD undef = .pointer (some ⟨P, 0, none⟩) := by rw [← Array.getD_eq_getD_getElem?]; exact old 4 (by kernel_rfl)
      obtain ⟨j0, j1, j2, j3, j4⟩ := (HK.out w1 hG).1.cells
      refine op_value (v := .agg #[.int .i64 k, .int .i64 l, .int .i64 z, .slice A sq.length c, .slice B en.length d]) (wanted_of (j := 6) rfl (need 6 (by kernel_rfl) (by kernel_rfl))) ?_ (hKx _ w1 rfl hG (Below.refl _ _))
      simp [execOp, go_sem, e0, j0, j1, j2, j3, j4]
    case o8 =>
      intro a w1 Kx hG need old hsz fresh hKx
      have e0 : a.tmps[22]?.getD undef = .agg #[.int .i64 k, .int .i64 l, .int .i64 z, .slice A sq.length c, .slice B en.length d] := by rw [← Array.getD_eq_getD_getElem?]; exact (need 7 (by kernel_rfl) (by kernel_rfl))
      refine op_call (wanted_of (j := 6) rfl (need 6 (by kernel_rfl) (by kernel_rfl))) (f := 13) (args := #[.agg #[.int .i64 k, .int .i64 l, .int .i64 z, .slice A sq.length c, .slice B en.length d]]) ?run ((HMA.out w1 (HN.out w1 hG)).mono ?post)
      case run => simp [go_sem, e0]
      case post =>
        rintro e w2 ⟨rfl, hb2⟩
        exact ⟨_, rfl, hKx _ w2 rfl (hG.trans (hb2.mono hG.size)) hb2⟩
    case o9 =>
      intro a w1 Kx hG need old hsz fresh hKx
      have e0 : a.tmps[23]?.getD undef = .bool true := by rw [← Array.getD_eq_getD_getElem?]; exact (need 8 (by kernel_rfl) (by kernel_rfl))
      refine op_value (v := .bool false) (wanted_of (j := 6) rfl (need 6 (by kernel_rfl) (by kernel_rfl))) ?_ (hKx _ w1 rfl hG (Below.refl _ _))
      simp [execOp, go_sem, e0]
    case o10 =>
      intro a w1 Kx hG need old hsz fresh hKx
      have e0 : a.tmps[21]?.getD undef = .bool false := by rw [← Array.getD_eq_getD_getElem?]; exact (need 6 (by kernel_rfl) (by kernel_rfl))
      have e1 : a.tmps[24]?.getD undef = .bool false := by rw [← Array.getD_eq_getD_getElem?]; exact (need 9 (by kernel_rfl) (by kernel_rfl))
      refine op_value (v := .bool false) (wanted_none rfl) ?_ (hKx _ w1 rfl hG (Below.refl _ _))
      simp [execOp, go_sem, asBool, e0, e1]
    case o11 =>
      intro a w1 Kx hG need old hsz fresh hKx
      have e0 : a.tmps[25]?.getD undef = .bool false := by rw [← Array.getD_eq_getD_getElem?]; exact (need 10 (by kernel_rfl) (by kernel_rfl))
      refine op_value (v := .bool false) (wanted_none rfl) ?_ (hKx _ w1 rfl hG (Below.refl _ _))
      simp [execOp, go_sem, e0]
    case o12 =>
      intro a w1 Kx hG need old hsz fresh hKx
      have e0 : a.tmps[5]?.getD undef = .pointer (some ⟨P + 1, 0, none⟩) := by rw [← Array.getD_eq_getD_getElem?]; exact old 5 (by kernel_rfl)
      obtain ⟨j0, j1, j2, j3, j4⟩ := (HK.out w1 hG).2.cells
      refine op_value (v := .agg #[.int .i64 k', .int .i64 l', .int .i64 z', .slice A' sq'.length c', .slice B' en'.length d']) (wanted_of (j := 11) rfl (need 11 (by kernel_rfl) (by kernel_rfl))) ?_ (hKx _ w1 rfl hG (Below.refl _ _))
      simp [execOp, go_sem, e0, j0, j1, j2, j3, j4]
    case o13 =>
      intro a w1 Kx hG need old hsz fresh hKx
      have e0 : a.tmps[27]?.getD undef = .agg #[.int .i64 k', .int .i64 l', .int .i64 z', .slice A' sq'.length c', .slice B' en'.length d'] := by rw [← Array.getD_eq_getD_getElem?]; exact (need 12 (by kernel_rfl) (by kernel_rfl))
      refine op_call (wanted_of (j := 11) rfl (need 11 (by kernel_rfl) (by kernel_rfl))) (f := 13) (args := #[.agg #[.int .i64 k', .int .i64 l', .int .i64 z', .slice A' sq'.length c', .slice B' en'.length d']]) ?run ((HMB.out w1 (HM.out w1 hG)).mono ?post)
      case run => simp [go_sem, e0]
      case post =>
        rintro e w2 ⟨rfl, hb2⟩
        exact ⟨_, rfl, hKx _ w2 rfl (hG.trans (hb2.mono hG.size)) hb2⟩
    case o14 =>
      intro a w1 Kx hG need old hsz fresh hKx
      have e0 : a.tmps[28]?.getD undef = .bool true := by rw [← Array.getD_eq_getD_getElem?]; exact (need 13 (by kernel_rfl) (by kernel_rfl))
      refine op_value (v := .bool false) (wanted_of (j := 11) rfl (need 11 (by kernel_rfl) (by kernel_rfl))) ?_ (hKx _ w1 rfl hG (Below.refl _ _))
      simp [execOp, go_sem, e0]
    case o15 =>
      intro a w1 Kx hG need old hsz fresh hKx
      have e0 : a.tmps[26]?.getD undef = .bool false := by rw [← Array.getD_eq_getD_getElem?]; exact (need 11 (by kernel_rfl) (by kernel_rfl))
      have e1 : a.tmps[29]?.getD undef = .bool false := by rw [← Array.getD_eq_getD_getElem?]; exact (need 14 (by kernel_rfl) (by kernel_rfl))
      refine op_value (v := .bool false) (wanted_none rfl) ?_ (hKx _ w1 rfl hG (Below.refl _ _))
      simp [execOp, go_sem, asBool, e0, e1]
  case hend =>
    intro a w6 hG hde hsz hφ hold
    obtain rfl := act_puts [(15, .agg #[.int .i64 k, .int .i64 l, .int .i64 z, .slice A sq.length c, .slice B en.length d]), (16, .int .i64 0), (17, .agg #[.int .i64 k', .int .i64 l', .int .i64 z', .slice A' sq'.length c', .slice B' en'.length d']), (18, .int .i64 0), (19, .int .i64 0), (20, .bool false), (21, .bool false), (22, .agg #[.int .i64 k, .int .i64 l, .int .i64 z, .slice A sq.length c, .slice B en.length d]), (23, .bool true), (24, .bool false), (25, .bool false), (26, .bool false), (27, .agg #[.int .i64 k', .int .i64 l', .int .i64 z', .slice A' sq'.length c', .slice B' en'.length d']), (28, .bool true), (29, .bool false), (30, .bool false)] [15, 16, 17, 18, 19, 20, 21, 22, 23, 24, 25, 26, 27, 28, 29, 30] rfl (by kernel_rfl) (by kernel_rfl) hde hsz (List.forall_mem_cons.2 ⟨(show a.tmps.getD 15 undef = .agg #[.int .i64 k, .int .i64 l, .int .i64 z, .slice A sq.length c, .slice B en.length d] from (hφ 0 (by kernel_rfl))), (List.forall_mem_cons.2 ⟨(show a.tmps.getD 16 undef = .int .i64 0 from (hφ 1 (by kernel_rfl))), (List.forall_mem_cons.2 ⟨(show a.tmps.getD 17 undef = .agg #[.int .i64 k', .int .i64 l', .int .i64 z', .slice A' sq'.length c', .slice B' en'.length d'] from (hφ 2 (by kernel_rfl))), (List.forall_mem_cons.2 ⟨(show a.tmps.getD 18 undef = .int .i64 0 from (hφ 3 (by kernel_rfl))), (List.forall_mem_cons.2 ⟨(show a.tmps.getD 19 undef = .int .i64 0 from (hφ 4 (by kernel_rfl))), (List.forall_mem_cons.2 ⟨(show a.tmps.getD 20 undef = .bool false from (hφ 5 (by kernel_rfl))), (List.forall_mem_cons.2 ⟨(show a.tmps.getD 21 undef = .bool false from (hφ 6 (by kernel_rfl))), (List.forall_mem_cons.2 ⟨(show a.tmps.getD 22 undef = .agg #[.int .i64 k, .int .i64 l, .int .i64 z, .slice A sq.length c, .slice B en.length d] from (hφ 7 (by kernel_rfl))), (List.forall_mem_cons.2 ⟨(show a.tmps.getD 23 undef = .bool true from (hφ 8 (by kernel_rfl))), (List.forall_mem_cons.2 ⟨(show a.tmps.getD 24 undef = .bool false from (hφ 9 (by kernel_rfl))), (List.forall_mem_cons.2 ⟨(show a.tmps.getD 25 undef = .bool false from (hφ 10 (by kernel_rfl))), (List.forall_mem_cons.2 ⟨(show a.tmps.getD 26 undef = .bool false from (hφ 11 (by kernel_rfl))), (List.forall_mem_cons.2 ⟨(show a.tmps.getD 27 undef = .agg #[.int .i64 k', .int .i64 l', .int .i64 z', .slice A' sq'.length c', .slice B' en'.length d'] from (hφ 12 (by kernel_rfl))), (List.forall_mem_cons.2 ⟨(show a.tmps.getD 28 undef = .bool true from (hφ 13 (by kernel_rfl))), (List.forall_mem_cons.2 ⟨(show a.tmps.getD 29 undef = .bool false from (hφ 14 (by kernel_rfl))), (List.forall_mem_cons.2 ⟨(show a.tmps.getD 30 undef = .bool false from (hφ 15 (by kernel_rfl))), (fun _ h => absurd h (by simp))⟩)⟩)⟩)⟩)⟩)⟩)⟩)⟩)⟩)⟩)⟩)⟩)⟩)⟩)⟩)⟩) hold
    clear hφ hold hsz hde
    simp only [putAll]
    go_frame
    have HG1 := Lib.hid hG
    clear hG
    obtain ⟨I, hI, hI2⟩ := small12 i0
    obtain ⟨J, hJ, hJ2⟩ := small12 k0
    have hIw : IntKind.i64.wrap (I : Int) = (I : Int) := i64w_idE _ (by omega)
    have hJw : IntKind.i64.wrap (J : Int) = (J : Int) := i64w_idE _ (by omega)
    have HR1 := Lib.hid (fun (i : Int) w1 (h : NLies w1 ⟨k, l, z, sq, en⟩ A B c d) => refsl_any i ⟨k, l, z, sq, en⟩ A B c d w1 h)
    have HR2 := Lib.hid (fun (i : Int) w1 (h : NLies w1 ⟨k', l', z', sq', en'⟩ A' B' c' d') => refsl_any i ⟨k', l', z', sq', en'⟩ A' B' c' d' w1 h)
    have HP1 := Lib.hid (fun w1 (h : NLies w1 ⟨k, l, z, sq, en⟩ A B c d) => pagesl_any ⟨k, l, z, sq, en⟩ A B c d w1 h)
    have HP2 := Lib.hid (fun w1 (h : NLies w1 ⟨k', l', z', sq', en'⟩ A' B' c' d') => pagesl_any ⟨k', l', z', sq', en'⟩ A' B' c' d' w1 h)
    have HL5 := Lib.hid (refsN_most (I : Int) ⟨k, l, z, sq, en⟩)
    have HM5 := Lib.hid (refsN_most (J : Int) ⟨k', l', z', sq', en'⟩)
    have HAP : Hid (I ≠ J → ∀ r ∈ refsN (I : Int) ⟨k, l, z, sq, en⟩, ∀ s ∈ refsN (J : Int) ⟨k', l', z', sq', en'⟩, r.1 ≠ s.1) := Lib.hid fun h r hr s hs => refsN_apart hr hs (by omega)
    rw [← refsN_len (i := (I : Int)) (n := ⟨k, l, z, sq, en⟩) (by omega)] at HP1
    rw [← refsN_len (i := (J : Int)) (n := ⟨k', l', z', sq', en'⟩) (by omega)] at HP2
    have HF1 : Hid (∀ w1, NLies w1 ⟨k, l, z, sq, en⟩ A B c d → Calls Try.prog 10 #[.int .i64 12, .agg #[.int .i64 k, .int .i64 l, .int .i64 z, .slice A sq.length c, .slice B en.length d]] w1 (RPost w1 [])) := Lib.hid fun w1 h => by
      have := HR1.out 12 w1 h
      rwa [refsN_far (by omega)] at this
    have HF2 : Hid (∀ w1, NLies w1 ⟨k, l, z, sq, en⟩ A B c d → Calls Try.prog 10 #[.int .i64 (-1), .agg #[.int .i64 k, .int .i64 l, .int .i64 z, .slice A sq.length c, .slice B en.length d]] w1 (RPost w1 [])) := Lib.hid fun w1 h => by
      have := HR1.out (-1) w1 h
      rwa [refsN_far (by omega)] at this
    replace HR1 := Lib.hid (fun w1 h => HR1.out (I : Int) w1 h)
    replace HR2 := Lib.hid (fun w1 h => HR2.out (J : Int) w1 h)
    generalize refsN (I : Int) ⟨k, l, z, sq, en⟩ = L at HR1 HP1 HL5 HAP
    generalize refsN (J : Int) ⟨k', l', z', sq', en'⟩ = M at HR2 HP2 HM5 HAP
    obtain ⟨V, rfl⟩ : ∃ V, V = w6 := ⟨_, rfl⟩
    go_upto_region 4 with (fail)
    replace HN := Lib.hid fun w1 (hb : Below V.heap.size V w1) => HN.out w1 (HG1.out.trans (hb.mono HG1.out.size))
    replace HM := Lib.hid fun w1 (hb : Below V.heap.size V w1) => HM.out w1 (HG1.out.trans (hb.mono HG1.out.size))
    replace HK := Lib.hid fun w1 (hb : Below V.heap.size V w1) => HK.out w1 (HG1.out.trans (hb.mono HG1.out.size))
    replace HB0 := Lib.hid (HB0.out.trans (HG1.out.mono HB0.out.size))
    clear HG1 HLA HLB HBX hz0 HNC HMC HMA HMB
    refine region_st (fun j v w' => match j with | 0 => v = .int .i64 (I : Nat) | 1 => v = .agg #[.int .i64 k, .int .i64 l, .int .i64 z, .slice A sq.length c, .slice B en.length d] | 2 => ∃ A1 c1, v = .slice A1 L.length c1 ∧ RLies w' A1 L | 3 => v = .int .i64 (J : Nat) | 4 => v = .agg #[.int .i64 k', .int .i64 l', .int .i64 z', .slice A' sq'.length c', .slice B' en'.length d'] | 5 => ∃ A2 c2, v = .slice A2 M.length c2 ∧ RLies w' A2 M | 6 => ∃ A1 c1, v = .slice A1 L.length c1 ∧ RLies w' A1 L | 7 => ∃ A2 c2, v = .slice A2 M.length c2 ∧ RLies w' A2 M | _ => True) (fun _ w' => Below V.heap.size V w') (fun w1 w2 => Below w1.heap.size w1 w2) (by kernel_rfl) (by kernel_rfl) (by kernel_rfl) ?hR ?hG ?hops ?hend
    case hR =>
      intro j v w1 w2 hv hb
      match j, hv with
      | 0, hv => exact hv
      | 1, hv => exact hv
      | 2, ⟨A1, c1, e, h⟩ => exact ⟨A1, c1, e, h.below hb⟩
      | 3, hv => exact hv
      | 4, hv => exact hv
      | 5, ⟨A2, c2, e, h⟩ => exact ⟨A2, c2, e, h.below hb⟩
      | 6, ⟨A1, c1, e, h⟩ => exact ⟨A1, c1, e, h.below hb⟩
      | 7, ⟨A2, c2, e, h⟩ => exact ⟨A2, c2, e, h.below hb⟩
      | _ + 8, _ => exact trivial
    case hG => exact (Below.refl _ _).drew
    case hops =>
      refine OpsOkS.cons ?o0 (OpsOkS.cons ?o1 (OpsOkS.cons ?o2 (OpsOkS.cons ?o3 (OpsOkS.cons ?o4 (OpsOkS.cons ?o5 (OpsOkS.cons ?o6 (OpsOkS.cons ?o7 OpsOkS.nil)))))))
      case o0 =>
        intro a w1 Kx hG need old hsz fresh hKx
        have e0 : a.tmps[2]?.getD undef = .int .i64 (I : Nat) := by rw [← Array.getD_eq_getD_getElem?]; exact old 2 (by kernel_rfl)
        refine op_value (v := .int .i64 (I : Nat)) (wanted_none rfl) ?_ (hKx _ w1 rfl hG (Below.refl _ _))
        simp [execOp, go_sem, e0]
      case o1 =>
        intro a w1 Kx hG need old hsz fresh hKx
        have e0 : a.tmps[4]?.getD undef = .pointer (some ⟨P, 0, none⟩) := by rw [← Array.getD_eq_getD_getElem?]; exact old 4 (by kernel_rfl)
        obtain ⟨j0, j1, j2, j3, j4⟩ := (HK.out w1 hG).1.cells
        refine op_value (v := .agg #[.int .i64 k, .int .i64 l, .int .i64 z, .slice A sq.length c, .slice B en.length d]) (wanted_none rfl) ?_ (hKx _ w1 rfl hG (Below.refl _ _))
        simp [execOp, go_sem, e0, j0, j1, j2, j3, j4]
      case o2 =>
        intro a w1 Kx hG need old hsz fresh hKx
        have e0 : a.tmps[40]?.getD undef = .int .i64 (I : Nat) := by rw [← Array.getD_eq_getD_getElem?]; exact (need 0 (by kernel_rfl) (by kernel_rfl))
        have e1 : a.tmps[41]?.getD undef = .agg #[.int .i64 k, .int .i64 l, .int .i64 z, .slice A sq.length c, .slice B en.length d] := by rw [← Array.getD_eq_getD_getElem?]; exact (need 1 (by kernel_rfl) (by kernel_rfl))
        refine op_call (wanted_none rfl) (f := 10) (args := #[.int .i64 (I : Nat), .agg #[.int .i64 k, .int .i64 l, .int .i64 z, .slice A sq.length c, .slice B en.length d]]) ?run ((HR1.out w1 (HN.out w1 hG)).mono ?post)
        case run => simp [go_sem, e0, e1]
        case post =>
          rintro e w2 ⟨A1, c1, rfl, h1, -, -, -, hb2⟩
          exact ⟨_, rfl, hKx _ w2 ⟨A1, c1, rfl, h1⟩ (hG.trans (hb2.mono hG.size)) hb2⟩
      case o3 =>
        intro a w1 Kx hG need old hsz fresh hKx
        have e0 : a.tmps[3]?.getD undef = .int .i64 (J : Nat) := by rw [← Array.getD_eq_getD_getElem?]; exact old 3 (by kernel_rfl)
        refine op_value (v := .int .i64 (J : Nat)) (wanted_none rfl) ?_ (hKx _ w1 rfl hG (Below.refl _ _))
        simp [execOp, go_sem, e0]
      case o4 =>
        intro a w1 Kx hG need old hsz fresh hKx
        have e0 : a.tmps[5]?.getD undef = .pointer (some ⟨P + 1, 0, none⟩) := by rw [← Array.getD_eq_getD_getElem?]; exact old 5 (by kernel_rfl)
        obtain ⟨j0, j1, j2, j3, j4⟩ := (HK.out w1 hG).2.cells
        refine op_value (v := .agg #[.int .i64 k', .int .i64 l', .int .i64 z', .slice A' sq'.length c', .slice B' en'.length d']) (wanted_none rfl) ?_ (hKx _ w1 rfl hG (Below.refl _ _))
        simp [execOp, go_sem, e0, j0, j1, j2, j3, j4]
      case o5 =>
        intro a w1 Kx hG need old hsz fresh hKx
        have e0 : a.tmps[43]?.getD undef = .int .i64 (J : Nat) := by rw [← Array.getD_eq_getD_getElem?]; exact (need 3 (by kernel_rfl) (by kernel_rfl))
        have e1 : a.tmps[44]?.getD undef = .agg #[.int .i64 k', .int .i64 l', .int .i64 z', .slice A' sq'.length c', .slice B' en'.length d'] := by rw [← Array.getD_eq_getD_getElem?]; exact (need 4 (by kernel_rfl) (by kernel_rfl))
        refine op_call (wanted_none rfl) (f := 10) (args := #[.int .i64 (J : Nat), .agg #[.int .i64 k', .int .i64 l', .int .i64 z', .slice A' sq'.length c', .slice B' en'.length d']]) ?run ((HR2.out w1 (HM.out w1 hG)).mono ?post)
        case run => simp [go_sem, e0, e1]
        case post =>
          rintro e w2 ⟨A2, c2, rfl, h1, -, -, -, hb2⟩
          exact ⟨_, rfl, hKx _ w2 ⟨A2, c2, rfl, h1⟩ (hG.trans (hb2.mono hG.size)) hb2⟩
      case o6 =>
        intro a w1 Kx hG need old hsz fresh hKx
        obtain ⟨A1, c1, qe0, he0⟩ := need 2 (by kernel_rfl) (by kernel_rfl)
        have e0 : a.tmps[42]?.getD undef = .slice A1 L.length c1 := by rw [← Array.getD_eq_getD_getElem?]; exact qe0
        refine op_value (v := .slice A1 L.length c1) (wanted_none rfl) ?_ (hKx _ w1 ⟨A1, c1, rfl, he0⟩ hG (Below.refl _ _))
        simp [execOp, go_sem, e0]
      case o7 =>
        intro a w1 Kx hG need old hsz fresh hKx
        obtain ⟨A2, c2, qe0, he0⟩ := need 5 (by kernel_rfl) (by kernel_rfl)
        have e0 : a.tmps[45]?.getD undef = .slice A2 M.length c2 := by rw [← Array.getD_eq_getD_getElem?]; exact qe0
        refine op_value (v := .slice A2 M.length c2) (wanted_none rfl) ?_ (hKx _ w1 ⟨A2, c2, rfl, he0⟩ hG (Below.refl _ _))
        simp [execOp, go_sem, e0]
    case hend =>
      intro a w6 hG hde hsz hφ hold
      obtain ⟨A1_2, c1_2, hv_2, hp_2⟩ := hφ 2 (by kernel_rfl)
      obtain ⟨A2_5, c2_5, hv_5, hp_5⟩ := hφ 5 (by kernel_rfl)
      obtain ⟨A1_6, c1_6, hv_6, hp_6⟩ := hφ 6 (by kernel_rfl)
      obtain ⟨A2_7, c2_7, hv_7, hp_7⟩ := hφ 7 (by kernel_rfl)
      obtain rfl := act_puts [(40, .int .i64 (I : Nat)), (41, .agg #[.int .i64 k, .int .i64 l, .int .i64 z, .slice A sq.length c, .slice B en.length d]), (42, .slice A1_2 L.length c1_2), (43, .int .i64 (J : Nat)), (44, .agg #[.int .i64 k', .int .i64 l', .int .i64 z', .slice A' sq'.length c', .slice B' en'.length d']), (45, .slice A2_5 M.length c2_5), (9, .slice A1_6 L.length c1_6), (10, .slice A2_7 M.length c2_7)] [40, 41, 42, 43, 44, 45, 9, 10] rfl (by kernel_rfl) (by kernel_rfl) hde hsz (List.forall_mem_cons.2 ⟨(show a.tmps.getD 40 undef = .int .i64 (I : Nat) from (hφ 0 (by kernel_rfl))), (List.forall_mem_cons.2 ⟨(show a.tmps.getD 41 undef = .agg #[.int .i64 k, .int .i64 l, .int .i64 z, .slice A sq.length c, .slice B en.length d] from (hφ 1 (by kernel_rfl))), (List.forall_mem_cons.2 ⟨(show a.tmps.getD 42 undef = .slice A1_2 L.length c1_2 from hv_2), (List.forall_mem_cons.2 ⟨(show a.tmps.getD 43 undef = .int .i64 (J : Nat) from (hφ 3 (by kernel_rfl))), (List.forall_mem_cons.2 ⟨(show a.tmps.getD 44 undef = .agg #[.int .i64 k', .int .i64 l', .int .i64 z', .slice A' sq'.length c', .slice B' en'.length d'] from (hφ 4 (by kernel_rfl))), (List.forall_mem_cons.2 ⟨(show a.tmps.getD 45 undef = .slice A2_5 M.length c2_5 from hv_5), (List.forall_mem_cons.2 ⟨(show a.tmps.getD 9 undef = .slice A1_6 L.length c1_6 from hv_6), (List.forall_mem_cons.2 ⟨(show a.tmps.getD 10 undef = .slice A2_7 M.length c2_7 from hv_7), (fun _ h => absurd h (by simp))⟩)⟩)⟩)⟩)⟩)⟩)⟩)⟩) hold
      clear hφ hold hsz hde hv_2 hv_5 hv_6 hv_7
      simp only [putAll]
      go_frame
      have HG2 := Lib.hid hG
      clear hG
      obtain ⟨X, rfl⟩ : ∃ X, X = w6 := ⟨_, rfl⟩
      replace HN := Lib.hid fun w1 (hb : Below X.heap.size X w1) => HN.out w1 (HG2.out.trans (hb.mono HG2.out.size))
      replace HM := Lib.hid fun w1 (hb : Below X.heap.size X w1) => HM.out w1 (HG2.out.trans (hb.mono HG2.out.size))
      replace HK := Lib.hid fun w1 (hb : Below X.heap.size X w1) => HK.out w1 (HG2.out.trans (hb.mono HG2.out.size))
      replace HB0 := Lib.hid (HB0.out.trans (HG2.out.mono HB0.out.size))
      have HO1 := Lib.hid hp_6
      have HO2 := Lib.hid hp_7
      clear hp_6 hp_7 hp_2 hp_5 HG2 HR1 HR2
      have hl5 := HL5.out
      have hm5 := HM5.out
      obtain ⟨x1, x2⟩ := HK.out X (Below.refl _ _)
      obtain ⟨s0, s1, s2, s3, s4⟩ := x1.cells
      obtain ⟨s0, s1, s2, s3, s4⟩ := x2.cells
      clear x1 x2
      go_wp2_with (first
        | (go_at_call 18; (with_reducible refine (HP1.out _ (HN.out _ (Below.refl _ _))).mono ?_); rintro e w1 ⟨rfl, hb1⟩; replace hb1 := Lib.hid hb1; obtain ⟨x1, x2⟩ := HK.out _ hb1.out; obtain ⟨s0, s1, s2, s3, s4⟩ := x1.cells; obtain ⟨s0, s1, s2, s3, s4⟩ := x2.cells; clear x1 x2)
        | (go_at_call 18; (with_reducible refine (HP2.out _ (HM.out _ hb1.out)).mono ?_); rintro e w2 ⟨rfl, hb2⟩; replace hb2 := Lib.hid (hb1.out.trans (hb2.mono hb1.out.size)); obtain ⟨x1, x2⟩ := HK.out _ hb2.out; obtain ⟨s0, s1, s2, s3, s4⟩ := x1.cells; obtain ⟨s0, s1, s2, s3, s4⟩ := x2.cells; clear x1 x2)
        | (go_at_call 10; (with_reducible refine (HF1.out _ (HN.out _ hb2.out)).mono ?_); rintro e w3 ⟨A3, c3, rfl, -, -, -, -, hb3⟩; replace hb3 := Lib.hid (hb2.out.trans (hb3.mono hb2.out.size)); obtain ⟨x1, x2⟩ := HK.out _ hb3.out; obtain ⟨s0, s1, s2, s3, s4⟩ := x1.cells; obtain ⟨s0, s1, s2, s3, s4⟩ := x2.cells; clear x1 x2)
        | (go_at_call 10; (with_reducible refine (HF2.out _ (HN.out _ hb3.out)).mono ?_); rintro e w4 ⟨A4, c4, rfl, -, -, -, -, hb4⟩; replace hb4 := Lib.hid (hb3.out.trans (hb4.mono hb3.out.size)))
        | fail)
      clear HP1 HP2 HF1 HF2
      go_loopw [12, 72] (fun _ v72 wr => ∃ jx : Nat, jx ≤ L.length ∧ v72 = .int .i64 jx ∧ Hid (Below X.heap.size X wr)) (fun _ v72 _ => L.length - (RowKit.intOf v72).toNat)
      case atStart => exact ⟨0, Nat.zero_le _, rfl, hb4⟩
      case round =>
        obtain ⟨jx, hj, rfl, HB⟩ := hrel
        by_cases hj1 : jx < L.length
        · have d2 : decide ((jx : Int) < (L.length : Int)) = true := decide_eq_true (by omega)
          obtain ⟨B1, o1, rfl, hBs, hcc⟩ := (HO1.out.below HB.out) (by omega)
          obtain ⟨q0, q1⟩ := hcc jx hj1
          have hmem : L[jx] ∈ L := List.getElem_mem hj1
          generalize L[jx] = x at q0 q1 hmem
          obtain ⟨x, y⟩ := x
          have HME := Lib.hid hmem
          have HB5 := Lib.hid (HB.out.alloc HB.out.size (.cells #[.int .i64 x, .int .i64 y] 31))
          have HX5 := Lib.hid (heap_alloc_new wr (.cells #[.int .i64 x, .int .i64 y] 31))
          clear hcc hmem
          go_upto_region 10 with (fail)
          generalize wr.alloc _ = Y at HB5 HX5 ⊢
          obtain ⟨p, hp⟩ : ∃ p, p = wr.heap.size := ⟨_, rfl⟩
          rw [← hp] at HX5 ⊢
          clear hp q0 q1
          go_wp2_with fail
          go_loopw [14, 78] (fun _ v78 wr2 => ∃ jy : Nat, jy ≤ M.length ∧ v78 = .int .i64 jy ∧ Hid (Below Y.heap.size Y wr2)) (fun _ v78 _ => M.length - (RowKit.intOf v78).toNat)
          case atStart => exact ⟨0, Nat.zero_le _, rfl, Lib.hid (Below.refl _ _)⟩
          case round =>
            obtain ⟨jy, hjy, rfl, HBB⟩ := hrel
            have HBY : Hid (Below X.heap.size X wr) := Lib.hid (HB5.out.trans (HBB.out.mono HB5.out.size))
            by_cases hj2 : jy < M.length
            · have d3 : decide ((jy : Int) < (M.length : Int)) = true := decide_eq_true (by omega)
              obtain ⟨B2, o2, rfl, hBs2, hcc⟩ := (HO2.out.below HBY.out) (by omega)
              obtain ⟨q0, q1⟩ := hcc jy hj2
              have hmem : M[jy] ∈ M := List.getElem_mem hj2
              generalize M[jy] = x' at q0 q1 hmem
              obtain ⟨x', y'⟩ := x'
              have HME2 := Lib.hid hmem
              have HB6 := Lib.hid (HBB.out.alloc HBB.out.size (.cells #[.int .i64 x', .int .i64 y'] 31))
              have HX6 := Lib.hid (heap_alloc_new wr (.cells #[.int .i64 x', .int .i64 y'] 31))
              have u0 : ((wr.alloc (.cells #[.int .i64 x', .int .i64 y'] 31))).cell? ⟨p, 0, none⟩ = some (.int .i64 x) := by
                have := (HB6.out.block p (lt_size HX5.out)).trans HX5.out
                generalize wr.alloc _ = Z at this
                simp [World.cell?, this]
              clear hcc hmem
              by_cases hIJ : I = J
              · have b1 : ((I : Int) != (J : Int)) = false := by simp [hIJ]
                clear hIJ
                go_wp2_with fail
                go_roundw
                case rel => exact ⟨jy + 1, by omega, by go_num, HB6⟩
                case measure => simp [RowKit.intOf]; omega
              · have b1 : ((I : Int) != (J : Int)) = true := by simp; omega
                have b2 : (x == x') = false := by
                  have := HAP.out hIJ _ HME.out _ HME2.out
                  simpa using this
                clear hIJ
                go_wp2_with fail
                go_roundw
                case rel => exact ⟨jy + 1, by omega, by go_num, HB6⟩
                case measure => simp [RowKit.intOf]; omega
            · have d3 : decide ((jy : Int) < (M.length : Int)) = false := decide_eq_false (by omega)
              go_wp2_with fail
              go_roundw
              case rel => exact ⟨jx + 1, by omega, by go_num, HBY⟩
              case measure => simp [RowKit.intOf]; omega
        · have d2 : decide ((jx : Int) < (L.length : Int)) = false := decide_eq_false (by omega)
          go_wp2_with (first
            | (go_at_call 9; (with_reducible refine (awake_any _).mono ?_); rintro e w11 ⟨rfl, hb11⟩; replace hb11 := Lib.hid hb11)
            | fail)
          go_ret
          exact ⟨rfl, HB0.out.trans ((HB.out.trans (hb11.out.mono HB.out.size)).mono HB0.out.size)⟩
end Go.Proofs.Ytohiabkjbieflaa
