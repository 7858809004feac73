/- NodeForms: any nodes, any kind, any number (written by mkny.py). -/
import Derived.Test.YtohiabkjbieflaaNdX
namespace Go.Proofs.Ytohiabkjbieflaa
open Go.RowKit Go.Lib

theorem lightN_cases (n : Nd) : (lightN n = 0 ∧ n.sq.length ≤ 60 ∧ n.en.length ≤ 60) ∨ lightN n = 1 := by
  unfold lightN
  split
  · exact .inr rfl
  · next h =>
    rcases lightV_cases n.en with ⟨h1, h2⟩ | h1
    · exact .inl ⟨h1, by omega, h2⟩
    · exact .inr h1
theorem bool_same (V : Bool) (w : World) : (binOp .eql 4 (.bool V) (.bool V)).run Try.prog w = .ok (.bool true) w := by cases V <;> rfl
theorem neq_refN (w : World) (a b : Int) : (binOp .neq 31 (.agg #[.int .i64 a, .int .i64 b]) (.agg #[.int .i64 a, .int .i64 b])).run Try.prog w = .ok (.bool false) w := by
  simp [go_sem]
theorem emptyN_en (k : Int) : (emptyN k).en = [] := by
  unfold emptyN
  split
  · rfl
  · split <;> rfl
theorem emptyN_len (k : Int) : (emptyN k).sq.length ≤ 5 := by
  unfold emptyN
  split
  · simp
  · split <;> simp
theorem emptyl_nl (k : Int) (w : World) : Calls Try.prog 16 #[.int .i64 k] w fun e w' => ∃ A c, e = .returned (ndV (emptyN k) A none c 0) ∧ NLies w' (emptyN k) A none c 0 ∧ Below w.heap.size w w' :=
  (emptyl_any k w).mono fun e w' ⟨A, c, he, hO, hb⟩ => ⟨A, c, he, nlies_own (base' := 0) hO (by rw [emptyN_en]; exact eown_nil _ _) (by have := emptyN_len k; unfold maxLen; omega) (by rw [emptyN_en]; simp), hb⟩
theorem emptyr_nl (k : Int) (w : World) : Calls Try.prog 17 #[.int .i64 k] w fun e w' => ∃ A c, e = .returned (ndV (emptyN k) A none c 0) ∧ NLies w' (emptyN k) A none c 0 ∧ Below w.heap.size w w' :=
  (emptyr_any k w).mono fun e w' ⟨A, c, he, hO, hb⟩ => ⟨A, c, he, nlies_own (base' := 0) hO (by rw [emptyN_en]; exact eown_nil _ _) (by have := emptyN_len k; unfold maxLen; omega) (by rw [emptyN_en]; simp), hb⟩
/-- Two nodes as arguments, in two boxes. -/
abbrev two (w : World) (u v : Obj) : World := (w.alloc u).alloc v
theorem two_boxes (w : World) (k l z k' l' z' : Int) (S T S' T' : Value) : BoxAt (two w (.cells #[.int .i64 k, .int .i64 l, .int .i64 z, S, T] 25) (.cells #[.int .i64 k', .int .i64 l', .int .i64 z', S', T'] 25)) w.heap.size k l z S T ∧ BoxAt (two w (.cells #[.int .i64 k, .int .i64 l, .int .i64 z, S, T] 25) (.cells #[.int .i64 k', .int .i64 l', .int .i64 z', S', T'] 25)) (w.heap.size + 1) k' l' z' S' T' := by
  constructor
  · exact (((Below.refl _ _).alloc (Nat.le_refl _) _).block w.heap.size (by simp)).trans (heap_alloc_new _ _)
  · have := heap_alloc_new (w.alloc (.cells #[.int .i64 k, .int .i64 l, .int .i64 z, S, T] 25)) (.cells #[.int .i64 k', .int .i64 l', .int .i64 z', S', T'] 25)
    rw [show (w.alloc (.cells #[.int .i64 k, .int .i64 l, .int .i64 z, S, T] 25)).heap.size = w.heap.size + 1 by simp] at this
    exact this
set_option maxRecDepth 100000 in
set_option maxHeartbeats 8000000 in
theorem forms_law (n m : Nd) (A B A' B' : Option Addr) (c d c' d' : Nat) (kd i : Int) (w : World) (hn : NLies w n A B c d) (hm : NLies w m A' B' c' d') :
    Calls Try.prog 3 #[ndV n A B c d, ndV m A' B' c' d', .int .i64 kd, .int .i64 i] w fun e w' => e = .returned (.bool true) ∧ Below w.heap.size w w' := by
  have HNC := Lib.hid (lightN_cases n)
  have HMC := Lib.hid (lightN_cases m)
  obtain ⟨k, l, z, sq, en⟩ := n
  obtain ⟨k', l', z', sq', en'⟩ := m
  have HBX := Lib.hid (two_boxes w k l z k' l' z' (.slice A sq.length c) (.slice B en.length d) (.slice A' sq'.length c') (.slice B' en'.length d'))
  have HB0 : Hid (Below w.heap.size w (two w (.cells #[.int .i64 k, .int .i64 l, .int .i64 z, .slice A sq.length c, .slice B en.length d] 25) (.cells #[.int .i64 k', .int .i64 l', .int .i64 z', .slice A' sq'.length c', .slice B' en'.length d'] 25))) := Lib.hid (((Below.refl _ _).alloc (Nat.le_refl _) _).alloc (by simp) _)
  have hz0 : Hid (w.heap.size + 1 < (two w (.cells #[.int .i64 k, .int .i64 l, .int .i64 z, .slice A sq.length c, .slice B en.length d] 25) (.cells #[.int .i64 k', .int .i64 l', .int .i64 z', .slice A' sq'.length c', .slice B' en'.length d'] 25)).heap.size) := Lib.hid (lt_size HBX.out.2)
  have HLA : Hid (∀ w1, NLies w1 ⟨k, l, z, sq, en⟩ A B c d → Calls Try.prog 8 #[.agg #[.int .i64 k, .int .i64 l, .int .i64 z, .slice A sq.length c, .slice B en.length d]] w1 fun x w' => x = .returned (.int .i64 (lightN ⟨k, l, z, sq, en⟩)) ∧ Below w1.heap.size w1 w') := Lib.hid fun w1 h => lightN_any ⟨k, l, z, sq, en⟩ A B c d w1 h
  have HLB : Hid (∀ w1, NLies w1 ⟨k', l', z', sq', en'⟩ A' B' c' d' → Calls Try.prog 8 #[.agg #[.int .i64 k', .int .i64 l', .int .i64 z', .slice A' sq'.length c', .slice B' en'.length d']] w1 fun x w' => x = .returned (.int .i64 (lightN ⟨k', l', z', sq', en'⟩)) ∧ Below w1.heap.size w1 w') := Lib.hid fun w1 h => lightN_any ⟨k', l', z', sq', en'⟩ A' B' c' d' w1 h
  obtain ⟨LA, hLA⟩ : ∃ L, lightN ⟨k, l, z, sq, en⟩ = L := ⟨_, rfl⟩
  obtain ⟨LB, hLB⟩ : ∃ L, lightN ⟨k', l', z', sq', en'⟩ = L := ⟨_, rfl⟩
  rw [hLA] at HNC HLA
  rw [hLB] at HMC HLB
  clear hLA hLB
  go_enter Try.func3, Try.ntmps3
  go_upto_region 1 with (fail)
  change Code.wp _ _ _ _ (two w (.cells #[.int .i64 k, .int .i64 l, .int .i64 z, .slice A sq.length c, .slice B en.length d] 25) (.cells #[.int .i64 k', .int .i64 l', .int .i64 z', .slice A' sq'.length c', .slice B' en'.length d'] 25))
  generalize two w _ _ = W at HBX HB0 hz0 ⊢
  obtain ⟨P, hP⟩ : ∃ P, P = w.heap.size := ⟨_, rfl⟩
  rw [← hP] at HBX hz0 ⊢
  clear hP
  have HN : Hid (∀ w1, Below W.heap.size W w1 → NLies w1 ⟨k, l, z, sq, en⟩ A B c d) := Lib.hid fun w1 hb => (hn.below HB0.out).below hb
  have HM : Hid (∀ w1, Below W.heap.size W w1 → NLies w1 ⟨k', l', z', sq', en'⟩ A' B' c' d') := Lib.hid fun w1 hb => (hm.below HB0.out).below hb
  have HK : Hid (∀ w1, Below W.heap.size W w1 → BoxAt w1 P k l z (.slice A sq.length c) (.slice B en.length d) ∧ BoxAt w1 (P + 1) k' l' z' (.slice A' sq'.length c') (.slice B' en'.length d')) := Lib.hid fun w1 hb => ⟨HBX.out.1.below hb (by have := hz0.out; omega), HBX.out.2.below hb hz0.out⟩
  clear hn hm
  rcases HNC.out with ⟨rfl, ha⟩ | rfl
  case inr =>
    rcases HMC.out with ⟨rfl, hb⟩ | rfl
    case inr =>
      refine region_st (fun j v w' => match j with | 0 => v = .agg #[.int .i64 k, .int .i64 l, .int .i64 z, .slice A sq.length c, .slice B en.length d] | 1 => v = .int .i64 1 | 2 => v = .agg #[.int .i64 k', .int .i64 l', .int .i64 z', .slice A' sq'.length c', .slice B' en'.length d'] | 3 => v = .int .i64 1 | 4 => v = .int .i64 2 | 5 => v = .bool true | _ => True) (fun _ w' => Below W.heap.size W w') (fun w1 w2 => Below w1.heap.size w1 w2) (by kernel_rfl) (by kernel_rfl) (by kernel_rfl) ?hR ?hG ?hops ?hend
      case hR =>
        intro j v w1 w2 hv hb
        match j, hv with
        | 0, hv => exact hv
        | 1, hv => exact hv
        | 2, hv => exact hv
        | 3, hv => exact hv
        | 4, hv => exact hv
        | 5, hv => exact hv
        | _ + 6, _ => exact trivial
      case hG => exact (Below.refl _ _).drew
      case hops =>
        refine OpsOkS.cons ?o0 (OpsOkS.cons ?o1 (OpsOkS.cons ?o2 (OpsOkS.cons ?o3 (OpsOkS.cons ?o4 (OpsOkS.cons ?o5 OpsOkS.nil)))))
        case o0 =>
          intro a w1 Kx hG need old hsz fresh hKx
          have e0 : a.tmps[4]?.getD undef = .pointer (some ⟨P, 0, none⟩) := by rw [← Array.getD_eq_getD_getElem?]; exact old 4 (by kernel_rfl)
          obtain ⟨j0, j1, j2, j3, j4⟩ := (HK.out w1 hG).1.cells
          refine op_value (v := .agg #[.int .i64 k, .int .i64 l, .int .i64 z, .slice A sq.length c, .slice B en.length d]) (wanted_none rfl) ?_ (hKx _ w1 rfl hG (Below.refl _ _))
          simp [execOp, go_sem, e0, j0, j1, j2, j3, j4]
        case o1 =>
          intro a w1 Kx hG need old hsz fresh hKx
          have e0 : a.tmps[12]?.getD undef = .agg #[.int .i64 k, .int .i64 l, .int .i64 z, .slice A sq.length c, .slice B en.length d] := by rw [← Array.getD_eq_getD_getElem?]; exact (need 0 (by kernel_rfl) (by kernel_rfl))
          refine op_call (wanted_none rfl) (f := 8) (args := #[.agg #[.int .i64 k, .int .i64 l, .int .i64 z, .slice A sq.length c, .slice B en.length d]]) ?run ((HLA.out w1 (HN.out w1 hG)).mono ?post)
          case run => simp [go_sem, e0]
          case post =>
            rintro e w2 ⟨rfl, hb2⟩
            exact ⟨_, rfl, hKx _ w2 rfl (hG.trans (hb2.mono hG.size)) hb2⟩
        case o2 =>
          intro a w1 Kx hG need old hsz fresh hKx
          have e0 : a.tmps[5]?.getD undef = .pointer (some ⟨P + 1, 0, none⟩) := by rw [← Array.getD_eq_getD_getElem?]; exact old 5 (by kernel_rfl)
          obtain ⟨j0, j1, j2, j3, j4⟩ := (HK.out w1 hG).2.cells
          refine op_value (v := .agg #[.int .i64 k', .int .i64 l', .int .i64 z', .slice A' sq'.length c', .slice B' en'.length d']) (wanted_none rfl) ?_ (hKx _ w1 rfl hG (Below.refl _ _))
          simp [execOp, go_sem, e0, j0, j1, j2, j3, j4]
        case o3 =>
          intro a w1 Kx hG need old hsz fresh hKx
          have e0 : a.tmps[14]?.getD undef = .agg #[.int .i64 k', .int .i64 l', .int .i64 z', .slice A' sq'.length c', .slice B' en'.length d'] := by rw [← Array.getD_eq_getD_getElem?]; exact (need 2 (by kernel_rfl) (by kernel_rfl))
          refine op_call (wanted_none rfl) (f := 8) (args := #[.agg #[.int .i64 k', .int .i64 l', .int .i64 z', .slice A' sq'.length c', .slice B' en'.length d']]) ?run ((HLB.out w1 (HM.out w1 hG)).mono ?post)
          case run => simp [go_sem, e0]
          case post =>
            rintro e w2 ⟨rfl, hb2⟩
            exact ⟨_, rfl, hKx _ w2 rfl (hG.trans (hb2.mono hG.size)) hb2⟩
        case o4 =>
          intro a w1 Kx hG need old hsz fresh hKx
          have e0 : a.tmps[13]?.getD undef = .int .i64 1 := by rw [← Array.getD_eq_getD_getElem?]; exact (need 1 (by kernel_rfl) (by kernel_rfl))
          have e1 : a.tmps[15]?.getD undef = .int .i64 1 := by rw [← Array.getD_eq_getD_getElem?]; exact (need 3 (by kernel_rfl) (by kernel_rfl))
          refine op_value (v := .int .i64 2) (wanted_none rfl) ?_ (hKx _ w1 rfl hG (Below.refl _ _))
          simp [execOp, go_sem, e0, e1]; rfl
        case o5 =>
          intro a w1 Kx hG need old hsz fresh hKx
          have e0 : a.tmps[16]?.getD undef = .int .i64 2 := by rw [← Array.getD_eq_getD_getElem?]; exact (need 4 (by kernel_rfl) (by kernel_rfl))
          refine op_value (v := .bool true) (wanted_none rfl) ?_ (hKx _ w1 rfl hG (Below.refl _ _))
          simp [execOp, go_sem, e0]
      case hend =>
        intro a w6 hG hde hsz hφ hold
        obtain rfl := act_puts [(12, .agg #[.int .i64 k, .int .i64 l, .int .i64 z, .slice A sq.length c, .slice B en.length d]), (13, .int .i64 1), (14, .agg #[.int .i64 k', .int .i64 l', .int .i64 z', .slice A' sq'.length c', .slice B' en'.length d']), (15, .int .i64 1), (16, .int .i64 2), (17, .bool true)] [12, 13, 14, 15, 16, 17] rfl (by kernel_rfl) (by kernel_rfl) hde hsz (List.forall_mem_cons.2 ⟨(show a.tmps.getD 12 undef = .agg #[.int .i64 k, .int .i64 l, .int .i64 z, .slice A sq.length c, .slice B en.length d] from (hφ 0 (by kernel_rfl))), (List.forall_mem_cons.2 ⟨(show a.tmps.getD 13 undef = .int .i64 1 from (hφ 1 (by kernel_rfl))), (List.forall_mem_cons.2 ⟨(show a.tmps.getD 14 undef = .agg #[.int .i64 k', .int .i64 l', .int .i64 z', .slice A' sq'.length c', .slice B' en'.length d'] from (hφ 2 (by kernel_rfl))), (List.forall_mem_cons.2 ⟨(show a.tmps.getD 15 undef = .int .i64 1 from (hφ 3 (by kernel_rfl))), (List.forall_mem_cons.2 ⟨(show a.tmps.getD 16 undef = .int .i64 2 from (hφ 4 (by kernel_rfl))), (List.forall_mem_cons.2 ⟨(show a.tmps.getD 17 undef = .bool true from (hφ 5 (by kernel_rfl))), (fun _ h => absurd h (by simp))⟩)⟩)⟩)⟩)⟩)⟩) hold
        clear hφ hold hsz hde
        simp only [putAll]
        go_frame
        go_wp2_with (first
          | (go_at_call 9; (with_reducible refine (awake_any _).mono ?_); rintro e w2 ⟨rfl, hb2⟩; have HB2 := Lib.hid hb2; clear hb2)
          | fail)
        go_ret
        exact ⟨rfl, HB0.out.trans ((hG.trans (HB2.out.mono hG.size)).mono HB0.out.size)⟩
    case inl =>
      refine region_st (fun j v w' => match j with | 0 => v = .agg #[.int .i64 k, .int .i64 l, .int .i64 z, .slice A sq.length c, .slice B en.length d] | 1 => v = .int .i64 1 | 2 => v = .agg #[.int .i64 k', .int .i64 l', .int .i64 z', .slice A' sq'.length c', .slice B' en'.length d'] | 3 => v = .int .i64 0 | 4 => v = .int .i64 1 | 5 => v = .bool true | _ => True) (fun _ w' => Below W.heap.size W w') (fun w1 w2 => Below w1.heap.size w1 w2) (by kernel_rfl) (by kernel_rfl) (by kernel_rfl) ?hR ?hG ?hops ?hend
      case hR =>
        intro j v w1 w2 hv hb
        match j, hv with
        | 0, hv => exact hv
        | 1, hv => exact hv
        | 2, hv => exact hv
        | 3, hv => exact hv
        | 4, hv => exact hv
        | 5, hv => exact hv
        | _ + 6, _ => exact trivial
      case hG => exact (Below.refl _ _).drew
      case hops =>
        refine OpsOkS.cons ?o0 (OpsOkS.cons ?o1 (OpsOkS.cons ?o2 (OpsOkS.cons ?o3 (OpsOkS.cons ?o4 (OpsOkS.cons ?o5 OpsOkS.nil)))))
        case o0 =>
          intro a w1 Kx hG need old hsz fresh hKx
          have e0 : a.tmps[4]?.getD undef = .pointer (some ⟨P, 0, none⟩) := by rw [← Array.getD_eq_getD_getElem?]; exact old 4 (by kernel_rfl)
          obtain ⟨j0, j1, j2, j3, j4⟩ := (HK.out w1 hG).1.cells
          refine op_value (v := .agg #[.int .i64 k, .int .i64 l, .int .i64 z, .slice A sq.length c, .slice B en.length d]) (wanted_none rfl) ?_ (hKx _ w1 rfl hG (Below.refl _ _))
          simp [execOp, go_sem, e0, j0, j1, j2, j3, j4]
        case o1 =>
          intro a w1 Kx hG need old hsz fresh hKx
          have e0 : a.tmps[12]?.getD undef = .agg #[.int .i64 k, .int .i64 l, .int .i64 z, .slice A sq.length c, .slice B en.length d] := by rw [← Array.getD_eq_getD_getElem?]; exact (need 0 (by kernel_rfl) (by kernel_rfl))
          refine op_call (wanted_none rfl) (f := 8) (args := #[.agg #[.int .i64 k, .int .i64 l, .int .i64 z, .slice A sq.length c, .slice B en.length d]]) ?run ((HLA.out w1 (HN.out w1 hG)).mono ?post)
          case run => simp [go_sem, e0]
          case post =>
            rintro e w2 ⟨rfl, hb2⟩
            exact ⟨_, rfl, hKx _ w2 rfl (hG.trans (hb2.mono hG.size)) hb2⟩
        case o2 =>
          intro a w1 Kx hG need old hsz fresh hKx
          have e0 : a.tmps[5]?.getD undef = .pointer (some ⟨P + 1, 0, none⟩) := by rw [← Array.getD_eq_getD_getElem?]; exact old 5 (by kernel_rfl)
          obtain ⟨j0, j1, j2, j3, j4⟩ := (HK.out w1 hG).2.cells
          refine op_value (v := .agg #[.int .i64 k', .int .i64 l', .int .i64 z', .slice A' sq'.length c', .slice B' en'.length d']) (wanted_none rfl) ?_ (hKx _ w1 rfl hG (Below.refl _ _))
          simp [execOp, go_sem, e0, j0, j1, j2, j3, j4]
        case o3 =>
          intro a w1 Kx hG need old hsz fresh hKx
          have e0 : a.tmps[14]?.getD undef = .agg #[.int .i64 k', .int .i64 l', .int .i64 z', .slice A' sq'.length c', .slice B' en'.length d'] := by rw [← Array.getD_eq_getD_getElem?]; exact (need 2 (by kernel_rfl) (by kernel_rfl))
          refine op_call (wanted_none rfl) (f := 8) (args := #[.agg #[.int .i64 k', .int .i64 l', .int .i64 z', .slice A' sq'.length c', .slice B' en'.length d']]) ?run ((HLB.out w1 (HM.out w1 hG)).mono ?post)
          case run => simp [go_sem, e0]
          case post =>
            rintro e w2 ⟨rfl, hb2⟩
            exact ⟨_, rfl, hKx _ w2 rfl (hG.trans (hb2.mono hG.size)) hb2⟩
        case o4 =>
          intro a w1 Kx hG need old hsz fresh hKx
          have e0 : a.tmps[13]?.getD undef = .int .i64 1 := by rw [← Array.getD_eq_getD_getElem?]; exact (need 1 (by kernel_rfl) (by kernel_rfl))
          have e1 : a.tmps[15]?.getD undef = .int .i64 0 := by rw [← Array.getD_eq_getD_getElem?]; exact (need 3 (by kernel_rfl) (by kernel_rfl))
          refine op_value (v := .int .i64 1) (wanted_none rfl) ?_ (hKx _ w1 rfl hG (Below.refl _ _))
          simp [execOp, go_sem, e0, e1]; rfl
        case o5 =>
          intro a w1 Kx hG need old hsz fresh hKx
          have e0 : a.tmps[16]?.getD undef = .int .i64 1 := by rw [← Array.getD_eq_getD_getElem?]; exact (need 4 (by kernel_rfl) (by kernel_rfl))
          refine op_value (v := .bool true) (wanted_none rfl) ?_ (hKx _ w1 rfl hG (Below.refl _ _))
          simp [execOp, go_sem, e0]
      case hend =>
        intro a w6 hG hde hsz hφ hold
        obtain rfl := act_puts [(12, .agg #[.int .i64 k, .int .i64 l, .int .i64 z, .slice A sq.length c, .slice B en.length d]), (13, .int .i64 1), (14, .agg #[.int .i64 k', .int .i64 l', .int .i64 z', .slice A' sq'.length c', .slice B' en'.length d']), (15, .int .i64 0), (16, .int .i64 1), (17, .bool true)] [12, 13, 14, 15, 16, 17] rfl (by kernel_rfl) (by kernel_rfl) hde hsz (List.forall_mem_cons.2 ⟨(show a.tmps.getD 12 undef = .agg #[.int .i64 k, .int .i64 l, .int .i64 z, .slice A sq.length c, .slice B en.length d] from (hφ 0 (by kernel_rfl))), (List.forall_mem_cons.2 ⟨(show a.tmps.getD 13 undef = .int .i64 1 from (hφ 1 (by kernel_rfl))), (List.forall_mem_cons.2 ⟨(show a.tmps.getD 14 undef = .agg #[.int .i64 k', .int .i64 l', .int .i64 z', .slice A' sq'.length c', .slice B' en'.length d'] from (hφ 2 (by kernel_rfl))), (List.forall_mem_cons.2 ⟨(show a.tmps.getD 15 undef = .int .i64 0 from (hφ 3 (by kernel_rfl))), (List.forall_mem_cons.2 ⟨(show a.tmps.getD 16 undef = .int .i64 1 from (hφ 4 (by kernel_rfl))), (List.forall_mem_cons.2 ⟨(show a.tmps.getD 17 undef = .bool true from (hφ 5 (by kernel_rfl))), (fun _ h => absurd h (by simp))⟩)⟩)⟩)⟩)⟩)⟩) hold
        clear hφ hold hsz hde
        simp only [putAll]
        go_frame
        go_wp2_with (first
          | (go_at_call 9; (with_reducible refine (awake_any _).mono ?_); rintro e w2 ⟨rfl, hb2⟩; have HB2 := Lib.hid hb2; clear hb2)
          | fail)
        go_ret
        exact ⟨rfl, HB0.out.trans ((hG.trans (HB2.out.mono hG.size)).mono HB0.out.size)⟩
  rcases HMC.out with ⟨rfl, hb⟩ | rfl
  case inr =>
    refine region_st (fun j v w' => match j with | 0 => v = .agg #[.int .i64 k, .int .i64 l, .int .i64 z, .slice A sq.length c, .slice B en.length d] | 1 => v = .int .i64 0 | 2 => v = .agg #[.int .i64 k', .int .i64 l', .int .i64 z', .slice A' sq'.length c', .slice B' en'.length d'] | 3 => v = .int .i64 1 | 4 => v = .int .i64 1 | 5 => v = .bool true | _ => True) (fun _ w' => Below W.heap.size W w') (fun w1 w2 => Below w1.heap.size w1 w2) (by kernel_rfl) (by kernel_rfl) (by kernel_rfl) ?hR ?hG ?hops ?hend
    case hR =>
      intro j v w1 w2 hv hb
      match j, hv with
      | 0, hv => exact hv
      | 1, hv => exact hv
      | 2, hv => exact hv
      | 3, hv => exact hv
      | 4, hv => exact hv
      | 5, hv => exact hv
      | _ + 6, _ => exact trivial
    case hG => exact (Below.refl _ _).drew
    case hops =>
      refine OpsOkS.cons ?o0 (OpsOkS.cons ?o1 (OpsOkS.cons ?o2 (OpsOkS.cons ?o3 (OpsOkS.cons ?o4 (OpsOkS.cons ?o5 OpsOkS.nil)))))
      case o0 =>
        intro a w1 Kx hG need old hsz fresh hKx
        have e0 : a.tmps[4]?.getD undef = .pointer (some ⟨P, 0, none⟩) := by rw [← Array.getD_eq_getD_getElem?]; exact old 4 (by kernel_rfl)
        obtain ⟨j0, j1, j2, j3, j4⟩ := (HK.out w1 hG).1.cells
        refine op_value (v := .agg #[.int .i64 k, .int .i64 l, .int .i64 z, .slice A sq.length c, .slice B en.length d]) (wanted_none rfl) ?_ (hKx _ w1 rfl hG (Below.refl _ _))
        simp [execOp, go_sem, e0, j0, j1, j2, j3, j4]
      case o1 =>
        intro a w1 Kx hG need old hsz fresh hKx
        have e0 : a.tmps[12]?.getD undef = .agg #[.int .i64 k, .int .i64 l, .int .i64 z, .slice A sq.length c, .slice B en.length d] := by rw [← Array.getD_eq_getD_getElem?]; exact (need 0 (by kernel_rfl) (by kernel_rfl))
        refine op_call (wanted_none rfl) (f := 8) (args := #[.agg #[.int .i64 k, .int .i64 l, .int .i64 z, .slice A sq.length c, .slice B en.length d]]) ?run ((HLA.out w1 (HN.out w1 hG)).mono ?post)
        case run => simp [go_sem, e0]
        case post =>
          rintro e w2 ⟨rfl, hb2⟩
          exact ⟨_, rfl, hKx _ w2 rfl (hG.trans (hb2.mono hG.size)) hb2⟩
      case o2 =>
        intro a w1 Kx hG need old hsz fresh hKx
        have e0 : a.tmps[5]?.getD undef = .pointer (some ⟨P + 1, 0, none⟩) := by rw [← Array.getD_eq_getD_getElem?]; exact old 5 (by kernel_rfl)
        obtain ⟨j0, j1, j2, j3, j4⟩ := (HK.out w1 hG).2.cells
        refine op_value (v := .agg #[.int .i64 k', .int .i64 l', .int .i64 z', .slice A' sq'.length c', .slice B' en'.length d']) (wanted_none rfl) ?_ (hKx _ w1 rfl hG (Below.refl _ _))
        simp [execOp, go_sem, e0, j0, j1, j2, j3, j4]
      case o3 =>
        intro a w1 Kx hG need old hsz fresh hKx
        have e0 : a.tmps[14]?.getD undef = .agg #[.int .i64 k', .int .i64 l', .int .i64 z', .slice A' sq'.length c', .slice B' en'.length d'] := by rw [← Array.getD_eq_getD_getElem?]; exact (need 2 (by kernel_rfl) (by kernel_rfl))
        refine op_call (wanted_none rfl) (f := 8) (args := #[.agg #[.int .i64 k', .int .i64 l', .int .i64 z', .slice A' sq'.length c', .slice B' en'.length d']]) ?run ((HLB.out w1 (HM.out w1 hG)).mono ?post)
        case run => simp [go_sem, e0]
        case post =>
          rintro e w2 ⟨rfl, hb2⟩
          exact ⟨_, rfl, hKx _ w2 rfl (hG.trans (hb2.mono hG.size)) hb2⟩
      case o4 =>
        intro a w1 Kx hG need old hsz fresh hKx
        have e0 : a.tmps[13]?.getD undef = .int .i64 0 := by rw [← Array.getD_eq_getD_getElem?]; exact (need 1 (by kernel_rfl) (by kernel_rfl))
        have e1 : a.tmps[15]?.getD undef = .int .i64 1 := by rw [← Array.getD_eq_getD_getElem?]; exact (need 3 (by kernel_rfl) (by kernel_rfl))
        refine op_value (v := .int .i64 1) (wanted_none rfl) ?_ (hKx _ w1 rfl hG (Below.refl _ _))
        simp [execOp, go_sem, e0, e1]; rfl
      case o5 =>
        intro a w1 Kx hG need old hsz fresh hKx
        have e0 : a.tmps[16]?.getD undef = .int .i64 1 := by rw [← Array.getD_eq_getD_getElem?]; exact (need 4 (by kernel_rfl) (by kernel_rfl))
        refine op_value (v := .bool true) (wanted_none rfl) ?_ (hKx _ w1 rfl hG (Below.refl _ _))
        simp [execOp, go_sem, e0]
    case hend =>
      intro a w6 hG hde hsz hφ hold
      obtain rfl := act_puts [(12, .agg #[.int .i64 k, .int .i64 l, .int .i64 z, .slice A sq.length c, .slice B en.length d]), (13, .int .i64 0), (14, .agg #[.int .i64 k', .int .i64 l', .int .i64 z', .slice A' sq'.length c', .slice B' en'.length d']), (15, .int .i64 1), (16, .int .i64 1), (17, .bool true)] [12, 13, 14, 15, 16, 17] rfl (by kernel_rfl) (by kernel_rfl) hde hsz (List.forall_mem_cons.2 ⟨(show a.tmps.getD 12 undef = .agg #[.int .i64 k, .int .i64 l, .int .i64 z, .slice A sq.length c, .slice B en.length d] from (hφ 0 (by kernel_rfl))), (List.forall_mem_cons.2 ⟨(show a.tmps.getD 13 undef = .int .i64 0 from (hφ 1 (by kernel_rfl))), (List.forall_mem_cons.2 ⟨(show a.tmps.getD 14 undef = .agg #[.int .i64 k', .int .i64 l', .int .i64 z', .slice A' sq'.length c', .slice B' en'.length d'] from (hφ 2 (by kernel_rfl))), (List.forall_mem_cons.2 ⟨(show a.tmps.getD 15 undef = .int .i64 1 from (hφ 3 (by kernel_rfl))), (List.forall_mem_cons.2 ⟨(show a.tmps.getD 16 undef = .int .i64 1 from (hφ 4 (by kernel_rfl))), (List.forall_mem_cons.2 ⟨(show a.tmps.getD 17 undef = .bool true from (hφ 5 (by kernel_rfl))), (fun _ h => absurd h (by simp))⟩)⟩)⟩)⟩)⟩)⟩) hold
      clear hφ hold hsz hde
      simp only [putAll]
      go_frame
      go_wp2_with (first
        | (go_at_call 9; (with_reducible refine (awake_any _).mono ?_); rintro e w2 ⟨rfl, hb2⟩; have HB2 := Lib.hid hb2; clear hb2)
        | fail)
      go_ret
      exact ⟨rfl, HB0.out.trans ((hG.trans (HB2.out.mono hG.size)).mono HB0.out.size)⟩
  refine region_st (fun j v w' => match j with | 0 => v = .agg #[.int .i64 k, .int .i64 l, .int .i64 z, .slice A sq.length c, .slice B en.length d] | 1 => v = .int .i64 0 | 2 => v = .agg #[.int .i64 k', .int .i64 l', .int .i64 z', .slice A' sq'.length c', .slice B' en'.length d'] | 3 => v = .int .i64 0 | 4 => v = .int .i64 0 | 5 => v = .bool false | _ => True) (fun _ w' => Below W.heap.size W w') (fun w1 w2 => Below w1.heap.size w1 w2) (by kernel_rfl) (by kernel_rfl) (by kernel_rfl) ?hR ?hG ?hops ?hend
  case hR =>
    intro j v w1 w2 hv hb
    match j, hv with
    | 0, hv => exact hv
    | 1, hv => exact hv
    | 2, hv => exact hv
    | 3, hv => exact hv
    | 4, hv => exact hv
    | 5, hv => exact hv
    | _ + 6, _ => exact trivial
  case hG => exact (Below.refl _ _).drew
  case hops =>
    refine OpsOkS.cons ?o0 (OpsOkS.cons ?o1 (OpsOkS.cons ?o2 (OpsOkS.cons ?o3 (OpsOkS.cons ?o4 (OpsOkS.cons ?o5 OpsOkS.nil)))))
    case o0 =>
      intro a w1 Kx hG need old hsz fresh hKx
      have e0 : a.tmps[4]?.getD undef = .pointer (some ⟨P, 0, none⟩) := by rw [← Array.getD_eq_getD_getElem?]; exact old 4 (by kernel_rfl)
      obtain ⟨j0, j1, j2, j3, j4⟩ := (HK.out w1 hG).1.cells
      refine op_value (v := .agg #[.int .i64 k, .int .i64 l, .int .i64 z, .slice A sq.length c, .slice B en.length d]) (wanted_none rfl) ?_ (hKx _ w1 rfl hG (Below.refl _ _))
      simp [execOp, go_sem, e0, j0, j1, j2, j3, j4]
    case o1 =>
      intro a w1 Kx hG need old hsz fresh hKx
      have e0 : a.tmps[12]?.getD undef = .agg #[.int .i64 k, .int .i64 l, .int .i64 z, .slice A sq.length c, .slice B en.length d] := by rw [← Array.getD_eq_getD_getElem?]; exact (need 0 (by kernel_rfl) (by kernel_rfl))
      refine op_call (wanted_none rfl) (f := 8) (args := #[.agg #[.int .i64 k, .int .i64 l, .int .i64 z, .slice A sq.length c, .slice B en.length d]]) ?run ((HLA.out w1 (HN.out w1 hG)).mono ?post)
      case run => simp [go_sem, e0]
      case post =>
        rintro e w2 ⟨rfl, hb2⟩
        exact ⟨_, rfl, hKx _ w2 rfl (hG.trans (hb2.mono hG.size)) hb2⟩
    case o2 =>
      intro a w1 Kx hG need old hsz fresh hKx
      have e0 : a.tmps[5]?.getD undef = .pointer (some ⟨P + 1, 0, none⟩) := by rw [← Array.getD_eq_getD_getElem?]; exact old 5 (by kernel_rfl)
      obtain ⟨j0, j1, j2, j3, j4⟩ := (HK.out w1 hG).2.cells
      refine op_value (v := .agg #[.int .i64 k', .int .i64 l', .int .i64 z', .slice A' sq'.length c', .slice B' en'.length d']) (wanted_none rfl) ?_ (hKx _ w1 rfl hG (Below.refl _ _))
      simp [execOp, go_sem, e0, j0, j1, j2, j3, j4]
    case o3 =>
      intro a w1 Kx hG need old hsz fresh hKx
      have e0 : a.tmps[14]?.getD undef = .agg #[.int .i64 k', .int .i64 l', .int .i64 z', .slice A' sq'.length c', .slice B' en'.length d'] := by rw [← Array.getD_eq_getD_getElem?]; exact (need 2 (by kernel_rfl) (by kernel_rfl))
      refine op_call (wanted_none rfl) (f := 8) (args := #[.agg #[.int .i64 k', .int .i64 l', .int .i64 z', .slice A' sq'.length c', .slice B' en'.length d']]) ?run ((HLB.out w1 (HM.out w1 hG)).mono ?post)
      case run => simp [go_sem, e0]
      case post =>
        rintro e w2 ⟨rfl, hb2⟩
        exact ⟨_, rfl, hKx _ w2 rfl (hG.trans (hb2.mono hG.size)) hb2⟩
    case o4 =>
      intro a w1 Kx hG need old hsz fresh hKx
      have e0 : a.tmps[13]?.getD undef = .int .i64 0 := by rw [← Array.getD_eq_getD_getElem?]; exact (need 1 (by kernel_rfl) (by kernel_rfl))
      have e1 : a.tmps[15]?.getD undef = .int .i64 0 := by rw [← Array.getD_eq_getD_getElem?]; exact (need 3 (by kernel_rfl) (by kernel_rfl))
      refine op_value (v := .int .i64 0) (wanted_none rfl) ?_ (hKx _ w1 rfl hG (Below.refl _ _))
      simp [execOp, go_sem, e0, e1]; rfl
    case o5 =>
      intro a w1 Kx hG need old hsz fresh hKx
      have e0 : a.tmps[16]?.getD undef = .int .i64 0 := by rw [← Array.getD_eq_getD_getElem?]; exact (need 4 (by kernel_rfl) (by kernel_rfl))
      refine op_value (v := .bool false) (wanted_none rfl) ?_ (hKx _ w1 rfl hG (Below.refl _ _))
      simp [execOp, go_sem, e0]
  case hend =>
    intro a w6 hG hde hsz hφ hold
    obtain rfl := act_puts [(12, .agg #[.int .i64 k, .int .i64 l, .int .i64 z, .slice A sq.length c, .slice B en.length d]), (13, .int .i64 0), (14, .agg #[.int .i64 k', .int .i64 l', .int .i64 z', .slice A' sq'.length c', .slice B' en'.length d']), (15, .int .i64 0), (16, .int .i64 0), (17, .bool false)] [12, 13, 14, 15, 16, 17] rfl (by kernel_rfl) (by kernel_rfl) hde hsz (List.forall_mem_cons.2 ⟨(show a.tmps.getD 12 undef = .agg #[.int .i64 k, .int .i64 l, .int .i64 z, .slice A sq.length c, .slice B en.length d] from (hφ 0 (by kernel_rfl))), (List.forall_mem_cons.2 ⟨(show a.tmps.getD 13 undef = .int .i64 0 from (hφ 1 (by kernel_rfl))), (List.forall_mem_cons.2 ⟨(show a.tmps.getD 14 undef = .agg #[.int .i64 k', .int .i64 l', .int .i64 z', .slice A' sq'.length c', .slice B' en'.length d'] from (hφ 2 (by kernel_rfl))), (List.forall_mem_cons.2 ⟨(show a.tmps.getD 15 undef = .int .i64 0 from (hφ 3 (by kernel_rfl))), (List.forall_mem_cons.2 ⟨(show a.tmps.getD 16 undef = .int .i64 0 from (hφ 4 (by kernel_rfl))), (List.forall_mem_cons.2 ⟨(show a.tmps.getD 17 undef = .bool false from (hφ 5 (by kernel_rfl))), (fun _ h => absurd h (by simp))⟩)⟩)⟩)⟩)⟩)⟩) hold
    clear hφ hold hsz hde
    simp only [putAll]
    go_frame
    have HG1 := Lib.hid hG
    clear hG
    have HR1 := Lib.hid (fun w1 (h : NLies w1 ⟨k, l, z, sq, en⟩ A B c d) => refsl_any i ⟨k, l, z, sq, en⟩ A B c d w1 h)
    have HR2 := Lib.hid (fun w1 (h : NLies w1 ⟨k, l, z, sq, en⟩ A B c d) => nrefsr_any i ⟨k, l, z, sq, en⟩ A B c d w1 h)
    have HL5 := Lib.hid (refsN_most i ⟨k, l, z, sq, en⟩)
    generalize refsN i ⟨k, l, z, sq, en⟩ = L at HR1 HR2 HL5
    obtain ⟨V, rfl⟩ : ∃ V, V = w6 := ⟨_, rfl⟩
    go_upto_region 3 with (fail)
    replace HN := Lib.hid fun w1 (hb : Below V.heap.size V w1) => HN.out w1 (HG1.out.trans (hb.mono HG1.out.size))
    replace HM := Lib.hid fun w1 (hb : Below V.heap.size V w1) => HM.out w1 (HG1.out.trans (hb.mono HG1.out.size))
    replace HK := Lib.hid fun w1 (hb : Below V.heap.size V w1) => HK.out w1 (HG1.out.trans (hb.mono HG1.out.size))
    replace HB0 := Lib.hid (HB0.out.trans (HG1.out.mono HB0.out.size))
    clear HG1 HLA HLB HBX hz0 HNC HMC
    refine region_st (fun j v w' => match j with | 0 => v = .int .i64 i | 1 => v = .agg #[.int .i64 k, .int .i64 l, .int .i64 z, .slice A sq.length c, .slice B en.length d] | 2 => ∃ A1 c1, v = .slice A1 L.length c1 ∧ RLies w' A1 L | 3 => v = .int .i64 i | 4 => v = .agg #[.int .i64 k, .int .i64 l, .int .i64 z, .slice A sq.length c, .slice B en.length d] | 5 => ∃ A2 c2, v = .slice A2 L.length c2 ∧ RLies w' A2 L | 6 => ∃ A1 c1, v = .slice A1 L.length c1 ∧ RLies w' A1 L | 7 => ∃ A2 c2, v = .slice A2 L.length c2 ∧ RLies w' A2 L | _ => True) (fun _ w' => Below V.heap.size V w') (fun w1 w2 => Below w1.heap.size w1 w2) (by kernel_rfl) (by kernel_rfl) (by kernel_rfl) ?hR ?hG ?hops ?hend
    case hR =>
      intro j v w1 w2 hv hb
      match j, hv with
      | 0, hv => exact hv
      | 1, hv => exact hv
      | 2, ⟨A1, c1, e, h⟩ => exact ⟨A1, c1, e, h.below hb⟩
      | 3, hv => exact hv
      | 4, hv => exact hv
      | 5, ⟨A2, c2, e, h⟩ => exact ⟨A2, c2, e, h.below hb⟩
      | 6, ⟨A1, c1, e, h⟩ => exact ⟨A1, c1, e, h.below hb⟩
      | 7, ⟨A2, c2, e, h⟩ => exact ⟨A2, c2, e, h.below hb⟩
      | _ + 8, _ => exact trivial
    case hG => exact (Below.refl _ _).drew
    case hops =>
      refine OpsOkS.cons ?o0 (OpsOkS.cons ?o1 (OpsOkS.cons ?o2 (OpsOkS.cons ?o3 (OpsOkS.cons ?o4 (OpsOkS.cons ?o5 (OpsOkS.cons ?o6 (OpsOkS.cons ?o7 OpsOkS.nil)))))))
      case o0 =>
        intro a w1 Kx hG need old hsz fresh hKx
        have e0 : a.tmps[3]?.getD undef = .int .i64 i := by rw [← Array.getD_eq_getD_getElem?]; exact old 3 (by kernel_rfl)
        refine op_value (v := .int .i64 i) (wanted_none rfl) ?_ (hKx _ w1 rfl hG (Below.refl _ _))
        simp [execOp, go_sem, e0]
      case o1 =>
        intro a w1 Kx hG need old hsz fresh hKx
        have e0 : a.tmps[4]?.getD undef = .pointer (some ⟨P, 0, none⟩) := by rw [← Array.getD_eq_getD_getElem?]; exact old 4 (by kernel_rfl)
        obtain ⟨j0, j1, j2, j3, j4⟩ := (HK.out w1 hG).1.cells
        refine op_value (v := .agg #[.int .i64 k, .int .i64 l, .int .i64 z, .slice A sq.length c, .slice B en.length d]) (wanted_none rfl) ?_ (hKx _ w1 rfl hG (Below.refl _ _))
        simp [execOp, go_sem, e0, j0, j1, j2, j3, j4]
      case o2 =>
        intro a w1 Kx hG need old hsz fresh hKx
        have e0 : a.tmps[19]?.getD undef = .int .i64 i := by rw [← Array.getD_eq_getD_getElem?]; exact (need 0 (by kernel_rfl) (by kernel_rfl))
        have e1 : a.tmps[20]?.getD undef = .agg #[.int .i64 k, .int .i64 l, .int .i64 z, .slice A sq.length c, .slice B en.length d] := by rw [← Array.getD_eq_getD_getElem?]; exact (need 1 (by kernel_rfl) (by kernel_rfl))
        refine op_call (wanted_none rfl) (f := 10) (args := #[.int .i64 i, .agg #[.int .i64 k, .int .i64 l, .int .i64 z, .slice A sq.length c, .slice B en.length d]]) ?run ((HR1.out w1 (HN.out w1 hG)).mono ?post)
        case run => simp [go_sem, e0, e1]
        case post =>
          rintro e w2 ⟨A1, c1, rfl, h1, -, -, -, hb2⟩
          exact ⟨_, rfl, hKx _ w2 ⟨A1, c1, rfl, h1⟩ (hG.trans (hb2.mono hG.size)) hb2⟩
      case o3 =>
        intro a w1 Kx hG need old hsz fresh hKx
        have e0 : a.tmps[3]?.getD undef = .int .i64 i := by rw [← Array.getD_eq_getD_getElem?]; exact old 3 (by kernel_rfl)
        refine op_value (v := .int .i64 i) (wanted_none rfl) ?_ (hKx _ w1 rfl hG (Below.refl _ _))
        simp [execOp, go_sem, e0]
      case o4 =>
        intro a w1 Kx hG need old hsz fresh hKx
        have e0 : a.tmps[4]?.getD undef = .pointer (some ⟨P, 0, none⟩) := by rw [← Array.getD_eq_getD_getElem?]; exact old 4 (by kernel_rfl)
        obtain ⟨j0, j1, j2, j3, j4⟩ := (HK.out w1 hG).1.cells
        refine op_value (v := .agg #[.int .i64 k, .int .i64 l, .int .i64 z, .slice A sq.length c, .slice B en.length d]) (wanted_none rfl) ?_ (hKx _ w1 rfl hG (Below.refl _ _))
        simp [execOp, go_sem, e0, j0, j1, j2, j3, j4]
      case o5 =>
        intro a w1 Kx hG need old hsz fresh hKx
        have e0 : a.tmps[22]?.getD undef = .int .i64 i := by rw [← Array.getD_eq_getD_getElem?]; exact (need 3 (by kernel_rfl) (by kernel_rfl))
        have e1 : a.tmps[23]?.getD undef = .agg #[.int .i64 k, .int .i64 l, .int .i64 z, .slice A sq.length c, .slice B en.length d] := by rw [← Array.getD_eq_getD_getElem?]; exact (need 4 (by kernel_rfl) (by kernel_rfl))
        refine op_call (wanted_none rfl) (f := 11) (args := #[.int .i64 i, .agg #[.int .i64 k, .int .i64 l, .int .i64 z, .slice A sq.length c, .slice B en.length d]]) ?run ((HR2.out w1 (HN.out w1 hG)).mono ?post)
        case run => simp [go_sem, e0, e1]
        case post =>
          rintro e w2 ⟨A2, c2, rfl, h1, -, -, -, hb2⟩
          exact ⟨_, rfl, hKx _ w2 ⟨A2, c2, rfl, h1⟩ (hG.trans (hb2.mono hG.size)) hb2⟩
      case o6 =>
        intro a w1 Kx hG need old hsz fresh hKx
        obtain ⟨A1, c1, qe0, he0⟩ := need 2 (by kernel_rfl) (by kernel_rfl)
        have e0 : a.tmps[21]?.getD undef = .slice A1 L.length c1 := by rw [← Array.getD_eq_getD_getElem?]; exact qe0
        refine op_value (v := .slice A1 L.length c1) (wanted_none rfl) ?_ (hKx _ w1 ⟨A1, c1, rfl, he0⟩ hG (Below.refl _ _))
        simp [execOp, go_sem, e0]
      case o7 =>
        intro a w1 Kx hG need old hsz fresh hKx
        obtain ⟨A2, c2, qe0, he0⟩ := need 5 (by kernel_rfl) (by kernel_rfl)
        have e0 : a.tmps[24]?.getD undef = .slice A2 L.length c2 := by rw [← Array.getD_eq_getD_getElem?]; exact qe0
        refine op_value (v := .slice A2 L.length c2) (wanted_none rfl) ?_ (hKx _ w1 ⟨A2, c2, rfl, he0⟩ hG (Below.refl _ _))
        simp [execOp, go_sem, e0]
    case hend =>
      intro a w6 hG hde hsz hφ hold
      obtain ⟨A1_2, c1_2, hv_2, hp_2⟩ := hφ 2 (by kernel_rfl)
      obtain ⟨A2_5, c2_5, hv_5, hp_5⟩ := hφ 5 (by kernel_rfl)
      obtain ⟨A1_6, c1_6, hv_6, hp_6⟩ := hφ 6 (by kernel_rfl)
      obtain ⟨A2_7, c2_7, hv_7, hp_7⟩ := hφ 7 (by kernel_rfl)
      obtain rfl := act_puts [(19, .int .i64 i), (20, .agg #[.int .i64 k, .int .i64 l, .int .i64 z, .slice A sq.length c, .slice B en.length d]), (21, .slice A1_2 L.length c1_2), (22, .int .i64 i), (23, .agg #[.int .i64 k, .int .i64 l, .int .i64 z, .slice A sq.length c, .slice B en.length d]), (24, .slice A2_5 L.length c2_5), (9, .slice A1_6 L.length c1_6), (10, .slice A2_7 L.length c2_7)] [19, 20, 21, 22, 23, 24, 9, 10] rfl (by kernel_rfl) (by kernel_rfl) hde hsz (List.forall_mem_cons.2 ⟨(show a.tmps.getD 19 undef = .int .i64 i from (hφ 0 (by kernel_rfl))), (List.forall_mem_cons.2 ⟨(show a.tmps.getD 20 undef = .agg #[.int .i64 k, .int .i64 l, .int .i64 z, .slice A sq.length c, .slice B en.length d] from (hφ 1 (by kernel_rfl))), (List.forall_mem_cons.2 ⟨(show a.tmps.getD 21 undef = .slice A1_2 L.length c1_2 from hv_2), (List.forall_mem_cons.2 ⟨(show a.tmps.getD 22 undef = .int .i64 i from (hφ 3 (by kernel_rfl))), (List.forall_mem_cons.2 ⟨(show a.tmps.getD 23 undef = .agg #[.int .i64 k, .int .i64 l, .int .i64 z, .slice A sq.length c, .slice B en.length d] from (hφ 4 (by kernel_rfl))), (List.forall_mem_cons.2 ⟨(show a.tmps.getD 24 undef = .slice A2_5 L.length c2_5 from hv_5), (List.forall_mem_cons.2 ⟨(show a.tmps.getD 9 undef = .slice A1_6 L.length c1_6 from hv_6), (List.forall_mem_cons.2 ⟨(show a.tmps.getD 10 undef = .slice A2_7 L.length c2_7 from hv_7), (fun _ h => absurd h (by simp))⟩)⟩)⟩)⟩)⟩)⟩)⟩)⟩) hold
      clear hφ hold hsz hde hv_2 hv_5 hv_6 hv_7
      simp only [putAll]
      go_frame
      have HG2 := Lib.hid hG
      clear hG
      obtain ⟨X, rfl⟩ : ∃ X, X = w6 := ⟨_, rfl⟩
      replace HN := Lib.hid fun w1 (hb : Below X.heap.size X w1) => HN.out w1 (HG2.out.trans (hb.mono HG2.out.size))
      replace HM := Lib.hid fun w1 (hb : Below X.heap.size X w1) => HM.out w1 (HG2.out.trans (hb.mono HG2.out.size))
      replace HK := Lib.hid fun w1 (hb : Below X.heap.size X w1) => HK.out w1 (HG2.out.trans (hb.mono HG2.out.size))
      replace HB0 := Lib.hid (HB0.out.trans (HG2.out.mono HB0.out.size))
      have HP1 := Lib.hid hp_6
      have HP2 := Lib.hid hp_7
      clear hp_6 hp_7 hp_2 hp_5 HG2 HR1 HR2
      have hl5 := HL5.out
      go_wp2_with fail
      go_loopw [11, 32] (fun _ v32 wr => ∃ jx : Nat, jx ≤ L.length ∧ v32 = .int .i64 jx ∧ Hid (Below X.heap.size X wr)) (fun _ v32 _ => L.length - (RowKit.intOf v32).toNat)
      case atStart => exact ⟨0, Nat.zero_le _, rfl, Lib.hid (Below.refl _ _)⟩
      case round =>
        obtain ⟨jx, hj, rfl, HB⟩ := hrel
        by_cases hj1 : jx < L.length
        · have d2 : decide ((jx : Int) < (L.length : Int)) = true := decide_eq_true (by omega)
          obtain ⟨B1, o1, rfl, hBs, hcc⟩ := (HP1.out.below HB.out) (by omega)
          obtain ⟨k0, k1⟩ := hcc jx hj1
          obtain ⟨B2, o2, rfl, hBs2, hcc2⟩ := (HP2.out.below HB.out) (by omega)
          obtain ⟨m0, m1⟩ := hcc2 jx hj1
          generalize L[jx] = x at k0 k1 m0 m1
          obtain ⟨x, y⟩ := x
          have hne := fun w => neq_refN w x y
          clear hcc hcc2
          go_wp2_with fail
          go_quiet (fail)
          go_wp2_with fail
          go_roundw
          case rel => exact ⟨jx + 1, by omega, by go_num, Lib.hid (by first | exact HB.out | exact drewN_below HB.out _)⟩
          case measure => simp [RowKit.intOf]; omega
        · have d2 : decide ((jx : Int) < (L.length : Int)) = false := decide_eq_false (by omega)
          have HM1 := Lib.hid (fun w1 (h : NLies w1 ⟨k, l, z, sq, en⟩ A B c d) => maynl_any ⟨k, l, z, sq, en⟩ A B c d w1 h)
          have HM2 := Lib.hid (fun w1 (h : NLies w1 ⟨k, l, z, sq, en⟩ A B c d) => maynr_any ⟨k, l, z, sq, en⟩ A B c d w1 h)
          have HS1 := Lib.hid (fun w1 (h : NLies w1 ⟨k, l, z, sq, en⟩ A B c d) (h' : NLies w1 ⟨k', l', z', sq', en'⟩ A' B' c' d') => samel_any ⟨k, l, z, sq, en⟩ ⟨k', l', z', sq', en'⟩ A B A' B' c d c' d' w1 h h')
          have HS2 := Lib.hid (fun w1 (h : NLies w1 ⟨k, l, z, sq, en⟩ A B c d) (h' : NLies w1 ⟨k', l', z', sq', en'⟩ A' B' c' d') => samenr_any ⟨k, l, z, sq, en⟩ ⟨k', l', z', sq', en'⟩ A B A' B' c d c' d' w1 h h')
          have HP3 := Lib.hid (fun w1 (h : NLies w1 ⟨k, l, z, sq, en⟩ A B c d) => pagesl_any ⟨k, l, z, sq, en⟩ A B c d w1 h)
          have HP4 := Lib.hid (fun w1 (h : NLies w1 ⟨k, l, z, sq, en⟩ A B c d) => pagesr_any ⟨k, l, z, sq, en⟩ A B c d w1 h)
          have HE1 := Lib.hid (fun w1 => emptyl_nl kd w1)
          have HE2 := Lib.hid (fun w1 => emptyr_nl kd w1)
          have HES : Hid (∀ w1 A B c d A' B' c' d', NLies w1 (emptyN kd) A B c d → NLies w1 (emptyN kd) A' B' c' d' → Calls Try.prog 15 #[ndV (emptyN kd) A B c d, ndV (emptyN kd) A' B' c' d'] w1 fun x w' => x = .returned (.bool true) ∧ Below w1.heap.size w1 w') := Lib.hid fun w1 A B c d A' B' c' d' h h' => by
            have := samenr_any (emptyN kd) (emptyN kd) A B A' B' c d c' d' w1 h h'
            rwa [show sameN (emptyN kd) (emptyN kd) = true from decide_eq_true rfl] at this
          generalize mayNd ⟨k, l, z, sq, en⟩ = M at HM1 HM2
          generalize sameN ⟨k, l, z, sq, en⟩ ⟨k', l', z', sq', en'⟩ = S at HS1 HS2
          generalize pagesN ⟨k, l, z, sq, en⟩ = G at HP3 HP4
          generalize emptyN kd = E at HE1 HE2 HES
          have hvm := fun w => bool_same M w
          have hvs := fun w => bool_same S w
          replace HN := Lib.hid fun w1 (hb : Below wr.heap.size wr w1) => HN.out w1 (HB.out.trans (hb.mono HB.out.size))
          replace HM := Lib.hid fun w1 (hb : Below wr.heap.size wr w1) => HM.out w1 (HB.out.trans (hb.mono HB.out.size))
          replace HK := Lib.hid fun w1 (hb : Below wr.heap.size wr w1) => HK.out w1 (HB.out.trans (hb.mono HB.out.size))
          replace HB0 := Lib.hid (HB0.out.trans (HB.out.mono HB0.out.size))
          clear HB HP1 HP2
          go_upto_region 12 with (fail)
          refine region_st (fun j v w' => match j with | 0 => v = .agg #[.int .i64 k, .int .i64 l, .int .i64 z, .slice A sq.length c, .slice B en.length d] | 1 => v = .bool M | 2 => v = .agg #[.int .i64 k, .int .i64 l, .int .i64 z, .slice A sq.length c, .slice B en.length d] | 3 => v = .bool M | 4 => v = .bool true | 5 => v = .bool true | 6 => v = .agg #[.int .i64 k, .int .i64 l, .int .i64 z, .slice A sq.length c, .slice B en.length d] | 7 => v = .agg #[.int .i64 k', .int .i64 l', .int .i64 z', .slice A' sq'.length c', .slice B' en'.length d'] | 8 => v = .bool S | 9 => v = .agg #[.int .i64 k, .int .i64 l, .int .i64 z, .slice A sq.length c, .slice B en.length d] | 10 => v = .agg #[.int .i64 k', .int .i64 l', .int .i64 z', .slice A' sq'.length c', .slice B' en'.length d'] | 11 => v = .bool S | 12 => v = .bool true | 13 => v = .bool true | 14 => v = .bool true | 15 => v = .int .i64 kd | 16 => ∃ A3 c3, v = .agg #[.int .i64 E.k, .int .i64 E.l, .int .i64 E.z, .slice A3 E.sq.length c3, .slice none E.en.length 0] ∧ NLies w' E A3 none c3 0 | 17 => v = .int .i64 kd | 18 => ∃ A4 c4, v = .agg #[.int .i64 E.k, .int .i64 E.l, .int .i64 E.z, .slice A4 E.sq.length c4, .slice none E.en.length 0] ∧ NLies w' E A4 none c4 0 | 19 => v = .bool true | 20 => v = .bool true | 21 => v = .bool true | 22 => v = .agg #[.int .i64 k, .int .i64 l, .int .i64 z, .slice A sq.length c, .slice B en.length d] | 23 => v = .int .i64 (G : Nat) | 24 => v = .agg #[.int .i64 k, .int .i64 l, .int .i64 z, .slice A sq.length c, .slice B en.length d] | 25 => v = .int .i64 (G : Nat) | 26 => v = .bool true | 27 => v = .bool true | 28 => v = .bool true | 29 => v = .bool true | 30 => v = .bool true | 31 => v = .bool true | _ => True) (fun _ w' => Below wr.heap.size wr w') (fun w1 w2 => Below w1.heap.size w1 w2) (by kernel_rfl) (by kernel_rfl) (by kernel_rfl) ?hR ?hG ?hops ?hend
          case hR =>
            intro j v w1 w2 hv hb
            match j, hv with
            | 0, hv => exact hv
            | 1, hv => exact hv
            | 2, hv => exact hv
            | 3, hv => exact hv
            | 4, hv => exact hv
            | 5, hv => exact hv
            | 6, hv => exact hv
            | 7, hv => exact hv
            | 8, hv => exact hv
            | 9, hv => exact hv
            | 10, hv => exact hv
            | 11, hv => exact hv
            | 12, hv => exact hv
            | 13, hv => exact hv
            | 14, hv => exact hv
            | 15, hv => exact hv
            | 16, ⟨A3, c3, e, h⟩ => exact ⟨A3, c3, e, h.below hb⟩
            | 17, hv => exact hv
            | 18, ⟨A4, c4, e, h⟩ => exact ⟨A4, c4, e, h.below hb⟩
            | 19, hv => exact hv
            | 20, hv => exact hv
            | 21, hv => exact hv
            | 22, hv => exact hv
            | 23, hv => exact hv
            | 24, hv => exact hv
            | 25, hv => exact hv
            | 26, hv => exact hv
            | 27, hv => exact hv
            | 28, hv => exact hv
            | 29, hv => exact hv
            | 30, hv => exact hv
            | 31, hv => exact hv
            | _ + 32, _ => exact trivial
          case hG => exact (Below.refl _ _).drew
          case hops =>
            refine OpsOkS.cons ?o0 (OpsOkS.cons ?o1 (OpsOkS.cons ?o2 (OpsOkS.cons ?o3 (OpsOkS.cons ?o4 (OpsOkS.cons ?o5 (OpsOkS.cons ?o6 (OpsOkS.cons ?o7 (OpsOkS.cons ?o8 (OpsOkS.cons ?o9 (OpsOkS.cons ?o10 (OpsOkS.cons ?o11 (OpsOkS.cons ?o12 (OpsOkS.cons ?o13 (OpsOkS.cons ?o14 (OpsOkS.cons ?o15 (OpsOkS.cons ?o16 (OpsOkS.cons ?o17 (OpsOkS.cons ?o18 (OpsOkS.cons ?o19 (OpsOkS.cons ?o20 (OpsOkS.cons ?o21 (OpsOkS.cons ?o22 (OpsOkS.cons ?o23 (OpsOkS.cons ?o24 (OpsOkS.cons ?o25 (OpsOkS.cons ?o26 (OpsOkS.cons ?o27 (OpsOkS.cons ?o28 (OpsOkS.cons ?o29 (OpsOkS.cons ?o30 (OpsOkS.cons ?o31 OpsOkS.nil)))))))))))))))))))))))))))))))
            case o0 =>
              intro a w1 Kx hG need old hsz fresh hKx
              have e0 : a.tmps[4]?.getD undef = .pointer (some ⟨P, 0, none⟩) := by rw [← Array.getD_eq_getD_getElem?]; exact old 4 (by kernel_rfl)
              obtain ⟨j0, j1, j2, j3, j4⟩ := (HK.out w1 hG).1.cells
              refine op_value (v := .agg #[.int .i64 k, .int .i64 l, .int .i64 z, .slice A sq.length c, .slice B en.length d]) (wanted_none rfl) ?_ (hKx _ w1 rfl hG (Below.refl _ _))
              simp [execOp, go_sem, e0, j0, j1, j2, j3, j4]
            case o1 =>
              intro a w1 Kx hG need old hsz fresh hKx
              have e0 : a.tmps[45]?.getD undef = .agg #[.int .i64 k, .int .i64 l, .int .i64 z, .slice A sq.length c, .slice B en.length d] := by rw [← Array.getD_eq_getD_getElem?]; exact (need 0 (by kernel_rfl) (by kernel_rfl))
              refine op_call (wanted_none rfl) (f := 12) (args := #[.agg #[.int .i64 k, .int .i64 l, .int .i64 z, .slice A sq.length c, .slice B en.length d]]) ?run ((HM1.out w1 (HN.out w1 hG)).mono ?post)
              case run => simp [go_sem, e0]
              case post =>
                rintro e w2 ⟨rfl, hb2⟩
                exact ⟨_, rfl, hKx _ w2 rfl (hG.trans (hb2.mono hG.size)) hb2⟩
            case o2 =>
              intro a w1 Kx hG need old hsz fresh hKx
              have e0 : a.tmps[4]?.getD undef = .pointer (some ⟨P, 0, none⟩) := by rw [← Array.getD_eq_getD_getElem?]; exact old 4 (by kernel_rfl)
              obtain ⟨j0, j1, j2, j3, j4⟩ := (HK.out w1 hG).1.cells
              refine op_value (v := .agg #[.int .i64 k, .int .i64 l, .int .i64 z, .slice A sq.length c, .slice B en.length d]) (wanted_none rfl) ?_ (hKx _ w1 rfl hG (Below.refl _ _))
              simp [execOp, go_sem, e0, j0, j1, j2, j3, j4]
            case o3 =>
              intro a w1 Kx hG need old hsz fresh hKx
              have e0 : a.tmps[47]?.getD undef = .agg #[.int .i64 k, .int .i64 l, .int .i64 z, .slice A sq.length c, .slice B en.length d] := by rw [← Array.getD_eq_getD_getElem?]; exact (need 2 (by kernel_rfl) (by kernel_rfl))
              refine op_call (wanted_none rfl) (f := 13) (args := #[.agg #[.int .i64 k, .int .i64 l, .int .i64 z, .slice A sq.length c, .slice B en.length d]]) ?run ((HM2.out w1 (HN.out w1 hG)).mono ?post)
              case run => simp [go_sem, e0]
              case post =>
                rintro e w2 ⟨rfl, hb2⟩
                exact ⟨_, rfl, hKx _ w2 rfl (hG.trans (hb2.mono hG.size)) hb2⟩
            case o4 =>
              intro a w1 Kx hG need old hsz fresh hKx
              have e0 : a.tmps[46]?.getD undef = .bool M := by rw [← Array.getD_eq_getD_getElem?]; exact (need 1 (by kernel_rfl) (by kernel_rfl))
              have e1 : a.tmps[48]?.getD undef = .bool M := by rw [← Array.getD_eq_getD_getElem?]; exact (need 3 (by kernel_rfl) (by kernel_rfl))
              refine op_value (v := .bool true) (wanted_none rfl) ?_ (hKx _ w1 rfl hG (Below.refl _ _))
              simp [execOp, go_sem, e0, e1, bool_same]
            case o5 =>
              intro a w1 Kx hG need old hsz fresh hKx
              have e0 : a.tmps[49]?.getD undef = .bool true := by rw [← Array.getD_eq_getD_getElem?]; exact (need 4 (by kernel_rfl) (by kernel_rfl))
              refine op_value (v := .bool true) (wanted_none rfl) ?_ (hKx _ w1 rfl hG (Below.refl _ _))
              simp [execOp, go_sem, e0]
            case o6 =>
              intro a w1 Kx hG need old hsz fresh hKx
              have e0 : a.tmps[4]?.getD undef = .pointer (some ⟨P, 0, none⟩) := by rw [← Array.getD_eq_getD_getElem?]; exact old 4 (by kernel_rfl)
              obtain ⟨j0, j1, j2, j3, j4⟩ := (HK.out w1 hG).1.cells
              refine op_value (v := .agg #[.int .i64 k, .int .i64 l, .int .i64 z, .slice A sq.length c, .slice B en.length d]) (wanted_of (j := 5) rfl (need 5 (by kernel_rfl) (by kernel_rfl))) ?_ (hKx _ w1 rfl hG (Below.refl _ _))
              simp [execOp, go_sem, e0, j0, j1, j2, j3, j4]
            case o7 =>
              intro a w1 Kx hG need old hsz fresh hKx
              have e0 : a.tmps[5]?.getD undef = .pointer (some ⟨P + 1, 0, none⟩) := by rw [← Array.getD_eq_getD_getElem?]; exact old 5 (by kernel_rfl)
              obtain ⟨j0, j1, j2, j3, j4⟩ := (HK.out w1 hG).2.cells
              refine op_value (v := .agg #[.int .i64 k', .int .i64 l', .int .i64 z', .slice A' sq'.length c', .slice B' en'.length d']) (wanted_of (j := 5) rfl (need 5 (by kernel_rfl) (by kernel_rfl))) ?_ (hKx _ w1 rfl hG (Below.refl _ _))
              simp [execOp, go_sem, e0, j0, j1, j2, j3, j4]
            case o8 =>
              intro a w1 Kx hG need old hsz fresh hKx
              have e0 : a.tmps[51]?.getD undef = .agg #[.int .i64 k, .int .i64 l, .int .i64 z, .slice A sq.length c, .slice B en.length d] := by rw [← Array.getD_eq_getD_getElem?]; exact (need 6 (by kernel_rfl) (by kernel_rfl))
              have e1 : a.tmps[52]?.getD undef = .agg #[.int .i64 k', .int .i64 l', .int .i64 z', .slice A' sq'.length c', .slice B' en'.length d'] := by rw [← Array.getD_eq_getD_getElem?]; exact (need 7 (by kernel_rfl) (by kernel_rfl))
              refine op_call (wanted_of (j := 5) rfl (need 5 (by kernel_rfl) (by kernel_rfl))) (f := 14) (args := #[.agg #[.int .i64 k, .int .i64 l, .int .i64 z, .slice A sq.length c, .slice B en.length d], .agg #[.int .i64 k', .int .i64 l', .int .i64 z', .slice A' sq'.length c', .slice B' en'.length d']]) ?run ((HS1.out w1 (HN.out w1 hG) (HM.out w1 hG)).mono ?post)
              case run => simp [go_sem, e0, e1]
              case post =>
                rintro e w2 ⟨rfl, hb2⟩
                exact ⟨_, rfl, hKx _ w2 rfl (hG.trans (hb2.mono hG.size)) hb2⟩
            case o9 =>
              intro a w1 Kx hG need old hsz fresh hKx
              have e0 : a.tmps[4]?.getD undef = .pointer (some ⟨P, 0, none⟩) := by rw [← Array.getD_eq_getD_getElem?]; exact old 4 (by kernel_rfl)
              obtain ⟨j0, j1, j2, j3, j4⟩ := (HK.out w1 hG).1.cells
              refine op_value (v := .agg #[.int .i64 k, .int .i64 l, .int .i64 z, .slice A sq.length c, .slice B en.length d]) (wanted_of (j := 5) rfl (need 5 (by kernel_rfl) (by kernel_rfl))) ?_ (hKx _ w1 rfl hG (Below.refl _ _))
              simp [execOp, go_sem, e0, j0, j1, j2, j3, j4]
            case o10 =>
              intro a w1 Kx hG need old hsz fresh hKx
              have e0 : a.tmps[5]?.getD undef = .pointer (some ⟨P + 1, 0, none⟩) := by rw [← Array.getD_eq_getD_getElem?]; exact old 5 (by kernel_rfl)
              obtain ⟨j0, j1, j2, j3, j4⟩ := (HK.out w1 hG).2.cells
              refine op_value (v := .agg #[.int .i64 k', .int .i64 l', .int .i64 z', .slice A' sq'.length c', .slice B' en'.length d']) (wanted_of (j := 5) rfl (need 5 (by kernel_rfl) (by kernel_rfl))) ?_ (hKx _ w1 rfl hG (Below.refl _ _))
              simp [execOp, go_sem, e0, j0, j1, j2, j3, j4]
            case o11 =>
              intro a w1 Kx hG need old hsz fresh hKx
              have e0 : a.tmps[54]?.getD undef = .agg #[.int .i64 k, .int .i64 l, .int .i64 z, .slice A sq.length c, .slice B en.length d] := by rw [← Array.getD_eq_getD_getElem?]; exact (need 9 (by kernel_rfl) (by kernel_rfl))
              have e1 : a.tmps[55]?.getD undef = .agg #[.int .i64 k', .int .i64 l', .int .i64 z', .slice A' sq'.length c', .slice B' en'.length d'] := by rw [← Array.getD_eq_getD_getElem?]; exact (need 10 (by kernel_rfl) (by kernel_rfl))
              refine op_call (wanted_of (j := 5) rfl (need 5 (by kernel_rfl) (by kernel_rfl))) (f := 15) (args := #[.agg #[.int .i64 k, .int .i64 l, .int .i64 z, .slice A sq.length c, .slice B en.length d], .agg #[.int .i64 k', .int .i64 l', .int .i64 z', .slice A' sq'.length c', .slice B' en'.length d']]) ?run ((HS2.out w1 (HN.out w1 hG) (HM.out w1 hG)).mono ?post)
              case run => simp [go_sem, e0, e1]
              case post =>
                rintro e w2 ⟨rfl, hb2⟩
                exact ⟨_, rfl, hKx _ w2 rfl (hG.trans (hb2.mono hG.size)) hb2⟩
            case o12 =>
              intro a w1 Kx hG need old hsz fresh hKx
              have e0 : a.tmps[53]?.getD undef = .bool S := by rw [← Array.getD_eq_getD_getElem?]; exact (need 8 (by kernel_rfl) (by kernel_rfl))
              have e1 : a.tmps[56]?.getD undef = .bool S := by rw [← Array.getD_eq_getD_getElem?]; exact (need 11 (by kernel_rfl) (by kernel_rfl))
              refine op_value (v := .bool true) (wanted_of (j := 5) rfl (need 5 (by kernel_rfl) (by kernel_rfl))) ?_ (hKx _ w1 rfl hG (Below.refl _ _))
              simp [execOp, go_sem, e0, e1, bool_same]
            case o13 =>
              intro a w1 Kx hG need old hsz fresh hKx
              have e0 : a.tmps[50]?.getD undef = .bool true := by rw [← Array.getD_eq_getD_getElem?]; exact (need 5 (by kernel_rfl) (by kernel_rfl))
              have e1 : a.tmps[57]?.getD undef = .bool true := by rw [← Array.getD_eq_getD_getElem?]; exact (need 12 (by kernel_rfl) (by kernel_rfl))
              refine op_value (v := .bool true) (wanted_none rfl) ?_ (hKx _ w1 rfl hG (Below.refl _ _))
              simp [execOp, go_sem, asBool, e0, e1]
            case o14 =>
              intro a w1 Kx hG need old hsz fresh hKx
              have e0 : a.tmps[58]?.getD undef = .bool true := by rw [← Array.getD_eq_getD_getElem?]; exact (need 13 (by kernel_rfl) (by kernel_rfl))
              refine op_value (v := .bool true) (wanted_none rfl) ?_ (hKx _ w1 rfl hG (Below.refl _ _))
              simp [execOp, go_sem, e0]
            case o15 =>
              intro a w1 Kx hG need old hsz fresh hKx
              have e0 : a.tmps[2]?.getD undef = .int .i64 kd := by rw [← Array.getD_eq_getD_getElem?]; exact old 2 (by kernel_rfl)
              refine op_value (v := .int .i64 kd) (wanted_of (j := 14) rfl (need 14 (by kernel_rfl) (by kernel_rfl))) ?_ (hKx _ w1 rfl hG (Below.refl _ _))
              simp [execOp, go_sem, e0]
            case o16 =>
              intro a w1 Kx hG need old hsz fresh hKx
              have e0 : a.tmps[60]?.getD undef = .int .i64 kd := by rw [← Array.getD_eq_getD_getElem?]; exact (need 15 (by kernel_rfl) (by kernel_rfl))
              refine op_call (wanted_of (j := 14) rfl (need 14 (by kernel_rfl) (by kernel_rfl))) (f := 16) (args := #[.int .i64 kd]) ?run ((HE1.out w1).mono ?post)
              case run => simp [go_sem, e0]
              case post =>
                rintro e w2 ⟨A3, c3, rfl, h1, hb2⟩
                exact ⟨_, rfl, hKx _ w2 ⟨A3, c3, rfl, h1⟩ (hG.trans (hb2.mono hG.size)) hb2⟩
            case o17 =>
              intro a w1 Kx hG need old hsz fresh hKx
              have e0 : a.tmps[2]?.getD undef = .int .i64 kd := by rw [← Array.getD_eq_getD_getElem?]; exact old 2 (by kernel_rfl)
              refine op_value (v := .int .i64 kd) (wanted_of (j := 14) rfl (need 14 (by kernel_rfl) (by kernel_rfl))) ?_ (hKx _ w1 rfl hG (Below.refl _ _))
              simp [execOp, go_sem, e0]
            case o18 =>
              intro a w1 Kx hG need old hsz fresh hKx
              have e0 : a.tmps[62]?.getD undef = .int .i64 kd := by rw [← Array.getD_eq_getD_getElem?]; exact (need 17 (by kernel_rfl) (by kernel_rfl))
              refine op_call (wanted_of (j := 14) rfl (need 14 (by kernel_rfl) (by kernel_rfl))) (f := 17) (args := #[.int .i64 kd]) ?run ((HE2.out w1).mono ?post)
              case run => simp [go_sem, e0]
              case post =>
                rintro e w2 ⟨A4, c4, rfl, h1, hb2⟩
                exact ⟨_, rfl, hKx _ w2 ⟨A4, c4, rfl, h1⟩ (hG.trans (hb2.mono hG.size)) hb2⟩
            case o19 =>
              intro a w1 Kx hG need old hsz fresh hKx
              obtain ⟨A3, c3, qe0, he0⟩ := need 16 (by kernel_rfl) (by kernel_rfl)
              have e0 : a.tmps[61]?.getD undef = .agg #[.int .i64 E.k, .int .i64 E.l, .int .i64 E.z, .slice A3 E.sq.length c3, .slice none E.en.length 0] := by rw [← Array.getD_eq_getD_getElem?]; exact qe0
              obtain ⟨A4, c4, qe1, he1⟩ := need 18 (by kernel_rfl) (by kernel_rfl)
              have e1 : a.tmps[63]?.getD undef = .agg #[.int .i64 E.k, .int .i64 E.l, .int .i64 E.z, .slice A4 E.sq.length c4, .slice none E.en.length 0] := by rw [← Array.getD_eq_getD_getElem?]; exact qe1
              refine op_call (wanted_of (j := 14) rfl (need 14 (by kernel_rfl) (by kernel_rfl))) (f := 15) (args := #[.agg #[.int .i64 E.k, .int .i64 E.l, .int .i64 E.z, .slice A3 E.sq.length c3, .slice none E.en.length 0], .agg #[.int .i64 E.k, .int .i64 E.l, .int .i64 E.z, .slice A4 E.sq.length c4, .slice none E.en.length 0]]) ?run ((HES.out w1 _ _ _ _ _ _ _ _ he0 he1).mono ?post)
              case run => simp [go_sem, e0, e1]
              case post =>
                rintro e w2 ⟨rfl, hb2⟩
                exact ⟨_, rfl, hKx _ w2 rfl (hG.trans (hb2.mono hG.size)) hb2⟩
            case o20 =>
              intro a w1 Kx hG need old hsz fresh hKx
              have e0 : a.tmps[59]?.getD undef = .bool true := by rw [← Array.getD_eq_getD_getElem?]; exact (need 14 (by kernel_rfl) (by kernel_rfl))
              have e1 : a.tmps[64]?.getD undef = .bool true := by rw [← Array.getD_eq_getD_getElem?]; exact (need 19 (by kernel_rfl) (by kernel_rfl))
              refine op_value (v := .bool true) (wanted_none rfl) ?_ (hKx _ w1 rfl hG (Below.refl _ _))
              simp [execOp, go_sem, asBool, e0, e1]
            case o21 =>
              intro a w1 Kx hG need old hsz fresh hKx
              have e0 : a.tmps[65]?.getD undef = .bool true := by rw [← Array.getD_eq_getD_getElem?]; exact (need 20 (by kernel_rfl) (by kernel_rfl))
              refine op_value (v := .bool true) (wanted_none rfl) ?_ (hKx _ w1 rfl hG (Below.refl _ _))
              simp [execOp, go_sem, e0]
            case o22 =>
              intro a w1 Kx hG need old hsz fresh hKx
              have e0 : a.tmps[4]?.getD undef = .pointer (some ⟨P, 0, none⟩) := by rw [← Array.getD_eq_getD_getElem?]; exact old 4 (by kernel_rfl)
              obtain ⟨j0, j1, j2, j3, j4⟩ := (HK.out w1 hG).1.cells
              refine op_value (v := .agg #[.int .i64 k, .int .i64 l, .int .i64 z, .slice A sq.length c, .slice B en.length d]) (wanted_of (j := 21) rfl (need 21 (by kernel_rfl) (by kernel_rfl))) ?_ (hKx _ w1 rfl hG (Below.refl _ _))
              simp [execOp, go_sem, e0, j0, j1, j2, j3, j4]
            case o23 =>
              intro a w1 Kx hG need old hsz fresh hKx
              have e0 : a.tmps[67]?.getD undef = .agg #[.int .i64 k, .int .i64 l, .int .i64 z, .slice A sq.length c, .slice B en.length d] := by rw [← Array.getD_eq_getD_getElem?]; exact (need 22 (by kernel_rfl) (by kernel_rfl))
              refine op_call (wanted_of (j := 21) rfl (need 21 (by kernel_rfl) (by kernel_rfl))) (f := 18) (args := #[.agg #[.int .i64 k, .int .i64 l, .int .i64 z, .slice A sq.length c, .slice B en.length d]]) ?run ((HP3.out w1 (HN.out w1 hG)).mono ?post)
              case run => simp [go_sem, e0]
              case post =>
                rintro e w2 ⟨rfl, hb2⟩
                exact ⟨_, rfl, hKx _ w2 rfl (hG.trans (hb2.mono hG.size)) hb2⟩
            case o24 =>
              intro a w1 Kx hG need old hsz fresh hKx
              have e0 : a.tmps[4]?.getD undef = .pointer (some ⟨P, 0, none⟩) := by rw [← Array.getD_eq_getD_getElem?]; exact old 4 (by kernel_rfl)
              obtain ⟨j0, j1, j2, j3, j4⟩ := (HK.out w1 hG).1.cells
              refine op_value (v := .agg #[.int .i64 k, .int .i64 l, .int .i64 z, .slice A sq.length c, .slice B en.length d]) (wanted_of (j := 21) rfl (need 21 (by kernel_rfl) (by kernel_rfl))) ?_ (hKx _ w1 rfl hG (Below.refl _ _))
              simp [execOp, go_sem, e0, j0, j1, j2, j3, j4]
            case o25 =>
              intro a w1 Kx hG need old hsz fresh hKx
              have e0 : a.tmps[69]?.getD undef = .agg #[.int .i64 k, .int .i64 l, .int .i64 z, .slice A sq.length c, .slice B en.length d] := by rw [← Array.getD_eq_getD_getElem?]; exact (need 24 (by kernel_rfl) (by kernel_rfl))
              refine op_call (wanted_of (j := 21) rfl (need 21 (by kernel_rfl) (by kernel_rfl))) (f := 19) (args := #[.agg #[.int .i64 k, .int .i64 l, .int .i64 z, .slice A sq.length c, .slice B en.length d]]) ?run ((HP4.out w1 (HN.out w1 hG)).mono ?post)
              case run => simp [go_sem, e0]
              case post =>
                rintro e w2 ⟨rfl, hb2⟩
                exact ⟨_, rfl, hKx _ w2 rfl (hG.trans (hb2.mono hG.size)) hb2⟩
            case o26 =>
              intro a w1 Kx hG need old hsz fresh hKx
              have e0 : a.tmps[68]?.getD undef = .int .i64 (G : Nat) := by rw [← Array.getD_eq_getD_getElem?]; exact (need 23 (by kernel_rfl) (by kernel_rfl))
              have e1 : a.tmps[70]?.getD undef = .int .i64 (G : Nat) := by rw [← Array.getD_eq_getD_getElem?]; exact (need 25 (by kernel_rfl) (by kernel_rfl))
              refine op_value (v := .bool true) (wanted_of (j := 21) rfl (need 21 (by kernel_rfl) (by kernel_rfl))) ?_ (hKx _ w1 rfl hG (Below.refl _ _))
              simp [execOp, go_sem, e0, e1]
            case o27 =>
              intro a w1 Kx hG need old hsz fresh hKx
              have e0 : a.tmps[66]?.getD undef = .bool true := by rw [← Array.getD_eq_getD_getElem?]; exact (need 21 (by kernel_rfl) (by kernel_rfl))
              have e1 : a.tmps[71]?.getD undef = .bool true := by rw [← Array.getD_eq_getD_getElem?]; exact (need 26 (by kernel_rfl) (by kernel_rfl))
              refine op_value (v := .bool true) (wanted_none rfl) ?_ (hKx _ w1 rfl hG (Below.refl _ _))
              simp [execOp, go_sem, asBool, e0, e1]
            case o28 =>
              intro a w1 Kx hG need old hsz fresh hKx
              have e0 : a.tmps[72]?.getD undef = .bool true := by rw [← Array.getD_eq_getD_getElem?]; exact (need 27 (by kernel_rfl) (by kernel_rfl))
              refine op_value (v := .bool true) (wanted_none rfl) ?_ (hKx _ w1 rfl hG (Below.refl _ _))
              simp [execOp, go_sem, e0]
            case o29 =>
              intro a w1 Kx hG need old hsz fresh hKx
              refine op_call (wanted_of (j := 28) rfl (need 28 (by kernel_rfl) (by kernel_rfl))) (f := 9) (args := #[]) ?run ((awake_any w1).mono ?post)
              case run => simp [go_sem]
              case post =>
                rintro e w2 ⟨rfl, hb2⟩
                exact ⟨_, rfl, hKx _ w2 rfl (hG.trans (hb2.mono hG.size)) hb2⟩
            case o30 =>
              intro a w1 Kx hG need old hsz fresh hKx
              have e0 : a.tmps[73]?.getD undef = .bool true := by rw [← Array.getD_eq_getD_getElem?]; exact (need 28 (by kernel_rfl) (by kernel_rfl))
              have e1 : a.tmps[74]?.getD undef = .bool true := by rw [← Array.getD_eq_getD_getElem?]; exact (need 29 (by kernel_rfl) (by kernel_rfl))
              refine op_value (v := .bool true) (wanted_none rfl) ?_ (hKx _ w1 rfl hG (Below.refl _ _))
              simp [execOp, go_sem, asBool, e0, e1]
            case o31 =>
              intro a w1 Kx hG need old hsz fresh hKx
              have e0 : a.tmps[75]?.getD undef = .bool true := by rw [← Array.getD_eq_getD_getElem?]; exact (need 30 (by kernel_rfl) (by kernel_rfl))
              refine op_value (v := .bool true) (wanted_none rfl) ?_ (hKx _ w1 rfl hG (Below.refl _ _))
              simp [execOp, go_sem, e0]
          case hend =>
            intro a w6 hG hde hsz hφ hold
            obtain ⟨A3_16, c3_16, hv_16, hp_16⟩ := hφ 16 (by kernel_rfl)
            obtain ⟨A4_18, c4_18, hv_18, hp_18⟩ := hφ 18 (by kernel_rfl)
            obtain rfl := act_puts [(45, .agg #[.int .i64 k, .int .i64 l, .int .i64 z, .slice A sq.length c, .slice B en.length d]), (46, .bool M), (47, .agg #[.int .i64 k, .int .i64 l, .int .i64 z, .slice A sq.length c, .slice B en.length d]), (48, .bool M), (49, .bool true), (50, .bool true), (51, .agg #[.int .i64 k, .int .i64 l, .int .i64 z, .slice A sq.length c, .slice B en.length d]), (52, .agg #[.int .i64 k', .int .i64 l', .int .i64 z', .slice A' sq'.length c', .slice B' en'.length d']), (53, .bool S), (54, .agg #[.int .i64 k, .int .i64 l, .int .i64 z, .slice A sq.length c, .slice B en.length d]), (55, .agg #[.int .i64 k', .int .i64 l', .int .i64 z', .slice A' sq'.length c', .slice B' en'.length d']), (56, .bool S), (57, .bool true), (58, .bool true), (59, .bool true), (60, .int .i64 kd), (61, .agg #[.int .i64 E.k, .int .i64 E.l, .int .i64 E.z, .slice A3_16 E.sq.length c3_16, .slice none E.en.length 0]), (62, .int .i64 kd), (63, .agg #[.int .i64 E.k, .int .i64 E.l, .int .i64 E.z, .slice A4_18 E.sq.length c4_18, .slice none E.en.length 0]), (64, .bool true), (65, .bool true), (66, .bool true), (67, .agg #[.int .i64 k, .int .i64 l, .int .i64 z, .slice A sq.length c, .slice B en.length d]), (68, .int .i64 (G : Nat)), (69, .agg #[.int .i64 k, .int .i64 l, .int .i64 z, .slice A sq.length c, .slice B en.length d]), (70, .int .i64 (G : Nat)), (71, .bool true), (72, .bool true), (73, .bool true), (74, .bool true), (75, .bool true), (8, .bool true)] [45, 46, 47, 48, 49, 50, 51, 52, 53, 54, 55, 56, 57, 58, 59, 60, 61, 62, 63, 64, 65, 66, 67, 68, 69, 70, 71, 72, 73, 74, 75, 8] rfl (by kernel_rfl) (by kernel_rfl) hde hsz (List.forall_mem_cons.2 ⟨(show a.tmps.getD 45 undef = .agg #[.int .i64 k, .int .i64 l, .int .i64 z, .slice A sq.length c, .slice B en.length d] from (hφ 0 (by kernel_rfl))), (List.forall_mem_cons.2 ⟨(show a.tmps.getD 46 undef = .bool M from (hφ 1 (by kernel_rfl))), (List.forall_mem_cons.2 ⟨(show a.tmps.getD 47 undef = .agg #[.int .i64 k, .int .i64 l, .int .i64 z, .slice A sq.length c, .slice B en.length d] from (hφ 2 (by kernel_rfl))), (List.forall_mem_cons.2 ⟨(show a.tmps.getD 48 undef = .bool M from (hφ 3 (by kernel_rfl))), (List.forall_mem_cons.2 ⟨(show a.tmps.getD 49 undef = .bool true from (hφ 4 (by kernel_rfl))), (List.forall_mem_cons.2 ⟨(show a.tmps.getD 50 undef = .bool true from (hφ 5 (by kernel_rfl))), (List.forall_mem_cons.2 ⟨(show a.tmps.getD 51 undef = .agg #[.int .i64 k, .int .i64 l, .int .i64 z, .slice A sq.length c, .slice B en.length d] from (hφ 6 (by kernel_rfl))), (List.forall_mem_cons.2 ⟨(show a.tmps.getD 52 undef = .agg #[.int .i64 k', .int .i64 l', .int .i64 z', .slice A' sq'.length c', .slice B' en'.length d'] from (hφ 7 (by kernel_rfl))), (List.forall_mem_cons.2 ⟨(show a.tmps.getD 53 undef = .bool S from (hφ 8 (by kernel_rfl))), (List.forall_mem_cons.2 ⟨(show a.tmps.getD 54 undef = .agg #[.int .i64 k, .int .i64 l, .int .i64 z, .slice A sq.length c, .slice B en.length d] from (hφ 9 (by kernel_rfl))), (List.forall_mem_cons.2 ⟨(show a.tmps.getD 55 undef = .agg #[.int .i64 k', .int .i64 l', .int .i64 z', .slice A' sq'.length c', .slice B' en'.length d'] from (hφ 10 (by kernel_rfl))), (List.forall_mem_cons.2 ⟨(show a.tmps.getD 56 undef = .bool S from (hφ 11 (by kernel_rfl))), (List.forall_mem_cons.2 ⟨(show a.tmps.getD 57 undef = .bool true from (hφ 12 (by kernel_rfl))), (List.forall_mem_cons.2 ⟨(show a.tmps.getD 58 undef = .bool true from (hφ 13 (by kernel_rfl))), (List.forall_mem_cons.2 ⟨(show a.tmps.getD 59 undef = .bool true from (hφ 14 (by kernel_rfl))), (List.forall_mem_cons.2 ⟨(show a.tmps.getD 60 undef = .int .i64 kd from (hφ 15 (by kernel_rfl))), (List.forall_mem_cons.2 ⟨(show a.tmps.getD 61 undef = .agg #[.int .i64 E.k, .int .i64 E.l, .int .i64 E.z, .slice A3_16 E.sq.length c3_16, .slice none E.en.length 0] from hv_16), (List.forall_mem_cons.2 ⟨(show a.tmps.getD 62 undef = .int .i64 kd from (hφ 17 (by kernel_rfl))), (List.forall_mem_cons.2 ⟨(show a.tmps.getD 63 undef = .agg #[.int .i64 E.k, .int .i64 E.l, .int .i64 E.z, .slice A4_18 E.sq.length c4_18, .slice none E.en.length 0] from hv_18), (List.forall_mem_cons.2 ⟨(show a.tmps.getD 64 undef = .bool true from (hφ 19 (by kernel_rfl))), (List.forall_mem_cons.2 ⟨(show a.tmps.getD 65 undef = .bool true from (hφ 20 (by kernel_rfl))), (List.forall_mem_cons.2 ⟨(show a.tmps.getD 66 undef = .bool true from (hφ 21 (by kernel_rfl))), (List.forall_mem_cons.2 ⟨(show a.tmps.getD 67 undef = .agg #[.int .i64 k, .int .i64 l, .int .i64 z, .slice A sq.length c, .slice B en.length d] from (hφ 22 (by kernel_rfl))), (List.forall_mem_cons.2 ⟨(show a.tmps.getD 68 undef = .int .i64 (G : Nat) from (hφ 23 (by kernel_rfl))), (List.forall_mem_cons.2 ⟨(show a.tmps.getD 69 undef = .agg #[.int .i64 k, .int .i64 l, .int .i64 z, .slice A sq.length c, .slice B en.length d] from (hφ 24 (by kernel_rfl))), (List.forall_mem_cons.2 ⟨(show a.tmps.getD 70 undef = .int .i64 (G : Nat) from (hφ 25 (by kernel_rfl))), (List.forall_mem_cons.2 ⟨(show a.tmps.getD 71 undef = .bool true from (hφ 26 (by kernel_rfl))), (List.forall_mem_cons.2 ⟨(show a.tmps.getD 72 undef = .bool true from (hφ 27 (by kernel_rfl))), (List.forall_mem_cons.2 ⟨(show a.tmps.getD 73 undef = .bool true from (hφ 28 (by kernel_rfl))), (List.forall_mem_cons.2 ⟨(show a.tmps.getD 74 undef = .bool true from (hφ 29 (by kernel_rfl))), (List.forall_mem_cons.2 ⟨(show a.tmps.getD 75 undef = .bool true from (hφ 30 (by kernel_rfl))), (List.forall_mem_cons.2 ⟨(show a.tmps.getD 8 undef = .bool true from (hφ 31 (by kernel_rfl))), (fun _ h => absurd h (by simp))⟩)⟩)⟩)⟩)⟩)⟩)⟩)⟩)⟩)⟩)⟩)⟩)⟩)⟩)⟩)⟩)⟩)⟩)⟩)⟩)⟩)⟩)⟩)⟩)⟩)⟩)⟩)⟩)⟩)⟩)⟩)⟩) hold
            clear hφ hold hsz hde hv_16 hv_18
            simp only [putAll]
            go_frame
            go_wp2_with fail
            go_ret
            exact ⟨rfl, HB0.out.trans (hG.mono HB0.out.size)⟩
end Go.Proofs.Ytohiabkjbieflaa
