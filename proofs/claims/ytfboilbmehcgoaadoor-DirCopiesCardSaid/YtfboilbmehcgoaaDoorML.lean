/- DirCopies, over what the landed calls are asked to answer (written by mktrl.py). -/
import Derived.Test.YtfboilbmehcgoaaDoorMK
import Derived.Test.YtfboilbmehcgoaaDoorMD
import Derived.Test.YtfboilbmehcgoaaDoorMC
namespace Go.Proofs.YtfboilbmehcgoaaDoor
open Go.RowKit Go.Lib

set_option maxRecDepth 100000 in
set_option maxHeartbeats 16000000 in
theorem copies_law
    (lcp : ∀ (t : List Nd) (A : Option Addr) (c : Nat) (r : Nat → NAddr) (w : World), TLies w A c t r → LightT t → Calls Tryd.prog 11 #[.agg #[.slice A t.length c]] w (CopyTPost w t))
    (awk : ∀ w : World, Calls Tryd.prog 10 #[] w fun x w' => x = .returned (.bool true) ∧ Below w.heap.size w w')
    (t : List Nd) (A : Option Addr) (c : Nat) (r : Nat → NAddr) (x : Int) (w : World) (h : TLies w A c t r) : Calls Tryd.prog 3 #[.agg #[.slice A t.length c], .int .i64 x] w fun e w' => e = .returned (.bool true) ∧ Below w.heap.size w w' := by
  have HH := Lib.hid h
  have HLC := Lib.hid (lightT_cases t)
  have HBA := Lib.hid ((Below.refl w.heap.size w).alloc (Nat.le_refl _) (.cells #[.slice A t.length c] 24))
  have HX := Lib.hid (heap_alloc_new w (.cells #[.slice A t.length c] 24))
  have HLA := Lib.hid (fun w1 h => lightT_any t A c r w1 h)
  have HCP := Lib.hid (fun w1 h hl => lcp t A c r w1 h hl)
  have HCR := Lib.hid (fun w1 h h4 h6 => copyTr_any t A c r w1 h h4 h6)
  have HST : Hid (∀ (A A' : Option Addr) (c c' : Nat) (r r' : Nat → NAddr) (w : World), TLies w A c t r → TLies w A' c' t r' → Calls Tryd.prog 13 #[.agg #[.slice A t.length c], .agg #[.slice A' t.length c']] w fun x w' => x = .returned (.bool true) ∧ Below w.heap.size w w') := Lib.hid fun A A' c c' r r' w h1 h2 => by
    have := sameTr_any t t A A' c c' r r' w h1 h2
    rwa [decide_eq_true rfl] at this
  have HAW := Lib.hid awk
  clear h lcp awk
  obtain ⟨LA, hLA⟩ : ∃ L, lightT t = L := ⟨_, rfl⟩
  rw [hLA] at HLC HLA
  clear hLA
  go_enter Tryd.func3, Tryd.ntmps3
  go_upto_region 1 with (fail)
  generalize w.alloc _ = W at HBA HX ⊢
  obtain ⟨P, hP⟩ : ∃ P, P = w.heap.size := ⟨_, rfl⟩
  rw [← hP] at HX ⊢
  clear hP
  have HTL : Hid (∀ w1, Below W.heap.size W w1 → TLies w1 A c t r) := Lib.hid fun w1 hb => (HH.out.below HBA.out).below hb
  have hPz : Hid (P < W.heap.size) := Lib.hid (lt_size HX.out)
  have HPX : Hid (∀ w1, Below W.heap.size W w1 → w1.cell? ⟨P, 0, none⟩ = some (.slice A t.length c)) := Lib.hid fun w1 hb => by
    have := (hb.block P hPz.out).trans HX.out
    simp [World.cell?, this]
  have q0 := HPX.out W (Below.refl _ _)
  rcases HLC.out with ⟨rfl, hl⟩ | hpos
  case inr =>
    have b1 : decide (0 < LA) = true := decide_eq_true hpos
    clear hpos
    go_wp2_with (first
      | (go_at_call 9; (with_reducible refine (HLA.out _ (HTL.out _ (Below.refl _ _))).mono ?_); rintro e w1 ⟨rfl, hb1⟩; replace hb1 := Lib.hid hb1; have q1 := HPX.out _ hb1.out)
      | (go_at_call 10; (with_reducible refine (HAW.out _).mono ?_); rintro e w3 ⟨rfl, hb3⟩; replace hb3 := Lib.hid (hb1.out.trans (hb3.mono hb1.out.size)))
      | fail)
    go_ret
    exact ⟨rfl, HBA.out.trans (hb3.out.mono HBA.out.size)⟩
  have HLT : Hid (LightT t) := Lib.hid hl
  clear hl
  go_upto_region 3 with (first
    | (go_at_call 9; (with_reducible refine (HLA.out _ (HTL.out _ (Below.refl _ _))).mono ?_); rintro e w1 ⟨rfl, hb1⟩; replace hb1 := Lib.hid hb1)
    | fail)
  obtain ⟨V, rfl⟩ : ∃ V, V = w1 := ⟨_, rfl⟩
  have HN := Lib.hid fun w1 (hb : Below V.heap.size V w1) => HTL.out w1 (hb1.out.trans (hb.mono hb1.out.size))
  have HK := Lib.hid fun w1 (hb : Below V.heap.size V w1) => HPX.out w1 (hb1.out.trans (hb.mono hb1.out.size))
  replace HBA := Lib.hid (HBA.out.trans (hb1.out.mono HBA.out.size))
  clear hb1 HLA HTL HPX hPz HX HLC HH q0
  have HC1 := Lib.hid (fun w1 h => HCP.out w1 h HLT.out)
  have HC2 := Lib.hid (fun w1 h => HCR.out w1 h HLT.out.1 HLT.out.2)
  refine region_tail 6 (fun j v w' => match j with | 0 => v = .agg #[.slice A t.length c] | 1 => ∃ q1 k1 r1, v = .agg #[.slice q1 t.length k1] ∧ TOwn w' V.heap.size (.slice q1 t.length k1) t r1 | 2 => v = .agg #[.slice A t.length c] | 3 => ∃ q2 k2 r2, v = .agg #[.slice q2 t.length k2] ∧ TOwn w' V.heap.size (.slice q2 t.length k2) t r2 | 4 => ∃ p, v = .pointer (some ⟨p, 0, none⟩) ∧ NewBox V w' p (#[.slice none 0 0]) 24 | 5 => ∃ q, v = .pointer (some ⟨q, 0, none⟩) ∧ NewBox V w' q (#[.slice none 0 0]) 24 | _ => True) (fun vs w' => Below V.heap.size V w' ∧ Apart2 [4, 5] vs w' ∧ ApT t V.heap.size [1, 3] vs w') (fun w1 w2 => Below w1.heap.size w1 w2) (by kernel_rfl) (by kernel_rfl) (by kernel_rfl) (by kernel_rfl) (by kernel_rfl) (by kernel_rfl) ?hR ?hG ?hops ?hend
  case hR =>
    intro j v w1 w2 hv hb
    match j, hv with
    | 0, hv => exact hv
    | 1, ⟨q1, k1, r1, e, h⟩ => exact ⟨q1, k1, r1, e, h.below hb⟩
    | 2, hv => exact hv
    | 3, ⟨q2, k2, r2, e, h⟩ => exact ⟨q2, k2, r2, e, h.below hb⟩
    | 4, ⟨p, e, h⟩ => exact ⟨p, e, h.below hb⟩
    | 5, ⟨q, e, h⟩ => exact ⟨q, e, h.below hb⟩
    | _ + 6, _ => exact trivial
  case hG => exact ⟨(Below.refl _ _).drew, ⟨Apart2.start (by intro i hi; simp only [List.mem_cons, List.not_mem_nil, or_false] at hi; rcases hi with rfl | rfl <;> rfl), ApT.start (by intro i hi; simp only [List.mem_cons, List.not_mem_nil, or_false] at hi; rcases hi with rfl | rfl <;> rfl)⟩⟩
  case hops =>
    refine OpsOkS.cons ?o0 (OpsOkS.cons ?o1 (OpsOkS.cons ?o2 (OpsOkS.cons ?o3 (OpsOkS.cons ?o4 (OpsOkS.cons ?o5 OpsOkS.nil)))))
    case o0 =>
      intro a w1 Kx hG need old hsz fresh hKx
      have e0 : a.tmps[2]?.getD undef = .pointer (some ⟨P, 0, none⟩) := by rw [← Array.getD_eq_getD_getElem?]; exact old 2 (by kernel_rfl)
      have j0 := HK.out w1 hG.1
      refine op_value (v := .agg #[.slice A t.length c]) (wanted_none rfl) ?_ (hKx _ w1 rfl ⟨hG.1, ⟨hG.2.1.keep (by decide) (Nat.le_refl _), hG.2.2.keep (by decide) (Below.refl _ _)⟩⟩ (Below.refl _ _))
      simp [execOp, go_sem, e0, j0]
    case o1 =>
      intro a w1 Kx hG need old hsz fresh hKx
      have e0 : a.tmps[14]?.getD undef = .agg #[.slice A t.length c] := by rw [← Array.getD_eq_getD_getElem?]; exact (need 0 (by kernel_rfl) (by kernel_rfl))
      refine op_call (wanted_none rfl) (f := 11) (args := #[.agg #[.slice A t.length c]]) ?run ((HC1.out w1 (HN.out w1 hG.1)).mono ?post)
      case run => simp [go_sem, e0]
      case post =>
        rintro e w2 ⟨q1, k1, r1, rfl, ho, hb2⟩
        exact ⟨_, rfl, hKx _ w2 ⟨q1, k1, r1, rfl, ho.base hG.1.size⟩ ⟨hG.1.trans (hb2.mono hG.1.size), ⟨hG.2.1.keep (by decide) hb2.size, hG.2.2.new hb2 hG.1.size ho⟩⟩ hb2⟩
    case o2 =>
      intro a w1 Kx hG need old hsz fresh hKx
      have e0 : a.tmps[2]?.getD undef = .pointer (some ⟨P, 0, none⟩) := by rw [← Array.getD_eq_getD_getElem?]; exact old 2 (by kernel_rfl)
      have j0 := HK.out w1 hG.1
      refine op_value (v := .agg #[.slice A t.length c]) (wanted_none rfl) ?_ (hKx _ w1 rfl ⟨hG.1, ⟨hG.2.1.keep (by decide) (Nat.le_refl _), hG.2.2.keep (by decide) (Below.refl _ _)⟩⟩ (Below.refl _ _))
      simp [execOp, go_sem, e0, j0]
    case o3 =>
      intro a w1 Kx hG need old hsz fresh hKx
      have e0 : a.tmps[16]?.getD undef = .agg #[.slice A t.length c] := by rw [← Array.getD_eq_getD_getElem?]; exact (need 2 (by kernel_rfl) (by kernel_rfl))
      refine op_call (wanted_none rfl) (f := 12) (args := #[.agg #[.slice A t.length c]]) ?run ((HC2.out w1 (HN.out w1 hG.1)).mono ?post)
      case run => simp [go_sem, e0]
      case post =>
        rintro e w2 ⟨q2, k2, r2, rfl, ho, hb2⟩
        exact ⟨_, rfl, hKx _ w2 ⟨q2, k2, r2, rfl, ho.base hG.1.size⟩ ⟨hG.1.trans (hb2.mono hG.1.size), ⟨hG.2.1.keep (by decide) hb2.size, hG.2.2.new hb2 hG.1.size ho⟩⟩ hb2⟩
    case o4 =>
      intro a w1 Kx hG need old hsz fresh hKx
      refine op_value (v := .pointer (some ⟨w1.heap.size, 0, none⟩)) (wanted_none rfl) ?_ (hKx _ (w1.alloc (.cells (#[.slice none 0 0]) 24)) ⟨w1.heap.size, rfl, ⟨hG.1.size, heap_alloc_new _ _⟩⟩ ⟨hG.1.alloc hG.1.size _, ⟨hG.2.1.alloc _, hG.2.2.keep (by decide) ((Below.refl _ _).alloc (Nat.le_refl _) _)⟩⟩ ((Below.refl _ _).alloc (Nat.le_refl _) _))
      simp [execOp, go_sem]
    case o5 =>
      intro a w1 Kx hG need old hsz fresh hKx
      refine op_value (v := .pointer (some ⟨w1.heap.size, 0, none⟩)) (wanted_none rfl) ?_ (hKx _ (w1.alloc (.cells (#[.slice none 0 0]) 24)) ⟨w1.heap.size, rfl, ⟨hG.1.size, heap_alloc_new _ _⟩⟩ ⟨hG.1.alloc hG.1.size _, ⟨hG.2.1.alloc _, hG.2.2.keep (by decide) ((Below.refl _ _).alloc (Nat.le_refl _) _)⟩⟩ ((Below.refl _ _).alloc (Nat.le_refl _) _))
      simp [execOp, go_sem]
  case hend =>
    intro a w6 hG hde hsz hφ hold
    obtain ⟨q1_1, k1_1, r1_1, hv_1, hp_1⟩ := hφ 1 (by decide)
    obtain ⟨q2_3, k2_3, r2_3, hv_3, hp_3⟩ := hφ 3 (by decide)
    obtain ⟨p_4, hv_4, hp_4⟩ := hφ 4 (by decide)
    obtain ⟨q_5, hv_5, hp_5⟩ := hφ 5 (by decide)
    have ap45 := hG.2.1.ne 4 (by decide) 5 (by decide) (by decide)
    rw [hv_4, hv_5] at ap45
    obtain ⟨lo, hi, Q, C, R, g1, g2⟩ := hG.2.2
    have g3 := g2 1 (by decide) 3 (by decide) (by decide) (by rw [hv_1]; intro e; cases e) (by rw [hv_3]; intro e; cases e)
    have g4 := g1 1 (by decide) (by rw [hv_1]; intro e; cases e)
    have g5 := g1 3 (by decide) (by rw [hv_3]; intro e; cases e)
    rw [hv_1] at g4
    rw [hv_3] at g5
    clear g1 g2
    obtain rfl := act_puts [(14, .agg #[.slice A t.length c]), (15, .agg #[.slice q1_1 t.length k1_1]), (16, .agg #[.slice A t.length c]), (17, .agg #[.slice q2_3 t.length k2_3]), (5, .pointer (some ⟨p_4, 0, none⟩)), (6, .pointer (some ⟨q_5, 0, none⟩))] [14, 15, 16, 17, 5, 6] rfl (by kernel_rfl) (by kernel_rfl) hde hsz (List.forall_mem_cons.2 ⟨(show a.tmps.getD 14 undef = .agg #[.slice A t.length c] from (hφ 0 (by decide))), (List.forall_mem_cons.2 ⟨(show a.tmps.getD 15 undef = .agg #[.slice q1_1 t.length k1_1] from hv_1), (List.forall_mem_cons.2 ⟨(show a.tmps.getD 16 undef = .agg #[.slice A t.length c] from (hφ 2 (by decide))), (List.forall_mem_cons.2 ⟨(show a.tmps.getD 17 undef = .agg #[.slice q2_3 t.length k2_3] from hv_3), (List.forall_mem_cons.2 ⟨(show a.tmps.getD 5 undef = .pointer (some ⟨p_4, 0, none⟩) from hv_4), (List.forall_mem_cons.2 ⟨(show a.tmps.getD 6 undef = .pointer (some ⟨q_5, 0, none⟩) from hv_5), (fun _ h => absurd h (by simp))⟩)⟩)⟩)⟩)⟩)⟩) hold
    clear hφ hold hsz hde hv_1 hv_3 hv_4 hv_5
    simp only [putAll]
    simp only [List.drop_succ_cons, List.drop_zero]
    obtain ⟨hG, -⟩ := hG
    go_frame
    obtain ⟨g4, g6, g7, g8⟩ := g4
    obtain ⟨g5, g9, g10, g11⟩ := g5
    simp at g4 g5
    rw [← g4.1, ← g4.2] at g6
    rw [← g5.1, ← g5.2] at g9
    generalize R 1 = ra at g6
    generalize R 3 = rb at g9
    generalize lo 1 = l1 at g3 g6 g7
    generalize hi 1 = h1 at g3 g6 g8
    generalize lo 3 = l3 at g3 g9 g10
    generalize hi 3 = h3 at g3 g9 g11
    clear g4 g5 hp_1 hp_3
    have hpq : p_4 ≠ q_5 := fun e => ap45 p_4 (vblks_ptr.2 rfl) (vblks_ptr.2 e)
    have hp7 : (w6.setCell ⟨p_4, 0, none⟩ (.slice q1_1 t.length k1_1)).heap[q_5]? = some (.cells #[.slice none 0 0] 24 (0, 0)) := (Below.heap_setCell _ _ _ _ (Ne.symm hpq)).trans hp_5.at_
    refine wpList_store_tree 5 15 p_4 rfl rfl rfl rfl rfl hp_4.at_ ?_
    refine wpList_store_tree 6 17 q_5 rfl rfl rfl rfl rfl hp7 ?_
    have G1 := Lib.hid ((g6.box (.slice q1_1 t.length k1_1) (k := 0) hp_4.at_).box (.slice q2_3 t.length k2_3) (k := 0) hp7)
    have G3 := Lib.hid ((g9.box (.slice q1_1 t.length k1_1) (k := 0) hp_4.at_).box (.slice q2_3 t.length k2_3) (k := 0) hp7)
    have BP := Lib.hid ((Below.heap_setCell (w6.setCell ⟨p_4, 0, none⟩ (.slice q1_1 t.length k1_1)) ⟨q_5, 0, none⟩ (.slice q2_3 t.length k2_3) _ hpq).trans (tbox_set hp_4.at_ (.slice q1_1 t.length k1_1)))
    have BQ := Lib.hid (tbox_set hp7 (.slice q2_3 t.length k2_3))
    have HB8 : Hid (Below V.heap.size V ((w6.setCell ⟨p_4, 0, none⟩ (.slice q1_1 t.length k1_1)).setCell ⟨q_5, 0, none⟩ (.slice q2_3 t.length k2_3))) := Lib.hid ((hG.setCell (show V.heap.size ≤ p_4 from hp_4.new) _).setCell (show V.heap.size ≤ q_5 from hp_5.new) _)
    have HL1 : Hid (V.heap.size ≤ l1 ∧ (h1 ≤ l3 ∨ h3 ≤ l1)) := Lib.hid ⟨g7, g3⟩
    generalize (w6.setCell ⟨p_4, 0, none⟩ (.slice q1_1 t.length k1_1)).setCell ⟨q_5, 0, none⟩ (.slice q2_3 t.length k2_3) = Y at G1 G3 BP BQ HB8 ⊢
    clear hG g6 g9 g3 g7 g8 g10 g11 ap45 hp_4 hp_5 hp7 hpq HC1 HC2 HCP HCR
    have q1 := (tbox_cell BP.out).1
    have q2 := HK.out _ HB8.out
    obtain ⟨g, hgq, hsh⟩ := G1.out.shq HLT.out.1 HLT.out.2
    have HGQ := Lib.hid hgq
    have HSH := Lib.hid hsh
    clear hgq hsh
    go_wp2_with (first
      | (go_at_call 13; (with_reducible refine (HST.out _ _ _ _ _ _ _ (G1.out.own.lies HLT.out.1 HLT.out.2) (HN.out _ HB8.out)).mono ?_); rintro e w9 ⟨rfl, hb9⟩; have HB9 := Lib.hid hb9; clear hb9; have q3 := (tbox_cell ((HB9.out.block p_4 (lt_size BP.out)).trans BP.out)).1)
      | fail)
    obtain ⟨X, rfl⟩ : ∃ X, X = w9 := ⟨_, rfl⟩
    have HBX := Lib.hid (HB8.out.trans (HB9.out.mono HB8.out.size))
    have BPX := Lib.hid ((HB9.out.block p_4 (lt_size BP.out)).trans BP.out)
    have BQX := Lib.hid ((HB9.out.block q_5 (lt_size BQ.out)).trans BQ.out)
    have GX : Hid (TRg X l3 h3 q2_3 k2_3 t rb) := Lib.hid ⟨G3.out.own.below HB9.out, G3.out.row, G3.out.sq, G3.out.en⟩
    have GX1 : Hid (TRg X l1 h1 q1_1 k1_1 t ra) := Lib.hid ⟨G1.out.own.below HB9.out, G1.out.row, G1.out.sq, G1.out.en⟩
    obtain ⟨g, hgq, hsh⟩ := GX1.out.shq HLT.out.1 HLT.out.2
    replace HGQ := Lib.hid hgq
    have HSP : Hid (Spoilt X X l1 h1 g t ra) := Lib.hid ⟨hsh, Below.refl _ _, fun _ _ => rfl⟩
    have HF : Hid (∀ w1, Spoilt X w1 l1 h1 g t ra → w1.cell? ⟨p_4, 0, none⟩ = some (.slice q1_1 t.length k1_1) ∧ w1.cell? ⟨q_5, 0, none⟩ = some (.slice q2_3 t.length k2_3) ∧ Below V.heap.size V w1 ∧ TLies w1 q2_3 k2_3 t rb) := Lib.hid fun w1 h => ⟨(tbox_cell ((h.ne p_4 (.inr (.inr ⟨_, BPX.out⟩))).trans BPX.out)).1, (tbox_cell ((h.ne q_5 (.inr (.inr ⟨_, BQX.out⟩))).trans BQX.out)).1, HBX.out.trans (h.be.mono HL1.out.1), ((GX.out.keep fun b b1 b2 => h.ne b (by have := HL1.out.2; omega)).own).lies HLT.out.1 HLT.out.2⟩
    clear hgq hsh HSH G1 G3 BP BQ HB8 HB9 BPX BQX GX GX1 HBX q1 q2 q3
    go_loopw [7, 8, 9, 25] (fun _ _ _ v25 wr => ∃ jx : Nat, jx ≤ t.length ∧ v25 = .int .i64 jx ∧ Hid (Spoilt X wr l1 h1 g t ra)) (fun _ _ _ v25 _ => t.length - (RowKit.intOf v25).toNat)
    case atStart => exact ⟨0, Nat.zero_le _, rfl, HSP⟩
    case round =>
      obtain ⟨jx, hj, rfl, HC⟩ := hrel
      obtain ⟨s1, s2, -, -⟩ := HF.out _ HC.out
      have ht40 : t.length ≤ 40 := HLT.out.1
      by_cases hj1 : jx < t.length
      · have d2 : decide ((jx : Int) < (t.length : Int)) = true := decide_eq_true (by omega)
        have hn6 := HLT.out.2 _ (at_mem hj1)
        have HF2 : Hid (∀ w1, Spoilt X w1 l1 h1 g t ra → w1.cell? ⟨p_4, 0, none⟩ = some (.slice (some ⟨g, 0, none⟩) t.length k1_1) ∧ w1.cell? ⟨g, jx * 5 + 3, none⟩ = some (.slice (ra jx).A (at_ t jx).sq.length (ra jx).c) ∧ w1.cell? ⟨g, jx * 5 + 4, none⟩ = some (.slice (ra jx).B (at_ t jx).en.length (ra jx).d) ∧ Blk w1 l1 h1 3 (ra jx).A (at_ t jx).sq.length ∧ Blk w1 l1 h1 34 (ra jx).B ((at_ t jx).en.length * 2)) := Lib.hid fun w1 h => ⟨by rw [(HF.out _ h).1, HGQ.out (by omega)], h.sh.cs jx hj1, h.sh.ce jx hj1, h.sh.sq jx hj1, h.sh.en jx hj1⟩
        obtain ⟨⟨RA, RB, rc, rd⟩, hr⟩ : ∃ a, a = ra jx := ⟨_, rfl⟩
        rw [← hr] at HF2
        generalize (at_ t jx).sq.length = S at HF2 hn6
        generalize (at_ t jx).en.length = L at HF2 hn6
        dsimp only at HF2
        have HJ0 : Hid (0 < t.length) := Lib.hid (by omega)
        obtain ⟨hS6, hL6⟩ := hn6
        obtain ⟨e1, e2, e3, -, -⟩ := HF2.out _ HC.out
        clear s1 s2 hr
        go_wp2_with fail
        go_loopw [8, 35] (fun _ v35 wr => ∃ jy : Nat, jy ≤ S ∧ v35 = .int .i64 jy ∧ Hid (Spoilt X wr l1 h1 g t ra)) (fun _ v35 _ => S - (RowKit.intOf v35).toNat)
        case atStart => exact ⟨0, Nat.zero_le _, rfl, HC⟩
        case round =>
          clear e1 e2 e3
          obtain ⟨jy, hjy, rfl, HD⟩ := hrel
          obtain ⟨e1, e2, e3, e4, e5⟩ := HF2.out _ HD.out
          by_cases hj2 : jy < S
          · have d3 : decide ((jy : Int) < (S : Int)) = true := decide_eq_true (by omega)
            obtain ⟨b, cur, v, e6, hb1, hb2, hb3, k0, f0⟩ := e4.at hj2
            rw [e6] at e2
            have HNX := Lib.hid (fun v => HD.out.row (k := jy) v trtypes.1 ndtypes.1 HJ0.out hb3 hb1 hb2)
            clear e5 e6 hb1 hb2 hb3 e4
            go_wp2_with fail
            go_roundw
            case rel => exact ⟨jy + 1, by omega, by go_num, Lib.hid (HNX.out _)⟩
            case measure => simp [RowKit.intOf]; omega
          · have d3 : decide ((jy : Int) < (S : Int)) = false := decide_eq_false (by omega)
            clear e4 e5
            obtain ⟨wx, rfl⟩ : ∃ wx, wx = wr := ⟨_, rfl⟩
            go_wp2_with fail
            go_loopw [9, 55] (fun _ v55 wr => ∃ jz : Nat, jz ≤ L ∧ v55 = .int .i64 jz ∧ Hid (Spoilt X wr l1 h1 g t ra)) (fun _ v55 _ => L - (RowKit.intOf v55).toNat)
            case atStart => exact ⟨0, Nat.zero_le _, rfl, HD⟩
            case round =>
              clear e1 e2 e3
              obtain ⟨jz, hjz, rfl, HE⟩ := hrel
              obtain ⟨e1, e2, e3, e4, e5⟩ := HF2.out _ HE.out
              by_cases hj3 : jz < L
              · have d4 : decide ((jz : Int) < (L : Int)) = true := decide_eq_true (by omega)
                obtain ⟨b, cur, v, e6, hb1, hb2, hb3, k0, f0⟩ := e5.at (k := jz * 2 + 1) (by omega)
                rw [e6] at e3
                have HNX := Lib.hid (fun v => HE.out.row (k := jz * 2 + 1) v trtypes.2.1 ndtypes.2 HJ0.out hb3 hb1 hb2)
                clear e5 e6 hb1 hb2 hb3 e4
                go_wp2_with fail
                go_roundw
                case rel => exact ⟨jz + 1, by omega, by go_num, Lib.hid (HNX.out _)⟩
                case measure => simp [RowKit.intOf]; omega
              · have d4 : decide ((jz : Int) < (L : Int)) = false := decide_eq_false (by omega)
                clear e4 e5
                obtain ⟨b, cur, v, e6, hb1, hb2, hb3, k0, f0⟩ := HE.out.sh.row.at (k := jx * 5 + 2) (by omega)
                simp at e6
                subst e6
                have HNX := Lib.hid (fun v => HE.out.set (k := jx * 5 + 2) v trtypes.2.2 hb3 hb1 hb2 (.inr ⟨jx, rfl⟩))
                clear hb1 hb2 hb3
                go_wp2_with fail
                go_roundw
                case rel => exact ⟨jx + 1, by omega, by go_num, Lib.hid (HNX.out _)⟩
                case measure => simp [RowKit.intOf]; omega
      · have d2 : decide ((jx : Int) < (t.length : Int)) = false := decide_eq_false (by omega)
        obtain ⟨wx, rfl⟩ : ∃ wx, wx = wr := ⟨_, rfl⟩
        have q4 := HK.out _ (HF.out _ HC.out).2.2.1
        go_wp2_with (first
          | (go_at_call 13; (with_reducible refine (HST.out _ _ _ _ _ _ _ (HN.out _ (HF.out _ HC.out).2.2.1) (HF.out _ HC.out).2.2.2).mono ?_); rintro e w10 ⟨rfl, hb10⟩; have HB10 := Lib.hid ((HF.out _ HC.out).2.2.1.trans (hb10.mono (HF.out _ HC.out).2.2.1.size)); clear hb10)
          | (go_at_call 10; (with_reducible refine (HAW.out _).mono ?_); rintro e w11 ⟨rfl, hb11⟩; have HB11 := Lib.hid (HB10.out.trans (hb11.mono HB10.out.size)); clear hb11)
          | fail)
        go_ret
        exact ⟨rfl, HBA.out.trans (HB11.out.mono HBA.out.size)⟩
end Go.Proofs.YtfboilbmehcgoaaDoor
