/- The landed chip: Blocks: its walk. -/
import Derived.Test.YteghegojhhoppaaLBlocks
namespace Go.Proofs.Yteghegojhhoppaa
open Go.RowKit Go.Shelf

attribute [local go_sem] Oper.semAt_some

section
variable {p q cap : Nat} {g : Nat → Nat} {C : Nat → Prop} {S : LS} {w : World}
set_option maxRecDepth 100000 in
set_option maxHeartbeats 4000000 in
theorem blocks_any (h : LAt w p q cap g C S) (hb1 : 1 ≤ S.bl.length) : Calls Try.prog 15 #[.pointer (some ⟨p, 0, none⟩)] w (BlocksPost S.bl w) := by
  obtain ⟨i0, hi0, hz0, hs0, hby0⟩ := info_parts info_block
  have hown := h.lt
  have hbl := h.small.1
  obtain ⟨W0, hW0, bP, bL, hB0⟩ := two_boxes w (.pointer (some ⟨p, 0, none⟩)) (.slice none 0 0) 36 22
  have hz : W0.heap.size = w.heap.size + 2 := by rw [← hW0]; simp
  have h0 := h.below hB0
  obtain ⟨c0, _, _, _, _, _, _, _, _, _, _, _, _⟩ := cells13 h0.self
  have cP := bP.cell
  have hL0 := Lib.hid (show LsG w W0 p q cap g C S (.slice none 0 0) from ⟨h0, bP, bL, hB0⟩)
  have HZ := Lib.hid hz
  clear hz bP bL hB0 h0
  refine callsIn_wide.1 (callsIn_of_wp_marks (n := 3) Try.func15 rfl trivial ?_ rfl)
  simp only [Try.ntmps15, List.size_toArray, List.length_cons, List.length_nil, Nat.reduceAdd, Nat.reduceSub, Array.replicate_succ, Array.replicate_zero, List.push_toArray, List.append_toArray, List.nil_append, List.cons_append]
  gi_wp2_with (refine ⟨trivial, ?_⟩; (try refine ⟨wide_depth _, ?_⟩); gi_at_call 18; refine (callsIn_wide.2 (turn_any _ _ _)).mono ?_; rintro e w1 ⟨rfl, rfl⟩)
  refine wpIn_world ?_
  intro W2 hW2
  have b1 := Boxed.new W0 3 (.int .i64 (S.bl.length : Int))
  have b2 := Boxed.new (W0.alloc (.cells #[.int .i64 (S.bl.length : Int)] 3)) 3 (.int .i64 0)
  rw [World.size_alloc] at b2
  obtain ⟨bN, bF, hM⟩ : Boxed W2 W0.heap.size 3 (.int .i64 (S.bl.length : Int)) ∧ Boxed W2 (W0.heap.size + 1) 3 (.int .i64 0) ∧ LsG w W2 p q cap g C S (.slice none 0 0) := by
    rw [hW2]
    exact ⟨b1.alloc _, b2, hL0.out.more (((Below.refl _ W0).alloc (Nat.le_refl _) _).alloc (by simp) _)⟩
  have H2 := Lib.hid hM
  have HS := Lib.hid (show w.heap.size + 2 ≤ W2.heap.size by rw [hW2, ← HZ.out]; simp; omega)
  clear hW2 hM cP c0 hL0 b1 b2
  apply wpIn_rangeFunc_ownG rfl (n := 3) (by omega) (gf := 26) (lb := #[.pointer (some ⟨W0.heap.size, 0, none⟩), .pointer (some ⟨W0.heap.size + 1, 0, none⟩)]) rfl trivial enters_turn
    (turn_fin_stops (N := S.bl.length) (fun _ _ => True) (3 - 1) _ _ (by omega) hb1 W2 bN bF) (fun _ _ => trivial) (fun _ _ _ _ _ _ _ _ => trivial) (Below.refl _ _) (fun _ => rfl)
    (fun pre W => ∃ V, LsG w W p q cap g C S V ∧ RowB W (w.heap.size + 2) V (pre.map fun x => S.bl[x.val]))
    (fun _ _ _ => False)
    ?own ?ownx ?start
  case own =>
    rintro s X Y row ⟨V, hs, hr⟩ hg hrow
    exact ⟨V, hs.grown hg fun r e => ⟨by have := (hrow r e).1; have := HS.out; omega, (hrow r e).2⟩, hr.grown hg fun r e => (hrow r e).2⟩
  case ownx => exact fun _ _ _ _ _ h _ _ => h
  case start => exact ⟨_, H2.out, RowB.nil _ _⟩
  case hassign =>
    intro l x W K hK
    gi_wp2
    exact hK
  case hbody =>
    rintro l pre x W ⟨V, hM, hR⟩ hlt
    obtain ⟨⟨Av, cv, hV⟩, hVlt⟩ := hR.slice
    have hW := hM.below.size
    have HW2 := lt_size hM.boxL
    obtain ⟨b, hb⟩ : ∃ b, tellB S x.val = b := ⟨_, rfl⟩
    have hbx : S.bl[x.val] = b := by rw [← hb]; exact (by have hi : isL S x.val = true := by simp [isL]
                                                          simp only [tellB, hi, if_true, blkL_at x.isLt])
    have hlb : (pre.map fun x => S.bl[x.val]).length ≤ 64 := by simp; omega
    generalize hl : (pre.map fun x => S.bl[x.val]) = lb at *
    have HM := Lib.hid hM
    have HR := Lib.hid hR
    have HVlt := Lib.hid hVlt
    clear hM hR hVlt
    gi_wp2
    subst hV
    refine region_inv_in2 (fun j v w' => match j with
        | 0 => v = .slice Av lb.length cv
        | 1 => v = .pointer (some ⟨p, 0, none⟩)
        | 2 => v = .int .i64 (x.val : Int)
        | 3 => ∃ pv, v = bkV b pv ∧ PagesV w' (fun k => W.heap.size ≤ k) pv b.pages
        | 4 => ∃ pv Q, v = .slice (some ⟨Q, 0, none⟩) 1 1 ∧ W.heap.size ≤ Q ∧ PagesV w' (fun k => W.heap.size ≤ k) pv b.pages ∧ w'.heap[Q]? = some (.cells #[.bool b.bad, .int .i64 b.next, .int .i64 b.count, pv] 27 (0, 0))
        | 5 => RowB w' (w.heap.size + 2) v (lb ++ [b])
        | _ => True)
      (fun d w' => ClosedB d ∧ KeepsFrom W2.heap.size W w' ∧ W.heap.size ≤ w'.heap.size ∧ (d 6 = false → LsG w w' p q cap g C S (.slice Av lb.length cv)) ∧ (d 5 = false → RowB w' (w.heap.size + 2) (.slice Av lb.length cv) lb) ∧ (d 6 = true → ∃ V', LsG w w' p q cap g C S V' ∧ RowB w' (w.heap.size + 2) V' (lb ++ [b])))
      (by kernel_rfl) (by kernel_rfl) (by kernel_rfl) (by kernel_rfl) ?hG ?hops ?hend
    case hG => exact ⟨fun _ _ h => Bool.noConfusion h, keepsFrom_below (Below.refl _ _).drew, Nat.le_refl _, fun _ => HM.out.more (Below.refl _ _).drew, fun _ => HR.out.below (Below.refl _ _).drew, fun h => Bool.noConfusion h⟩
    case hops =>
      refine OpsOk2.cons ?o0 (OpsOk2.cons ?o1 (OpsOk2.cons ?o2 (OpsOk2.cons ?o3 (OpsOk2.cons ?o4 (OpsOk2.cons ?o5 (OpsOk2.cons ?o6 OpsOk2.nil))))))
      case o0 =>
        intro a w1 d Kx hd hG need old hsz hK
        obtain ⟨hc, hkf, hs, g1, g2, g3⟩ := hG
        have h6 := hc.no6 (by rw [hd]; simp)
        have cL := (g1 h6).boxL.cell
        have e0 : a.tmps[3]?.getD undef = .pointer (some ⟨w.heap.size + 1, 0, none⟩) := by
          rw [← Array.getD_eq_getD_getElem?]
          exact old 3 (by kernel_rfl)
        refine op_value (v := .slice Av lb.length cv) (wanted_none rfl) ?_ (hK _ w1 rfl ⟨hc.also (by simp [waitsB]), hkf, hs, g1, g2, g3⟩ fun _ _ _ _ h => h)
        simp [execOp, go_sem, e0, cL]
      case o1 =>
        intro a w1 d Kx hd hG need old hsz hK
        obtain ⟨hc, hkf, hs, g1, g2, g3⟩ := hG
        have h6 := hc.no6 (by rw [hd]; simp)
        have cL := (g1 h6).boxP.cell
        have e0 : a.tmps[1]?.getD undef = .pointer (some ⟨w.heap.size, 0, none⟩) := by
          rw [← Array.getD_eq_getD_getElem?]
          exact old 1 (by kernel_rfl)
        refine op_value (v := .pointer (some ⟨p, 0, none⟩)) (wanted_none rfl) ?_ (hK _ w1 rfl ⟨hc.also (by simp [waitsB]), hkf, hs, g1, g2, g3⟩ fun _ _ _ _ h => h)
        simp [execOp, go_sem, e0, cL]
      case o2 =>
        intro a w1 d Kx hd hG need old hsz hK
        obtain ⟨hc, hkf, hs, g1, g2, g3⟩ := hG
        have e0 : a.tmps[4]?.getD undef = .int .i64 (x.val : Int) := by
          rw [← Array.getD_eq_getD_getElem?]
          exact old 4 (by kernel_rfl)
        refine op_value (v := .int .i64 (x.val : Int)) (wanted_none rfl) ?_ (hK _ w1 rfl ⟨hc.also (by simp [waitsB]), hkf, hs, g1, g2, g3⟩ fun _ _ _ _ h => h)
        simp [execOp, go_sem, e0]
      case o3 =>
        intro a w1 d Kx hd hG need old hsz hK
        obtain ⟨hc, hkf, hs, g1, g2, g3⟩ := hG
        have h6 := hc.no6 (by rw [hd]; simp)
        have n1 := need 1 (by kernel_rfl) (by kernel_rfl)
        have n2 := need 2 (by kernel_rfl) (by kernel_rfl)
        have e0 : a.tmps[15]?.getD undef = .pointer (some ⟨p, 0, none⟩) := by
          rw [← Array.getD_eq_getD_getElem?]
          exact n1.2
        have e1 : a.tmps[16]?.getD undef = .int .i64 (x.val : Int) := by
          rw [← Array.getD_eq_getD_getElem?]
          exact n2.2
        refine op_call (wanted_none rfl) (f := 25) (args := #[.pointer (some ⟨p, 0, none⟩), .int .i64 (x.val : Int)]) ?run ((block_any (x.val : Int) (g1 h6).chip).mono ?post)
        case run => simp [go_sem, e0, e1]
        case post =>
          rintro e w2 ⟨pv, rfl, hpv, hbw⟩
          rw [hb] at hpv ⊢
          refine ⟨_, rfl, hK _ w2 ⟨pv, rfl, hpv.move (fun _ _ _ _ _ => rfl) fun k hk _ => Nat.le_trans hs hk⟩ ⟨hc.also fun y hy e => ?_, hkf.trans (keepsFrom_below hbw), Nat.le_trans hs hbw.size, fun _ => (g1 h6).more hbw, fun h5 => (g2 h5).below hbw, fun h => absurd (h6.symm.trans h) (by decide)⟩ ?_⟩
          · simp [waitsB] at hy
            rcases hy with rfl | rfl | rfl | rfl | rfl | rfl <;> first | exact n1.1 | exact n2.1 | (exact absurd e (by decide))
          · intro j u hj hdj hu
            match j, hu with
            | 0, hu => exact hu
            | 1, hu => exact hu
            | 2, hu => exact hu
            | 3, _ => exact absurd rfl hj
            | 4, ⟨pv, Q, e, h1, h2, h3⟩ => exact ⟨pv, Q, e, h1, h2.move (fun k _ _ ho _ => hbw.block k (lt_size ho)) fun _ hk _ => hk, (hbw.block _ (lt_size h3)).trans h3⟩
            | 5, hu => exact RowB.below hu hbw
            | _ + 6, _ => trivial
      case o4 =>
        intro a w1 d Kx hd hG need old hsz hK
        obtain ⟨hc, hkf, hs, g1, g2, g3⟩ := hG
        have h6 := hc.no6 (by rw [hd]; simp)
        obtain ⟨d3, pv, e0', hpv⟩ := need 3 (by kernel_rfl) (by kernel_rfl)
        have e0 : a.tmps[17]?.getD undef = bkV b pv := by
          rw [← Array.getD_eq_getD_getElem?]
          exact e0'
        have hbw : Below w1.heap.size w1 (w1.alloc (.cells #[.bool b.bad, .int .i64 b.next, .int .i64 b.count, pv] 27)) := (Below.refl _ _).alloc (Nat.le_refl _) _
        refine op_value (v := .slice (some ⟨w1.heap.size, 0, none⟩) 1 1) (w' := w1.alloc (.cells #[.bool b.bad, .int .i64 b.next, .int .i64 b.count, pv] 27)) (wanted_none rfl) ?_
          (hK _ _ ⟨pv, w1.heap.size, rfl, hs, hpv.move (fun k _ _ ho _ => hbw.block k (lt_size ho)) fun _ hk _ => hk, heap_alloc_new _ _⟩ ⟨hc.also fun y hy e => ?_, hkf.trans (keepsFrom_below hbw), Nat.le_trans hs hbw.size, fun _ => (g1 h6).more hbw, fun h5 => (g2 h5).below hbw, fun h => absurd (h6.symm.trans h) (by decide)⟩ ?_)
        · obtain ⟨A9, c9, rfl, _⟩ := hpv
          simp [execOp, go_sem, e0, bkV]
        · simp [waitsB] at hy
          rcases hy with rfl | rfl | rfl | rfl | rfl | rfl <;> first | exact d3 | (exact absurd e (by decide))
        · intro j u hj hdj hu
          match j, hu with
          | 0, hu => exact hu
          | 1, hu => exact hu
          | 2, hu => exact hu
          | 3, ⟨pv, e, h2⟩ => exact ⟨pv, e, h2.move (fun k _ _ ho _ => hbw.block k (lt_size ho)) fun _ hk _ => hk⟩
          | 4, _ => exact absurd rfl hj
          | 5, hu => exact RowB.below hu hbw
          | _ + 6, _ => trivial
      case o5 =>
        intro a w1 d Kx hd hG need old hsz hK
        obtain ⟨hc, hkf, hs, g1, g2, g3⟩ := hG
        have h6 := hc.no6 (by rw [hd]; simp)
        obtain ⟨d0, e0'⟩ := need 0 (by kernel_rfl) (by kernel_rfl)
        obtain ⟨d4, pv, Q, e1', hQ, hpv, hq⟩ := need 4 (by kernel_rfl) (by kernel_rfl)
        obtain ⟨L, hL, hrow, hpg⟩ := g2 hd
        have e0 : a.tmps[14]?.getD undef = .slice Av lb.length cv := by
          rw [← Array.getD_eq_getD_getElem?]
          exact e0'
        have e1 : a.tmps[18]?.getD undef = .slice (some ⟨Q, 0, none⟩) 1 1 := by
          rw [← Array.getD_eq_getD_getElem?]
          exact e1'
        have hLl : L.length = lb.length := by rw [← hL]; simp
        have hnews : ∀ (k : Nat) (u : Value), ([.bool b.bad, .int .i64 b.next, .int .i64 b.count, pv] : List Value)[k]? = some u → w1.cell? ((⟨Q, 0, none⟩ : Addr).add k) = some u := fun k u hu => by
          have e : (⟨Q, 0, none⟩ : Addr).add k = ⟨Q, k, none⟩ := by
            unfold Addr.add; split
            · next e => rw [e]
            · simp
          rw [e]
          simp only [World.cell?, hq]
          simpa using hu
        have h1c : ∀ u ∈ ([.bool b.bad, .int .i64 b.next, .int .i64 b.count, pv] : List Value), u.oneCell' = true := by
          obtain ⟨A9, c9, rfl, _⟩ := hpv
          simp [Value.oneCell']
        refine step_append_at rfl (.tmp 14) (.tmp 18) 22 rfl (w.heap.size + 2) 27 i0 _ 4 48 Try.underlying22 hi0 hz0 hs0 hby0 rfl (by decide) (.slice Av lb.length cv) lb.length (cellsB L) (by simp [go_sem, e0]) hrow ⟨Q, 0, none⟩ 1 1 _ (by simp [go_sem, e1]) rfl hnews h1c (by unfold maxLen; omega) (by omega) (by omega) ?_
        intro q2 cap2 w2 hown2 hg2 hob2
        rw [← hLl] at hown2
        have hnew : RowB w2 (w.heap.size + 2) (.slice q2 (L.length + 1) cap2) (L.map Prod.fst ++ [b]) := RowB.add (W := W) hpg HVlt.out (by omega) hpv hown2 hg2 (by rw [hLl]; exact hob2)
        rw [hL, hLl] at hnew
        have hlow : ∀ k, W.heap.size ≤ k → some k ≠ (Value.slice Av lb.length cv).ownBlock := fun k hk e => by have := (HVlt.out k e.symm).2; omega
        refine hK _ w2 hnew ⟨hc.also fun y hy e => ?_, hkf.trans ((KeepsOthers.of_grownBy hg2 fun j o ej hj => ?_).from _), Nat.le_trans hs hg2.size, fun _ => (g1 h6).appended hg2 (fun r e => (HVlt.out r e).1) hown, fun h5 => absurd h5 (by unfold also; simp), fun h => absurd (h6.symm.trans h) (by decide)⟩ ?_
        · simp [waitsB] at hy
          rcases hy with rfl | rfl | rfl | rfl | rfl | rfl <;> first | exact d0 | exact d4 | (exact absurd e (by decide))
        · rcases hrow.2 with ⟨e, _⟩ | ⟨g', cap', cur, e, _, hgb, _⟩
          · rw [e] at ej; simp [Value.ownBlock] at ej
          · rw [e] at ej
            obtain rfl : g' = j := by simpa [Value.ownBlock] using ej
            rw [hgb] at hj; cases hj; rfl
        · intro j u hj hdj hu
          match j, hu with
          | 0, hu => exact hu
          | 1, hu => exact hu
          | 2, hu => exact hu
          | 3, ⟨pv, e, h2⟩ => exact ⟨pv, e, h2.move (fun k _ hk ho _ => hg2.block k (lt_size ho) (hlow k hk)) fun _ hk _ => hk⟩
          | 4, ⟨pv, Q, e, h1, h2, h3⟩ => exact ⟨pv, Q, e, h1, h2.move (fun k _ hk ho _ => hg2.block k (lt_size ho) (hlow k hk)) fun _ hk _ => hk, (hg2.block _ (lt_size h3) (hlow _ h1)).trans h3⟩
          | 5, _ => exact absurd rfl hj
          | _ + 6, _ => trivial
      case o6 =>
        intro a w1 d Kx hd hG need old hsz hK
        obtain ⟨hc, hkf, hs, g1, g2, g3⟩ := hG
        obtain ⟨d5, hr5⟩ := need 5 (by kernel_rfl) (by kernel_rfl)
        have hG1 := g1 hd
        obtain ⟨⟨A2, c2, hv2⟩, hlt2⟩ := hr5.slice
        have e0 : a.tmps[3]?.getD undef = .pointer (some ⟨w.heap.size + 1, 0, none⟩) := by
          rw [← Array.getD_eq_getD_getElem?]
          exact old 3 (by kernel_rfl)
        have e1 : a.tmps[19]?.getD undef = .slice A2 (lb ++ [b]).length c2 := by
          rw [← Array.getD_eq_getD_getElem?]
          exact hv2
        rw [hv2] at hr5
        have cL := hG1.boxL.cell
        have fL := hG1.boxL.frozen
        have hst := hr5.move (W' := w1.setCell ⟨w.heap.size + 1, 0, none⟩ (.slice A2 (lb ++ [b]).length c2)) fun k _ hk _ _ => Below.heap_setCell w1 ⟨w.heap.size + 1, 0, none⟩ _ k (fun e => by have e' : k = w.heap.size + 1 := e; omega)
        refine op_skip (wanted_none rfl) (w' := w1.setCell ⟨w.heap.size + 1, 0, none⟩ (.slice A2 (lb ++ [b]).length c2)) ?_ (hK _ _ trivial ⟨hc.also fun y hy e => ?_, hkf.trans ((KeepsOthers.setCell _ _ _).from _), by simpa using hs, fun h => absurd h (by unfold also; simp), fun h => absurd (d5.symm.trans h) (by decide), fun _ => ⟨_, hG1.stored _ hown, hst⟩⟩ ?_)
        · simp [execOp, go_sem, e0, e1, cL, fL]
        · simp [waitsB] at hy
          rcases hy with rfl | rfl | rfl | rfl | rfl | rfl <;> first | exact d5 | (exact absurd e (by decide))
        · have far : ∀ k, W.heap.size ≤ k → (w1.setCell ⟨w.heap.size + 1, 0, none⟩ (.slice A2 (lb ++ [b]).length c2)).heap[k]? = w1.heap[k]? := fun k hk => Below.heap_setCell w1 ⟨w.heap.size + 1, 0, none⟩ _ k (fun e => by have e' : k = w.heap.size + 1 := e; omega)
          intro j u hj hdj hu
          match j, hu with
          | 0, hu => exact hu
          | 1, hu => exact hu
          | 2, hu => exact hu
          | 3, ⟨pv, e, h2⟩ => exact ⟨pv, e, h2.move (fun k _ hk _ _ => far k hk) fun _ hk _ => hk⟩
          | 4, ⟨pv, Q, e, h1, h2, h3⟩ => exact ⟨pv, Q, e, h1, h2.move (fun k _ hk _ _ => far k hk) fun _ hk _ => hk, (far _ h1).trans h3⟩
          | 5, hu => exact hu.move fun k _ hk _ _ => Below.heap_setCell w1 ⟨w.heap.size + 1, 0, none⟩ _ k (fun e => by have e' : k = w.heap.size + 1 := e; omega)
          | _ + 6, _ => trivial
    case hend =>
      intro a w' d hG hφ _ _ _
      obtain ⟨hc, hkf, hs, g1, g2, g3⟩ := hG
      obtain ⟨V', h1, h2⟩ := g3 (hφ 6 (by kernel_rfl)).1
      refine ⟨hkf, trivial, V', h1, ?_⟩
      rw [List.map_append, hl, List.map_singleton, hbx]
      exact h2
  case hdone =>
    rintro D ys W hD rfl ⟨V, hM, hR⟩ hK
    rw [map_finRange] at hR
    have cL := hM.boxL.cell
    obtain ⟨⟨Av, cv, rfl⟩, _⟩ := hR.slice
    gi_wp2
    refine ⟨by simp, .inl ⟨_, _, rfl, run_takeDeferred hK, ?_⟩⟩
    have hg := grownBy_putObj' W D (.deferred none)
    have hrow : ∀ r, some D = some r → w.heap.size ≤ r ∧ ∃ o : Obj, W.heap[r]? = some o ∧ o.isCells = false := fun r e => by cases e; exact ⟨by have := HS.out; omega, _, hK, rfl⟩
    refine ⟨_, results_tmp rfl _ _ _, _, rfl, ?_, (hM.grown hg hrow).below⟩
    obtain ⟨L, h1, h2, h3⟩ := hR.grown hg fun r e => (hrow r e).2
    exact ⟨L, h1, ⟨h2.1, h2.2.imp id fun ⟨g, cap, cur, hv, hb, r⟩ => ⟨g, cap, cur, hv, by omega, r⟩⟩, fun x hx => (h3 x hx).move (fun _ _ _ _ _ => rfl) fun k hk _ => ⟨by have := hk.1; omega, hk.2⟩⟩
  case hstop =>
    rintro D c pre W hD hpre h hK
    exact h.elim
end
end Go.Proofs.Yteghegojhhoppaa
