/- look of package wear: its walk. -/
import Derived.Test.YtjgpjmlnmjgdmaaWearLook
namespace Go.Proofs.Ytjgpjmlnmjgdmaa
open Go.RowKit Go.Shelf

attribute [local go_sem] Oper.semAt_some

/-- There is room up to the length; nil has none. -/
def Roomy (A : Option Addr) (c n : Nat) : Prop := n ≤ c ∧ (A = none → c = 0)
theorem bools_in {w : World} {A : Option Addr} {b : List Bool} {c m : Nat} (h : BA w A b) (hr : Roomy A c b.length) (hm : m ≤ b.length) : BoolsIn w (.slice A m c) (b.take m) := by
  obtain ⟨h1, h2⟩ := hr
  cases A with
  | none =>
    have hc := h2 rfl
    subst hc
    have hm0 : m = 0 := by omega
    subst hm0
    exact .inl ⟨rfl, rfl⟩
  | some ad =>
    refine .inr ⟨ad, c, by simp; omega, fun j hj => ?_⟩
    have hj' : j < b.length := by simp at hj; omega
    obtain ⟨B, o, e, _, hc⟩ := h (by omega)
    cases e
    have ea : (⟨B, o, none⟩ : Addr).add j = ⟨B, o + j, none⟩ := by
      unfold Addr.add
      split
      · next e => subst e; rfl
      · rfl
    rw [ea, hc j hj']
    simp at hj ⊢
    rw [List.getElem?_take, if_pos (by omega), List.getElem?_eq_getElem hj']; rfl
theorem ownsRow_mono {W : World} {b b' : Nat} {e : TypeId} {size : Nat} {v : Value} {k : Nat} {xs : List Value} (h : W.ownsRow b e size v k xs) (hb : b' ≤ b) : W.ownsRow b' e size v k xs := by
  obtain ⟨h1, h2⟩ := h
  refine ⟨h1, ?_⟩
  rcases h2 with h2 | ⟨g, cap, cur, hv, hg, r⟩
  · exact Or.inl h2
  · exact Or.inr ⟨g, cap, cur, hv, Nat.le_trans hb hg, r⟩
theorem keepsFrom_below {B : Nat} {W W' : World} (h : Below W.heap.size W W') : KeepsFrom B W W' := ⟨h.size, fun k _ _ hk _ => (h.block k (Array.getElem?_eq_some_iff.1 hk).1).trans hk⟩
theorem op_skip {P : Program} {ops : Array Oper} {Q : Exit → Act → World → Prop} {o : Oper} {a : Act} {w w' : World} {K : Act → World → Prop} {E : Prop} (hw : Region.wanted o (yielded ops a.tmps) = true) (hr : (execOp a.eval o).run P w = .ok .skip w') (h : K (a.put o.dst undef) w') :
    if Region.wanted o (yielded ops a.tmps) = true then o.wp P a w K Q else E := by
  rw [if_pos hw]
  unfold Oper.wp
  rw [hr]
  exact h
/-- append of elements that stand, onto a slice of the call's own, as one step of a region that draws. -/
theorem step_append_at {P : Program} {w : World} {ops : Array Oper} {o : Oper} {a : Act} {K : Act → World → Prop} {Q : Exit → Act → World → Prop} {E : Prop} (hgd : o.guard = none) (s x : Operand) (t : TypeId)
    (ho : o.op = .call { callee := .builtin .append, args := #[s, x], argTypes := #[t, t] })
    (base : Nat) (e : TypeId) (i : TypeInfo) (z : Value) (size bytes : Nat) (ht : P.underlying t = some (.slice e)) (hi : P.info? e = some i) (hz : i.zero = some z)
    (hsize : i.size = size) (hby : i.bytes = bytes) (hzs : z.cells.size = size) (hsz : 0 < size)
    (v : Value) (n : Nat) (xs : List Value) (hs : a.eval s = v) (hown : w.ownsRow base e size v n xs)
    (ad : Addr) (m c : Nat) (news : List Value) (hx : a.eval x = .slice (some ad) m c) (hl : news.length = m * size) (hnews : ∀ j u, news[j]? = some u → w.cell? (ad.add j) = some u) (h1 : ∀ u ∈ news, u.oneCell' = true)
    (h63 : n + m ≤ maxLen) (hbytes : (n + m) * bytes ≤ 140737488355328) (hbase : base ≤ w.heap.size)
    (h : ∀ q cap w', w'.ownsRow base e size (.slice q (n + m) cap) (n + m) (xs ++ news) → w.grownBy w' v.ownBlock → ((Value.slice q (n + m) cap).ownBlock = v.ownBlock ∨ (Value.slice q (n + m) cap).ownBlock = some w.heap.size) → K (a.put o.dst (.slice q (n + m) cap)) w') :
    if Region.wanted o (yielded ops a.tmps) = true then Oper.wp P o a w K Q else E := by
  have hw : Region.wanted o (yielded ops a.tmps) = true := by simp [Region.wanted, hgd]
  rw [if_pos hw]
  obtain ⟨v', w', hr, h2, h3, _, h5⟩ := run_append_own_at (P := P) (w := w) base t o.type e i z size bytes ht hi hz hsize hby hzs hsz v n xs hown ad m c news hl hnews h1 h63 hbytes hbase
  obtain ⟨q, cap, rfl⟩ := ownsRow_slice h2
  unfold Oper.wp execOp
  simp only [ho, resolve, invoke, builtin, Sem.run_bind, Sem.run_pure, Result.andThen_ok, List.map_toArray, List.map_cons, List.map_nil, hs, hx, hr]
  exact h q cap w' h2 h3 h5
theorem addr_at (B o j : Nat) : (⟨B, o, none⟩ : Addr).add j = ⟨B, o + j, none⟩ := by
  unfold Addr.add
  split
  · next e => subst e; rfl
  · rfl
theorem pre_short {bs : List Bool} {pre : List (Fin bs.length)} {n : Nat} (h : pre.length < (whereTo bs n).length) : pre.length < bs.length := by
  have h2 : (whereTo bs n).length ≤ bs.length := by
    unfold whereTo
    refine Nat.le_trans (List.length_filter_le _ _) ?_
    simp
    omega
  omega
theorem wpIn_world {F : Fence} {n : Nat} {P : Program} {c : Code} {Q : Exit → Act → World → Prop} {a : Act} {w : World} (h : ∀ W, W = w → c.wpIn F n P Q a W) : c.wpIn F n P Q a w := h w rfl
/-- The way out: the boxes' values are the results. -/
theorem LkG.leave {w W : World} {i1 i2 B0 D m : Nat} {cv : Value} {p1 p2 : Option Addr} {c1 c2 : Nat} {P L : List Int} {zs : List (Int × Bool)} (h : LkG w W B0 i1 i2 cv (.slice p1 P.length c1) (.slice p2 L.length c2) P L) (hP : P = placesP zs) (hL : L = looksP zs) (hD : w.heap.size ≤ D) (hd : W.heap[D]? = some (.deferred (some []))) (tmps : Array Value)
    (hr : ∀ W' : World, W'.cell? ⟨i1, 0, none⟩ = some (.slice p1 P.length c1) → W'.cell? ⟨i2, 0, none⟩ = some (.slice p2 L.length c2) → (results Try.f23 tmps).run Try.prog W' = .ok (.tuple #[.slice p1 P.length c1, .slice p2 L.length c2]) W') :
    LeavesInM Fence.wide m Try.prog Try.f23 tmps (LookPost zs w) [{ target := Target.collected D, args := #[] }] .returning W := by
  subst hP hL
  refine ⟨by simp, .inl ⟨_, _, rfl, run_takeDeferred hd, ?_⟩⟩
  have hg := grownBy_putObj' W D (.deferred none)
  have h2 := h.grown hg fun r e => by cases e; exact ⟨hD, _, hd, rfl⟩
  have hlow : w.heap.size ≤ B0 := by have := h.1.ne; omega
  exact ⟨_, hr _ h2.1.box1.cell h2.1.box2.cell, _, _, rfl, ownsRow_mono h2.1.row1 hlow, ownsRow_mono h2.2 hlow, h2.1.below⟩
set_option maxRecDepth 100000 in
set_option maxHeartbeats 4000000 in
theorem look_any (A A' : Option Addr) (c c' : Nat) (l : List Int) (b : List Bool) (w : World) (hl : l.length ≤ 1000000) (hb : b.length ≤ 1000000) (hA : IA w A l) (hA' : BA w A' b) (hR : Roomy A' c' b.length) :
    Calls Try.prog 23 #[.slice A l.length c, .slice A' b.length c'] w (LookPost (l.zip b) w) := by
  obtain ⟨i0, hi, hz0, hz1, hz2⟩ := info_parts info_ints
  obtain ⟨bs, hbs⟩ : ∃ bs, b.take (min l.length b.length) = bs := ⟨_, rfl⟩
  have hbsl : bs.length = min l.length b.length := by rw [← hbs]; simp
  have hc1 : b.length ≤ c' := hR.1
  have HW := Lib.hid (where_all l b bs hbs.symm)
  have HB1 : Hid (b.length < l.length → ∀ W, Below w.heap.size w W → BoolsIn W (.slice A' b.length c') bs) := Lib.hid fun h W hW => by
    have := bools_in (hA'.below hW) hR (Nat.le_refl b.length)
    rwa [show b.take b.length = bs by rw [← hbs, Nat.min_eq_right (by omega)]] at this
  have HB2 : Hid (l.length ≤ b.length → ∀ W, Below w.heap.size w W → BoolsIn W (.slice A' l.length c') bs) := Lib.hid fun h W hW => by
    have := bools_in (hA'.below hW) hR h
    rwa [show b.take l.length = bs by rw [← hbs, Nat.min_eq_left h]] at this
  have HA := Lib.hid hA
  have HL := Lib.hid hbsl
  clear hA hA' hR hbs hbsl
  refine callsIn_wide.1 (callsIn_of_wp_marks (n := 3) Try.func23 rfl trivial ?_ rfl)
  simp only [Try.ntmps23, List.size_toArray, List.length_cons, List.length_nil, Nat.reduceAdd, Nat.reduceSub, Array.replicate_succ, Array.replicate_zero, List.push_toArray, List.append_toArray, List.nil_append, List.cons_append]
  have a1 := Boxed.new w 22 (.slice A l.length c)
  have a2 := Boxed.new (w.alloc (.cells #[.slice A l.length c] 22)) 22 (.slice none 0 0)
  have a3 := Boxed.new ((w.alloc (.cells #[.slice A l.length c] 22)).alloc (.cells #[.slice none 0 0] 22)) 22 (.slice none 0 0)
  simp only [World.size_alloc] at a2 a3
  obtain ⟨W0, hW0⟩ : ∃ W0, W0 = ((w.alloc (.cells #[.slice A l.length c] 22)).alloc (.cells #[.slice none 0 0] 22)).alloc (.cells #[.slice none 0 0] 22) := ⟨_, rfl⟩
  have hz : W0.heap.size = w.heap.size + 1 + 1 + 1 := by rw [hW0]; simp
  have hB0 : Below w.heap.size w W0 := by rw [hW0]; exact (((Below.refl _ w).alloc (Nat.le_refl _) _).alloc (by simp) _).alloc (by simp; omega) _
  have hM0 : ∀ w1, Below W0.heap.size W0 w1 → LkG w w1 w1.heap.size (w.heap.size + 1) (w.heap.size + 1 + 1) (.slice A l.length c) (.slice none 0 0) (.slice none 0 0) [] [] := fun w1 h1 => by
    have b1 : Boxed W0 w.heap.size 22 (.slice A l.length c) := by rw [hW0]; exact (a1.alloc _).alloc _
    have b2 : Boxed W0 (w.heap.size + 1) 22 (.slice none 0 0) := by rw [hW0]; exact a2.alloc _
    have b3 : Boxed W0 (w.heap.size + 1 + 1) 22 (.slice none 0 0) := by rw [hW0]; exact a3
    have hs := h1.size
    exact ⟨⟨(h1.block _ b1.lt).trans b1, (h1.block _ b2.lt).trans b2, (h1.block _ b3.lt).trans b3, World.ownsRow_nil _ _ _ _, (fun k e => by cases e), hB0.trans (h1.mono hB0.size), Nat.le_refl _, by omega⟩, World.ownsRow_nil _ _ _ _⟩
  have HM0 := Lib.hid hM0
  have HZ := Lib.hid hz
  have HBw := Lib.hid hB0
  clear a1 a2 a3 hz hB0 hM0
  have hlen2 : bs.length ≤ 1000000 := by rw [HL.out]; omega
  have HWh : Hid (∀ v, BoolsIn W0 v bs → CallsIn Fence.wide 2 Try.prog 32 #[v] W0 (WherePost bs W0)) := Lib.hid fun v hv => callsIn_wide.2 (where_any v bs hlen2 W0 hv)
  gi_wp2_with (refine ⟨trivial, ?_⟩; (try refine ⟨wide_depth _, ?_⟩); gi_at_call 32; rw [← hW0]; (first | refine (HWh.out _ (HB1.out (by assumption) W0 HBw.out)).mono ?_ | refine (HWh.out _ (HB2.out (by omega) W0 HBw.out)).mono ?_); rintro e w1 ⟨BW, bw, rfl, hb0, hb1, hseq, hbel⟩)
  all_goals
    have H1 := Lib.hid (HM0.out w1 hbel)
    have HS1 := Lib.hid hbel.size
    have Hb0 := Lib.hid hb0
    have Hb1 := Lib.hid hb1
    clear hbel hb0 hb1
    apply wpIn_rangeFunc_ownG rfl (n := 3) (by omega) (gf := 38) (lb := #[.pointer (some ⟨BW, 0, none⟩)]) rfl trivial enters_where
      (hseq (3 - 1)) (fun h k => KeepsBlk.trans h k) (keepsBlk_b Hb1.out) (Below.refl _ _) (fun _ => rfl)
      (fun pre W => ∃ v1 v2, LkG w W w1.heap.size (w.heap.size + 1) (w.heap.size + 1 + 1) (.slice A l.length c) v1 v2 (pre.map fun x => (x.val : Int)) (pre.map fun x => l[x.val]?.getD 0))
      (fun _ _ _ => False)
      ?own ?ownx ?start
    case own =>
      rintro s X Y row ⟨v1, v2, hs⟩ hg hrow
      exact ⟨v1, v2, hs.grown hg fun r e => ⟨by have := (hrow r e).1; have := HS1.out; have := HZ.out; omega, (hrow r e).2⟩⟩
    case ownx => exact fun _ _ _ _ _ h _ _ => h
    case start => exact ⟨_, _, H1.out⟩
    case hassign =>
      intro l x W K hK
      gi_wp2
      exact hK
    case hbody =>
      rintro ll pre x W ⟨v1, v2, hM⟩ hlt
      have hlt2 := pre_short hlt
      have hxl : x.val < l.length := by have := x.isLt; have := HL.out; omega
      obtain ⟨Bk, oo, hAe, hBk, hcell⟩ := HA.out (by omega)
      obtain ⟨y, hy⟩ : ∃ y, l[x.val]'hxl = y := ⟨_, rfl⟩
      have hyd : l[x.val]?.getD 0 = y := by rw [List.getElem?_eq_getElem hxl]; exact hy
      have hcy : w.cell? ⟨Bk, oo + x.val, none⟩ = some (.int .i64 y) := by rw [← hy]; exact hcell x.val hxl
      have hPl : (pre.map fun x => (x.val : Int)).length ≤ 1000000 := by simp; omega
      have hLl : (pre.map fun x => l[x.val]?.getD 0).length ≤ 1000000 := by simp; omega
      obtain ⟨P, hP⟩ : ∃ P, (pre.map fun x => (x.val : Int)) = P := ⟨_, rfl⟩
      obtain ⟨L, hL⟩ : ∃ L, (pre.map fun x => l[x.val]?.getD 0) = L := ⟨_, rfl⟩
      rw [hP] at hM hPl
      rw [hL] at hM hLl
      have HP := Lib.hid hP
      have HLL := Lib.hid hL
      have HY := Lib.hid hyd
      subst hAe
      clear hcell hy hlt hlt2 hP hL hyd
      have hc1 := hM.1.box1.cell
      have hrow := hM.1.row1
      have hsz := hM.1.sz
      have HM := Lib.hid hM
      clear hM
      gi_wp2_with (gi_at_builtin; refine wpListIn_append_own_at _ rfl _ _ 22 rfl w1.heap.size 3 i0 (.int .i64 0) 1 8 Try.underlying22 hi hz0 hz1 hz2 rfl (by decide) _ _ _ rfl (hrow.alloc _) ⟨W.heap.size, 0, none⟩ 1 1 [.int .i64 (x.val : Int)] rfl rfl (cell_one_new _ _ _) (by simp [Value.oneCell']) (by unfold maxLen; omega) (by omega) (by simp; omega) ?_; intro v' w2 hown' hgrow _ hat; obtain ⟨g', cap', rfl⟩ := ownsRow_succ hown'; have hB2 := (HM.out.swap.1.more ((Below.refl _ W).alloc (Nat.le_refl _) _)).wrote hgrow; have hc2 := hB2.box2.cell; have hf2 := hB2.box2.frozen; have HB2 := Lib.hid hB2; clear hB2)
      refine wpIn_world ?_
      intro W1 hW1
      have hown1 : IOw w2 w1.heap.size (.slice (some ⟨g', 0, none⟩) (P.length + 1) cap') (P ++ [(x.val : Int)]) := by
        unfold IOw
        rw [List.length_append, List.map_append]
        exact hown'
      have hlow := HM.out.1.ne
      have hapl := HM.out.1.own2
      have hM1 : LkG w W1 w1.heap.size (w.heap.size + 1) (w.heap.size + 1 + 1) (.slice (some ⟨Bk, oo, none⟩) l.length c) (.slice (some ⟨g', 0, none⟩) (P.length + 1) cap') v2 (P ++ [(x.val : Int)]) L := by
        rw [hW1]
        refine (HB2.out.stored hown1 fun k hk e => ?_).swap
        obtain ⟨_, k2, k3⟩ := hapl k e
        rcases hat with h | h
        · exact k3 (h.symm.trans hk)
        · rw [h] at hk
          simp at hk
          omega
      have hKO : KeepsOthers W W1 := by
        rw [hW1]
        exact ((KeepsOthers.alloc W _).trans (keeps_app (hrow.alloc _) hgrow)).trans (KeepsOthers.setCell _ _ _)
      have hbw : W1.heap[bw]? = W.heap[bw]? := by
        have h0 := Hb0.out
        have h1 := HZ.out
        have h2 := Hb1.out
        rw [hW1]
        refine (Below.heap_setCell w2 ⟨w.heap.size + 1, 0, none⟩ _ bw (by show bw ≠ w.heap.size + 1; omega)).trans ((hgrow.block bw (by simp; omega) fun e => ?_).trans (Below.heap_alloc _ _ _ (by omega)))
        have := (hrow.lt bw e.symm).1
        omega
      have hsz1 : W.heap.size ≤ W1.heap.size := hKO.size
      have HM1 := Lib.hid hM1
      have HKO := Lib.hid hKO
      have HBW := Lib.hid hbw
      obtain ⟨V1, hV1⟩ : ∃ V1 : Value, V1 = .slice (some ⟨g', 0, none⟩) (P.length + 1) cap' := ⟨_, rfl⟩
      rw [← hV1] at HM1
      have hbB : bw < w1.heap.size := Hb1.out
      have hbi : bw ≠ w.heap.size + 1 + 1 := by have := Hb0.out; have := HZ.out; omega
      clear hW1 hM1 hKO hbw hown1 hown' hgrow hat hc1 hc2 hf2 HB2 hrow hapl
      refine region_inv_in2 (fun j v w' => match j with
          | 0 => v = v2
          | 1 => v = .slice (some ⟨Bk, oo, none⟩) l.length c
          | 2 => v = .int .i64 (x.val : Int)
          | 3 => v = .pointer (some ⟨Bk, oo + x.val, none⟩)
          | 4 => v = .int .i64 y
          | 5 => ∃ Q, v = .slice (some ⟨Q, 0, none⟩) 1 1 ∧ W1.heap.size ≤ Q ∧ w'.heap[Q]? = some (.cells #[.int .i64 y] 3 (0, 0))
          | 6 => IOw w' w1.heap.size v (L ++ [y]) ∧ ∀ k, v.ownBlock = some k → V1.ownBlock ≠ some k
          | _ => True)
        (fun d w' => ClosedL d ∧ KeepsFrom w1.heap.size W1 w' ∧ W1.heap.size ≤ w'.heap.size ∧ w'.heap[bw]? = W1.heap[bw]? ∧ (d 7 = false → LkB w w' w1.heap.size (w.heap.size + 1) (w.heap.size + 1 + 1) (.slice (some ⟨Bk, oo, none⟩) l.length c) V1 v2 (P ++ [(x.val : Int)])) ∧ (d 6 = false → IOw w' w1.heap.size v2 L) ∧ (d 7 = true → ∃ v2', LkG w w' w1.heap.size (w.heap.size + 1) (w.heap.size + 1 + 1) (.slice (some ⟨Bk, oo, none⟩) l.length c) V1 v2' (P ++ [(x.val : Int)]) (L ++ [y])))
        (by kernel_rfl) (by kernel_rfl) (by kernel_rfl) (by kernel_rfl) ?hG ?hops ?hend
      case hG => exact ⟨fun _ _ h => Bool.noConfusion h, keepsFrom_below (Below.refl _ _).drew, Nat.le_refl _, rfl, fun _ => HM1.out.1.more (Below.refl _ _).drew, fun _ => (HM1.out.more (Below.refl _ _).drew).2, fun h => Bool.noConfusion h⟩
      case hops =>
        refine OpsOk2.cons ?o0 (OpsOk2.cons ?o1 (OpsOk2.cons ?o2 (OpsOk2.cons ?o3 (OpsOk2.cons ?o4 (OpsOk2.cons ?o5 (OpsOk2.cons ?o6 (OpsOk2.cons ?o7 OpsOk2.nil)))))))
        case o0 =>
          intro a w3 d Kx hd hG need old hsz hK
          obtain ⟨hc, hkf, hs, hbk, g1, g2, g3⟩ := hG
          have h7 := hc.no7 (by rw [hd]; simp)
          have cL := (g1 h7).box2.cell
          have e0 : a.tmps[5]?.getD undef = .pointer (some ⟨w.heap.size + 1 + 1, 0, none⟩) := by
            rw [← Array.getD_eq_getD_getElem?]
            exact old 5 (by kernel_rfl)
          refine op_value (v := v2) (wanted_none rfl) ?_ (hK _ w3 rfl ⟨hc.also (by simp [waitsL]), hkf, hs, hbk, g1, g2, g3⟩ fun _ _ _ _ h => h)
          obtain ⟨p2, cap2, hv2⟩ := ownsRow_slice HM1.out.2
          rw [hv2] at cL ⊢
          simp [execOp, go_sem, e0, cL]
        case o1 =>
          intro a w3 d Kx hd hG need old hsz hK
          obtain ⟨hc, hkf, hs, hbk, g1, g2, g3⟩ := hG
          have h7 := hc.no7 (by rw [hd]; simp)
          have cL := (g1 h7).boxC.cell
          have e0 : a.tmps[2]?.getD undef = .pointer (some ⟨w.heap.size, 0, none⟩) := by
            rw [← Array.getD_eq_getD_getElem?]
            exact old 2 (by kernel_rfl)
          refine op_value (v := .slice (some ⟨Bk, oo, none⟩) l.length c) (wanted_none rfl) ?_ (hK _ w3 rfl ⟨hc.also (by simp [waitsL]), hkf, hs, hbk, g1, g2, g3⟩ fun _ _ _ _ h => h)
          simp [execOp, go_sem, e0, cL]
        case o2 =>
          intro a w3 d Kx hd hG need old hsz hK
          obtain ⟨hc, hkf, hs, hbk, g1, g2, g3⟩ := hG
          have e0 : a.tmps[7]?.getD undef = .int .i64 (x.val : Int) := by
            rw [← Array.getD_eq_getD_getElem?]
            exact old 7 (by kernel_rfl)
          refine op_value (v := .int .i64 (x.val : Int)) (wanted_none rfl) ?_ (hK _ w3 rfl ⟨hc.also (by simp [waitsL]), hkf, hs, hbk, g1, g2, g3⟩ fun _ _ _ _ h => h)
          simp [execOp, go_sem, e0]
        case o3 =>
          intro a w3 d Kx hd hG need old hsz hK
          obtain ⟨hc, hkf, hs, hbk, g1, g2, g3⟩ := hG
          obtain ⟨d1, n1⟩ := need 1 (by kernel_rfl) (by kernel_rfl)
          obtain ⟨d2, n2⟩ := need 2 (by kernel_rfl) (by kernel_rfl)
          have e0 : a.tmps[23]?.getD undef = .slice (some ⟨Bk, oo, none⟩) l.length c := by
            rw [← Array.getD_eq_getD_getElem?]
            exact n1
          have e1 : a.tmps[24]?.getD undef = .int .i64 (x.val : Int) := by
            rw [← Array.getD_eq_getD_getElem?]
            exact n2
          refine op_value (v := .pointer (some ⟨Bk, oo + x.val, none⟩)) (wanted_none rfl) ?_ (hK _ w3 rfl ⟨hc.also fun y hy e => ?_, hkf, hs, hbk, g1, g2, g3⟩ fun _ _ _ _ h => h)
          · simp [execOp, go_sem, e0, e1, hxl]
          · simp [waitsL] at hy
            rcases hy with rfl | rfl | rfl | rfl | rfl | rfl | rfl <;> first | exact d1 | exact d2 | (exact absurd e (by decide))
        case o4 =>
          intro a w3 d Kx hd hG need old hsz hK
          obtain ⟨hc, hkf, hs, hbk, g1, g2, g3⟩ := hG
          have h7 := hc.no7 (by rw [hd]; simp)
          obtain ⟨d3, n3⟩ := need 3 (by kernel_rfl) (by kernel_rfl)
          have cy := ((g1 h7).below.cell (p := ⟨Bk, oo + x.val, none⟩) hBk).trans hcy
          have e0 : a.tmps[25]?.getD undef = .pointer (some ⟨Bk, oo + x.val, none⟩) := by
            rw [← Array.getD_eq_getD_getElem?]
            exact n3
          refine op_value (v := .int .i64 y) (wanted_none rfl) ?_ (hK _ w3 rfl ⟨hc.also fun y hy e => ?_, hkf, hs, hbk, g1, g2, g3⟩ fun _ _ _ _ h => h)
          · simp [execOp, go_sem, e0, cy]
          · simp [waitsL] at hy
            rcases hy with rfl | rfl | rfl | rfl | rfl | rfl | rfl <;> first | exact d3 | (exact absurd e (by decide))
        case o5 =>
          intro a w3 d Kx hd hG need old hsz hK
          obtain ⟨hc, hkf, hs, hbk, g1, g2, g3⟩ := hG
          have h7 := hc.no7 (by rw [hd]; simp)
          obtain ⟨d4, n4⟩ := need 4 (by kernel_rfl) (by kernel_rfl)
          have e0 : a.tmps[26]?.getD undef = .int .i64 y := by
            rw [← Array.getD_eq_getD_getElem?]
            exact n4
          have hbw3 : Below w3.heap.size w3 (w3.alloc (.cells #[.int .i64 y] 3)) := (Below.refl _ _).alloc (Nat.le_refl _) _
          refine op_value (v := .slice (some ⟨w3.heap.size, 0, none⟩) 1 1) (w' := w3.alloc (.cells #[.int .i64 y] 3)) (wanted_none rfl) ?_
            (hK _ _ ⟨w3.heap.size, rfl, hs, heap_alloc_new _ _⟩ ⟨hc.also fun y hy e => ?_, hkf.trans (keepsFrom_below hbw3), Nat.le_trans hs hbw3.size, (hbw3.block _ (by omega)).trans hbk, fun _ => (g1 h7).more hbw3, fun h6 => own_keep (g2 h6) fun k _ _ _ ho _ => hbw3.block k (lt_size ho), fun h => absurd (h7.symm.trans h) (by decide)⟩ ?_)
          · simp [execOp, go_sem, e0]
          · simp [waitsL] at hy
            rcases hy with rfl | rfl | rfl | rfl | rfl | rfl | rfl <;> first | exact d4 | (exact absurd e (by decide))
          · intro j u hj hdj hu
            match j, hu with
            | 0, hu => exact hu
            | 1, hu => exact hu
            | 2, hu => exact hu
            | 3, hu => exact hu
            | 4, hu => exact hu
            | 5, _ => exact absurd rfl hj
            | 6, hu => exact ⟨own_keep hu.1 fun k _ _ _ ho _ => hbw3.block k (lt_size ho), hu.2⟩
            | _ + 7, _ => trivial
        case o6 =>
          intro a w3 d Kx hd hG need old hsz hK
          obtain ⟨hc, hkf, hs, hbk, g1, g2, g3⟩ := hG
          have h7 := hc.no7 (by rw [hd]; simp)
          obtain ⟨d0, n0⟩ := need 0 (by kernel_rfl) (by kernel_rfl)
          obtain ⟨d5, Q, n5, hQ, hq⟩ := need 5 (by kernel_rfl) (by kernel_rfl)
          have hr2 := g2 hd
          have hB := g1 h7
          have e0 : a.tmps[22]?.getD undef = v2 := by
            rw [← Array.getD_eq_getD_getElem?]
            exact n0
          have e1 : a.tmps[27]?.getD undef = .slice (some ⟨Q, 0, none⟩) 1 1 := by
            rw [← Array.getD_eq_getD_getElem?]
            exact n5
          have hnews : ∀ (k : Nat) (u : Value), ([.int .i64 y] : List Value)[k]? = some u → w3.cell? ((⟨Q, 0, none⟩ : Addr).add k) = some u := fun k u hu => by
            rw [addr_at]
            simp only [World.cell?, hq]
            simpa using hu
          refine step_append_at rfl (.tmp 22) (.tmp 27) 22 rfl w1.heap.size 3 i0 (.int .i64 0) 1 8 Try.underlying22 hi hz0 hz1 hz2 rfl (by decide) v2 L.length (L.map (Value.int .i64)) (by simp [go_sem, e0]) hr2 ⟨Q, 0, none⟩ 1 1 [.int .i64 y] (by simp [go_sem, e1]) rfl hnews (by simp [Value.oneCell']) (by unfold maxLen; omega) (by omega) hB.sz ?_
          intro q2 cap2 w4 hown2 hg2 hob2
          have hnew : IOw w4 w1.heap.size (.slice q2 (L.length + 1) cap2) (L ++ [y]) := by
            unfold IOw
            rw [List.length_append, List.map_append]
            exact hown2
          have hV1lt := hB.row1.lt
          have hap : ∀ k, (Value.slice q2 (L.length + 1) cap2).ownBlock = some k → V1.ownBlock ≠ some k := fun k hk e => by
            rcases hob2 with h | h
            · exact (hB.own2 k (h.symm.trans hk)).2.2 e
            · rw [h] at hk
              simp at hk
              have := (hV1lt k e).2
              omega
          refine hK _ w4 ⟨hnew, hap⟩ ⟨hc.also fun y hy e => ?_, hkf.trans ((keeps_app hr2 hg2).from _), Nat.le_trans hs hg2.size, (hg2.block bw (by omega) fun e => by have := (hB.own2 bw e.symm).1; omega).trans hbk, fun _ => hB.wrote hg2, fun h6 => absurd h6 (by unfold also; simp), fun h => absurd (h7.symm.trans h) (by decide)⟩ ?_
          · simp [waitsL] at hy
            rcases hy with rfl | rfl | rfl | rfl | rfl | rfl | rfl <;> first | exact d0 | exact d5 | (exact absurd e (by decide))
          · intro j u hj hdj hu
            match j, hu with
            | 0, hu => exact hu
            | 1, hu => exact hu
            | 2, hu => exact hu
            | 3, hu => exact hu
            | 4, hu => exact hu
            | 5, ⟨Q', e, h1, h2⟩ => exact ⟨Q', e, h1, (hg2.block _ (lt_size h2) fun e => by have := (HM1.out.1.own2 _ e.symm).2.1; omega).trans h2⟩
            | 6, _ => exact absurd rfl hj
            | _ + 7, _ => trivial
        case o7 =>
          intro a w3 d Kx hd hG need old hsz hK
          obtain ⟨hc, hkf, hs, hbk, g1, g2, g3⟩ := hG
          obtain ⟨d6, hr6, hap⟩ := need 6 (by kernel_rfl) (by kernel_rfl)
          have hB := g1 hd
          obtain ⟨A2, c2, hv2⟩ := ownsRow_slice hr6
          have e0 : a.tmps[5]?.getD undef = .pointer (some ⟨w.heap.size + 1 + 1, 0, none⟩) := by
            rw [← Array.getD_eq_getD_getElem?]
            exact old 5 (by kernel_rfl)
          have e1 : a.tmps[28]?.getD undef = .slice A2 (L ++ [y]).length c2 := by
            rw [← Array.getD_eq_getD_getElem?]
            exact hv2
          rw [hv2] at hr6 hap
          have cL := hB.box2.cell
          have fL := hB.box2.frozen
          refine op_skip (wanted_none rfl) (w' := w3.setCell ⟨w.heap.size + 1 + 1, 0, none⟩ (.slice A2 (L ++ [y]).length c2)) ?_ (hK _ _ trivial ⟨hc.also fun y hy e => ?_, hkf.trans ((KeepsOthers.setCell _ _ _).from _), by simpa using hs, (Below.heap_setCell w3 ⟨w.heap.size + 1 + 1, 0, none⟩ _ bw hbi).trans hbk, fun h => absurd h (by unfold also; simp), fun h => absurd (d6.symm.trans h) (by decide), fun _ => ⟨_, hB.stored hr6 hap⟩⟩ ?_)
          · simp [execOp, go_sem, e0, e1, cL, fL]
          · simp [waitsL] at hy
            rcases hy with rfl | rfl | rfl | rfl | rfl | rfl | rfl <;> first | exact d6 | (exact absurd e (by decide))
          · intro j u hj hdj hu
            match j, hu with
            | 0, hu => exact hu
            | 1, hu => exact hu
            | 2, hu => exact hu
            | 3, hu => exact hu
            | 4, hu => exact hu
            | 5, ⟨Q', e, h1, h2⟩ => exact ⟨Q', e, h1, (Below.heap_setCell w3 ⟨w.heap.size + 1 + 1, 0, none⟩ _ Q' (fun e => by have e' : Q' = w.heap.size + 1 + 1 := e; omega)).trans h2⟩
            | 6, hu => exact ⟨own_keep hu.1 fun k _ hk _ _ _ => Below.heap_setCell w3 ⟨w.heap.size + 1 + 1, 0, none⟩ _ k (fun e => by have e' : k = w.heap.size + 1 + 1 := e; omega), hu.2⟩
            | _ + 7, _ => trivial
      case hend =>
        intro a w' d hG hφ _ _ _
        obtain ⟨hc, hkf, hs, hbk, g1, g2, g3⟩ := hG
        obtain ⟨v2', h1⟩ := g3 (hφ 7 (by kernel_rfl)).1
        refine ⟨(HKO.out.from _).trans hkf, hbk.trans HBW.out, V1, v2', ?_⟩
        rw [List.map_append, List.map_append, HP.out, HLL.out, List.map_singleton, List.map_singleton, HY.out]
        exact h1
    case hdone =>
      rintro D ys W hD rfl ⟨v1, v2, hM⟩ hK
      rw [HW.out.1, HW.out.2] at hM
      obtain ⟨p1, k1, rfl⟩ := ownsRow_slice hM.1.row1
      obtain ⟨p2, k2, rfl⟩ := ownsRow_slice hM.2
      have hc1 := hM.1.box1.cell
      have hc2 := hM.1.box2.cell
      have hf1 := hM.1.box1.frozen
      have hf2 := hM.1.box2.frozen
      have HM := Lib.hid hM
      clear hM
      gi_wp2
      gi_region
      gi_wp2
      exact LkG.leave ((HM.out.again1.again).more (Below.refl _ _).drew) rfl rfl (by have := HS1.out; have := HZ.out; omega) (((KeepsOthers.setCell W _ _).trans (KeepsOthers.setCell _ _ _)).same D _ hK rfl) _ (fun W' h1 h2 => by simp [results, Try.f23, go_sem, h1, h2])
    case hstop =>
      rintro D c pre W hD hpre h hK
      exact h.elim
end Go.Proofs.Ytjgpjmlnmjgdmaa
