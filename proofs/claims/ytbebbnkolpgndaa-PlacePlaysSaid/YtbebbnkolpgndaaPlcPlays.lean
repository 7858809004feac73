/- PlacePlays, the stage's theorem: the law's walk. -/
import Derived.Test.YtbebbnkolpgndaaFTells
import Derived.Test.YtbebbnkolpgndaaPlayMath
namespace Go.Proofs.Ytbebbnkolpgndaa
open Go.RowKit

theorem fown_safe {w w' : World} {B : Nat} {v : Value} {l : List Fd} {x : Nat → Prop} (h : FOwn w B v l) (hs : Safe x w w') (hx : ∀ g, v.ownBlock = some g → x g) : FOwn w' B v l := own_keep h fun g e => Safe.block hs (World.ownsRow.lt h g e).2 (hx g e)
/-- Behind a cut: the law's own row is a new one. -/
theorem cut_end {w0 w4 wz : World} {p n cb : Nat} {v v' : Value} {T' R : List Fd} {o : Obj} (ht : Tab w4 p (fun k => k < n ∨ v.ownBlock = some k ∨ k = cb) T') (hb : Below n w0 w4) (hy : w4.heap[cb]? = some o) (h1 : FOwn wz w4.heap.size v' R) (h2 : Below w4.heap.size w4 wz) (e : T' = R) (hn : n ≤ w4.heap.size) :
    FOwn wz n v' T' ∧ Tab wz p (fun k => k < n ∨ v'.ownBlock = some k ∨ k = cb) T' ∧ Below n w0 wz ∧ wz.heap[cb]? = some o := by
  subst e
  refine ⟨fown_less h1 hn, (ht.more h2).less fun k hk => ?_, hb.trans (h2.mono hn), (h2.block _ (lt_size hy)).trans hy⟩
  rcases hk with h | h | h
  · exact .inl (.inl h)
  · exact .inr (World.ownsRow.lt h1 k h)
  · exact .inl (.inr (.inr h))
theorem run_fapp_at {w : World} {base : Nat} {v : Value} {xs l : List Fd} {ad : Addr} {c : Nat} (ty : TypeId) (hown : FOwn w base v xs) (hl : FLies w (some ad) l) (h63 : xs.length + l.length ≤ 1000000) (hbase : base ≤ w.heap.size) :
    ∃ q cap w', (Builtin.append_ #[28, 28] ty #[v, .slice (some ad) l.length c]).run Try.prog w = .ok (.slice q (xs.length + l.length) cap) w' ∧ FOwn w' base (.slice q (xs.length + l.length) cap) (xs ++ l) ∧ w.grownBy w' v.ownBlock ∧ ((Value.slice q (xs.length + l.length) cap).ownBlock = v.ownBlock ∨ (Value.slice q (xs.length + l.length) cap).ownBlock = some w.heap.size) := by
  obtain ⟨i, hi, hz, hs, hb⟩ := found_parts
  obtain ⟨v', w', hr, h2, h3, _, h4⟩ := run_append_own_at (P := Try.prog) (w := w) base 28 ty 34 i _ 4 32 Try.underlying28 hi hz hs hb rfl (by omega) v xs.length (fcells xs) hown ad l.length c (fcells l) (fcells_len l) (hl.cells rfl) (fun u hu => fcells_one hu) (by unfold maxLen; omega) (by omega) hbase
  obtain ⟨q, cap, rfl, _⟩ := own_slice h2
  exact ⟨q, cap, w', hr, by unfold FOwn; rw [List.length_append, fcells_app]; exact h2, h3, h4⟩
theorem oper_fapp_at {w : World} {o : Oper} {a : Act} {K : Act → World → Prop} {Q : Exit → Act → World → Prop} (s x : Operand) (ho : o.op = .call { callee := .builtin .append, args := #[s, x], argTypes := #[28, 28] })
    {base : Nat} {v : Value} {xs l : List Fd} {ad : Addr} {c : Nat} (hs : a.eval s = v) (hx : a.eval x = .slice (some ad) l.length c) (hown : FOwn w base v xs) (hl : FLies w (some ad) l) (h63 : xs.length + l.length ≤ 1000000) (hbase : base ≤ w.heap.size)
    (h : ∀ q cap w', FOwn w' base (.slice q (xs.length + l.length) cap) (xs ++ l) → w.grownBy w' v.ownBlock → ((Value.slice q (xs.length + l.length) cap).ownBlock = v.ownBlock ∨ (Value.slice q (xs.length + l.length) cap).ownBlock = some w.heap.size) → K (a.put o.dst (.slice q (xs.length + l.length) cap)) w') : Oper.wp Try.prog o a w K Q := by
  obtain ⟨q, cap, w', hr, h2, h3, h4⟩ := run_fapp_at (c := c) o.type hown hl h63 hbase
  unfold Oper.wp execOp
  simp only [ho, resolve, invoke, builtin, Sem.run_bind, Sem.run_pure, Result.andThen_ok, List.map_toArray, List.map_cons, List.map_nil, hs, hx, hr]
  exact h q cap w' h2 h3 h4
/-- As wpList_fapp: and where the new row lies. -/
theorem wpList_fapp_at {w : World} {ops : Array Oper} {rest : List Oper} {o : Oper} {a : Act} {Q : Exit → Act → World → Prop} (hgd : o.guard = none) (s x : Operand) (ho : o.op = .call { callee := .builtin .append, args := #[s, x], argTypes := #[28, 28] })
    (base : Nat) (v : Value) (xs l : List Fd) (ad : Addr) (c : Nat) (hs : a.eval s = v) (hx : a.eval x = .slice (some ad) l.length c) (hown : FOwn w base v xs) (hl : FLies w (some ad) l) (h63 : xs.length + l.length ≤ 1000000) (hbase : base ≤ w.heap.size)
    (h : ∀ q cap w', FOwn w' base (.slice q (xs.length + l.length) cap) (xs ++ l) → w.grownBy w' v.ownBlock → ((Value.slice q (xs.length + l.length) cap).ownBlock = v.ownBlock ∨ (Value.slice q (xs.length + l.length) cap).ownBlock = some w.heap.size) → wpList Try.prog ops Q rest (a.put o.dst (.slice q (xs.length + l.length) cap)) w') : wpList Try.prog ops Q (o :: rest) a w :=
  wpList_plain hgd fun _ hK => oper_fapp_at s x ho hs hx hown hl h63 hbase fun q cap w' h2 h3 h4 => hK _ _ (h q cap w' h2 h3 h4)
theorem fcells_set : ∀ (T : List Fd) (k : Nat) (h : k < T.length) (s : P2), fcells (T.set k (T[k].1, s)) = ((fcells T).set (k * 4 + 2) (.int .i64 s.1)).set (k * 4 + 3) (.int .i64 s.2)
  | f :: l, 0, _, s => by simp [fcells, fenc]
  | f :: l, k + 1, h, s => by
    have ih := fcells_set l k (by simpa using h) s
    rw [List.set_cons_succ, fcells_cons, fcells_cons]
    have hl : (fenc f).length = 4 := rfl
    rw [List.set_append_right _ _ (by omega), List.set_append_right _ _ (by omega), hl, show (k + 1) * 4 + 2 - 4 = k * 4 + 2 by omega, show (k + 1) * 4 + 3 - 4 = k * 4 + 3 by omega, ← ih]
    rfl
theorem cell_in {w : World} {g : Nat} {cur : Array Value} {t : TypeId} (hg : w.heap[g]? = some (.cells cur t (0, 0))) (j : Nat) (h : j < cur.size) : ∃ a, w.cell? ⟨g, j, none⟩ = some a := ⟨cur[j], by simp [World.cell?, hg, h]⟩
/-- A spot in the law's own row is written over. -/
theorem fown_put {w : World} {B n c k : Nat} {pv : Option Addr} {T : List Fd} (h : FOwn w B (.slice pv n c) T) (hk : k < T.length) (s : P2) : ∃ g, pv = some ⟨g, 0, none⟩ ∧ (∃ a, w.cell? ⟨g, k * 4 + 2, none⟩ = some a) ∧ (∃ a, w.cell? ⟨g, k * 4 + 2 + 1, none⟩ = some a) ∧ (∀ j, w.frozen? ⟨g, j, none⟩ = false) ∧
    (∃ a, (w.setCell ⟨g, k * 4 + 2, none⟩ (.int .i64 s.1)).cell? ⟨g, k * 4 + 2 + 1, none⟩ = some a) ∧ (∀ j, (w.setCell ⟨g, k * 4 + 2, none⟩ (.int .i64 s.1)).frozen? ⟨g, j, none⟩ = false) ∧
    FOwn ((w.setCell ⟨g, k * 4 + 2, none⟩ (.int .i64 s.1)).setCell ⟨g, k * 4 + 2 + 1, none⟩ (.int .i64 s.2)) B (.slice pv n c) (T.set k (T[k].1, s)) := by
  obtain ⟨_, rfl, _, _⟩ := h.lies
  have hh := h
  rcases h.2 with ⟨e, e2⟩ | ⟨g, cap, cur, e, hb, hg, hnc, hcm, hcs, ht⟩
  · omega
  · simp at e
    obtain ⟨rfl, rfl⟩ := e
    have hcz : T.length * 4 ≤ cur.size := by
      have := congrArg List.length ht
      rw [List.length_take, fcells_len, Array.length_toList] at this
      omega
    have hset := heap_setCell_same w g (k * 4 + 2) cur 34 (.int .i64 s.1) hg
    obtain ⟨h1, _⟩ := World.ownsRow.stored hh (k * 4 + 2) (.int .i64 s.1)
    obtain ⟨h2, _⟩ := World.ownsRow.stored h1 (k * 4 + 2 + 1) (.int .i64 s.2)
    refine ⟨g, rfl, cell_in hg _ (by omega), cell_in hg _ (by omega), fun j => by simp [World.frozen?, hg], cell_in hset _ (by rw [Array.size_setIfInBounds]; omega), fun j => by simp [World.frozen?, hset], ?_⟩
    · unfold FOwn
      rw [List.length_set, fcells_set T k hk s]
      exact h2
/-- Behind it. -/
theorem set_end {w0 w4 : World} {p n cb g a b : Nat} {pv : Option Addr} {c m : Nat} {u1 u2 : Value} {T' : List Fd} {o : Obj} (ht : Tab w4 p (fun k => k < n ∨ (Value.slice pv m c).ownBlock = some k ∨ k = cb) T') (hb : Below n w0 w4) (hy : w4.heap[cb]? = some o) (hpv : pv = some ⟨g, 0, none⟩) (h1 : FOwn ((w4.setCell ⟨g, a, none⟩ u1).setCell ⟨g, b, none⟩ u2) n (.slice pv m c) T') (hcb : (Value.slice pv m c).ownBlock ≠ some cb) :
    FOwn ((w4.setCell ⟨g, a, none⟩ u1).setCell ⟨g, b, none⟩ u2) n (.slice pv m c) T' ∧ Tab ((w4.setCell ⟨g, a, none⟩ u1).setCell ⟨g, b, none⟩ u2) p (fun k => k < n ∨ (Value.slice pv m c).ownBlock = some k ∨ k = cb) T' ∧ Below n w0 ((w4.setCell ⟨g, a, none⟩ u1).setCell ⟨g, b, none⟩ u2) ∧ ((w4.setCell ⟨g, a, none⟩ u1).setCell ⟨g, b, none⟩ u2).heap[cb]? = some o := by
  subst hpv
  have hn : n ≤ g := (World.ownsRow.lt h1 g rfl).1
  have hne : cb ≠ g := fun e => hcb (by rw [e]; rfl)
  refine ⟨h1, (ht.grow ?_).less fun k hk => .inl hk, (hb.setCell hn _).setCell hn _, ?_⟩
  · exact ((Turned.refl _ w4).setCell (p := ⟨g, a, none⟩) (fun _ => .inr (.inl rfl)) u1).setCell (p := ⟨g, b, none⟩) (fun _ => .inr (.inl rfl)) u2
  · rw [heap_setCell_other _ _ _ _ hne, heap_setCell_other _ _ _ _ hne]; exact hy
/-- Behind an append to the law's own row. -/
theorem put_end {w0 w4 wa w7 : World} {p n cb : Nat} {v v' : Value} {T T' : List Fd} {o : Obj} (ht : Tab w4 p (fun k => k < n ∨ v.ownBlock = some k ∨ k = cb) T') (hb : Below n w0 w4) (hy : w4.heap[cb]? = some o) (ha : Below w4.heap.size w4 wa) (ho : FOwn wa n v T) (hg : wa.grownBy w7 v.ownBlock) (h1 : FOwn w7 n v' T') (hat : v'.ownBlock = v.ownBlock ∨ v'.ownBlock = some wa.heap.size) (hcb : v.ownBlock ≠ some cb) (hn : n ≤ w4.heap.size) :
    FOwn w7 n v' T' ∧ Tab w7 p (fun k => k < n ∨ v'.ownBlock = some k ∨ k = cb) T' ∧ Below n w0 w7 ∧ w7.heap[cb]? = some o := by
  have hsz := ha.size
  have ht7 : Turned (fun k => k < n ∨ v.ownBlock = some k ∨ k = cb) w4 w7 := ⟨hg.os.trans ha.os, hg.tape.trans ha.tape, hg.output.trans ha.output, Nat.le_trans ha.size hg.size, fun k hk hx =>
    (hg.block k (Nat.lt_of_lt_of_le hk ha.size) (fun e => hx (.inr (.inl e.symm)))).trans (ha.block k hk)⟩
  refine ⟨h1, (ht.grow ht7).less fun k hk => ?_, ?_, ?_⟩
  · rcases hk with h | h | h
    · exact .inl (.inl h)
    · rcases hat with e | e
      · exact .inl (.inr (.inl (e ▸ h)))
      · rw [e] at h
        cases h
        exact .inr ⟨hsz, (World.ownsRow.lt h1 _ e).2⟩
    · exact .inl (.inr (.inr h))
  · exact fown_below ho (hb.trans (ha.mono hn)) hg (Nat.le_trans hn hsz)
  · exact (hg.block cb (Nat.lt_of_lt_of_le (lt_size hy) hsz) (fun e => hcb e.symm)).trans ((ha.block cb (lt_size hy)).trans hy)
/-- The law's second look: its two answers, each in a box beside a bool; the third box is what On told. -/
structure Lk (w7 wx : World) (gy : Nat) (bx : P2) (at' on : Option P2) : Prop where
  y : wx.heap[gy]? = some (.cells #[.int .i64 bx.1, .int .i64 bx.2] 30 (0, 0))
  a : wx.heap[gy + 1]? = some (.cells #[.int .i64 (at'.getD (0, 0)).1, .int .i64 (at'.getD (0, 0)).2] 24 (0, 0))
  b : wx.heap[gy + 1 + 1]? = some (.cells #[.int .i64 (on.getD (0, 0)).1, .int .i64 (on.getD (0, 0)).2] 30 (0, 0))
  bw : Below w7.heap.size w7 wx
  sz : w7.heap.size ≤ gy
theorem Lk.alloc {w7 wx : World} {gy : Nat} {bx : P2} {at' on : Option P2} (h : Lk w7 wx gy bx at' on) (o : Obj) : Lk w7 (wx.alloc o) gy bx at' on where
  y := (heap_alloc_old _ _ (lt_size h.y)).trans h.y
  a := (heap_alloc_old _ _ (lt_size h.a)).trans h.a
  b := (heap_alloc_old _ _ (lt_size h.b)).trans h.b
  bw := h.bw.alloc h.bw.size o
  sz := h.sz
theorem Lk.setA {w7 wx : World} {gy : Nat} {bx : P2} {at' on : Option P2} (h : Lk w7 wx gy bx at' on) (s : P2) : Lk w7 ((wx.setCell ⟨gy + 1, 0, none⟩ (.int .i64 s.1)).setCell ⟨gy + 1, 1, none⟩ (.int .i64 s.2)) gy bx (some s) on where
  y := by rw [heap_setCell_other _ _ _ _ (by simp <;> omega), heap_setCell_other _ _ _ _ (by simp <;> omega)]; exact h.y
  a := by rw [heap_setCell_same _ _ 1 _ _ _ (heap_setCell_same _ _ 0 _ _ _ h.a)]; simp
  b := by rw [heap_setCell_other _ _ _ _ (by simp <;> omega), heap_setCell_other _ _ _ _ (by simp <;> omega)]; exact h.b
  bw := (h.bw.setCell (p := ⟨gy + 1, 0, none⟩) (Nat.le_succ_of_le h.sz) _).setCell (p := ⟨gy + 1, 1, none⟩) (Nat.le_succ_of_le h.sz) _
  sz := h.sz
theorem Lk.setB {w7 wx : World} {gy : Nat} {bx : P2} {at' on : Option P2} (h : Lk w7 wx gy bx at' on) (s : P2) : Lk w7 ((wx.setCell ⟨gy + 1 + 1, 0, none⟩ (.int .i64 s.1)).setCell ⟨gy + 1 + 1, 1, none⟩ (.int .i64 s.2)) gy bx at' (some s) where
  y := by rw [heap_setCell_other _ _ _ _ (by simp <;> omega), heap_setCell_other _ _ _ _ (by simp <;> omega)]; exact h.y
  a := by rw [heap_setCell_other _ _ _ _ (by simp <;> omega), heap_setCell_other _ _ _ _ (by simp <;> omega)]; exact h.a
  b := by rw [heap_setCell_same _ _ 1 _ _ _ (heap_setCell_same _ _ 0 _ _ _ h.b)]; simp
  bw := (h.bw.setCell (p := ⟨gy + 1 + 1, 0, none⟩) (Nat.le_succ_of_le (Nat.le_succ_of_le h.sz)) _).setCell (p := ⟨gy + 1 + 1, 1, none⟩) (Nat.le_succ_of_le (Nat.le_succ_of_le h.sz)) _
  sz := h.sz
theorem cells2f {w : World} {g : Nat} {a b : Value} {t : TypeId} (h : w.heap[g]? = some (.cells #[a, b] t (0, 0))) : w.cell? ⟨g, 0, none⟩ = some a ∧ w.cell? ⟨g, 1, none⟩ = some b ∧ w.frozen? ⟨g, 0, none⟩ = false ∧ w.frozen? ⟨g, 1, none⟩ = false := by
  simp [World.cell?, World.frozen?, h]
theorem nel_ref (a b : P2) (w : World) : Sem.run Try.prog (binOp BinOp.neq 30 (P2V a) (P2V b)) w = .ok (.bool (!decide (a = b))) w := by
  have e : (a = b) ↔ (a.1 = b.1 ∧ a.2 = b.2) := Prod.ext_iff
  by_cases h1 : a.1 = b.1 <;> by_cases h2 : a.2 = b.2 <;> simp [go_sem, e, h1, h2]
theorem nel_spot (a b : P2) (w : World) : Sem.run Try.prog (binOp BinOp.neq 24 (P2V a) (P2V b)) w = .ok (.bool (!decide (a = b))) w := by
  have e : (a = b) ↔ (a.1 = b.1 ∧ a.2 = b.2) := Prod.ext_iff
  by_cases h1 : a.1 = b.1 <;> by_cases h2 : a.2 = b.2 <;> simp [go_sem, e, h1, h2]
set_option maxRecDepth 100000 in
set_option maxHeartbeats 4000000 in
set_option maxHeartbeats 40000000 in
theorem plays9_any (A : Option Addr) (c : Nat) (l : List Cl) (s : P2) (b : Int) (w : World) (_hc : l.length ≤ maxLen) (hA : CLies w A l) (hw : CWf l) (hs : WfP s) (hb : (Lit.int .i64 b).wf = true) :
    Calls Try.prog 3 #[.slice A l.length c, P2V s, .int .i64 b] w (Holds w) := by
  unfold maxLen at _hc
  by_cases hl : 150 < l.length
  · clear hA hw
    go_enter Try.func3, Try.ntmps3
    go_wp2_with (go_at_call 8; refine (awake_any _).mono ?_; rintro e w1 ⟨rfl, hb1⟩)
    go_ret
    exact ⟨rfl, ((Below.refl _ _).alloc (Nat.le_refl _) _).trans (hb1.mono (by simp))⟩
  have HA := Lib.hid hA
  have HW := Lib.hid hw
  have HWs := Lib.hid hs
  have HWb := Lib.hid hb
  clear hA hw hs hb
  obtain ⟨w0, hw0⟩ : ∃ w0, w0 = w.alloc (.cells #[.int .i64 s.1, .int .i64 s.2] 24) := ⟨_, rfl⟩
  have HB0 : Hid (Below w.heap.size w w0) := Lib.hid (by rw [hw0]; exact (Below.refl _ _).alloc (Nat.le_refl _) _)
  have HY0 : Hid (w0.heap[w.heap.size]? = some (.cells #[.int .i64 s.1, .int .i64 s.2] 24 (0, 0))) := Lib.hid (by rw [hw0]; exact heap_alloc_new w _)
  have hs0 := lt_size HY0.out
  go_enter Try.func3, Try.ntmps3
  go_wp2_with fail
  rw [← hw0]
  clear hw0
  refine (newT_any w0).mono ?_
  rintro e w1 ⟨p, rfl, h1, hb1⟩
  have H1 := Lib.hid h1
  have HB1 := Lib.hid hb1
  have HA0 := Lib.hid (HA.out.below HB0.out)
  clear h1 hb1
  go_wp2_with fail
  go_loopw [8, 33] (fun v8 v33 wr => ∃ j : Nat, j ≤ l.length ∧ v33 = .int .i64 j ∧ FOwn wr w0.heap.size v8 (dosT (l.take j)) ∧ Tab wr p (fun k => k < w0.heap.size ∨ v8.ownBlock = some k) (dosT (l.take j)) ∧ Below w0.heap.size w0 wr) (fun _ v33 _ => l.length - (intOf v33).toNat)
  case atStart => exact ⟨0, Nat.zero_le _, rfl, fown_nil _ _, H1.out.less fun k hk => hk.elim id (fun h => by cases h), HB1.out⟩
  case round =>
    obtain ⟨j, hj, rfl, hO, hT, hB⟩ := hrel
    have HT := Lib.hid hT
    have HO := Lib.hid hO
    have HB := Lib.hid hB
    have hs := hB.size
    clear hT hO hB
    by_cases hj1 : j < l.length
    · obtain ⟨B, o, rfl, hBs, hcs⟩ := (HA0.out.below HB.out) (by omega)
      obtain ⟨k0, k1, k2, k3, k4⟩ := hcs j hj1
      have HD := Lib.hid (dos_take hj1)
      have hlen : (dosT (l.take j)).length ≤ 150 := Nat.le_trans (dos_len _) (by simp; omega)
      have HC := Lib.hid (HW.out _ (List.getElem_mem hj1))
      clear hcs
      generalize dosT (l.take j) = T at *
      generalize l[j] = q at *
      obtain ⟨w2, hw2⟩ : ∃ w2, w2 = wr.alloc (.cells #[.int .i64 q.1, .int .i64 q.2.1.1, .int .i64 q.2.1.2, .int .i64 q.2.2.1, .int .i64 q.2.2.2] 32) := ⟨_, rfl⟩
      have HBx : Hid (Below wr.heap.size wr w2) := Lib.hid (by rw [hw2]; exact (Below.refl _ _).alloc (Nat.le_refl _) _)
      have HY2 : Hid (w2.heap[wr.heap.size]? = some (.cells #[.int .i64 q.1, .int .i64 q.2.1.1, .int .i64 q.2.1.2, .int .i64 q.2.2.1, .int .i64 q.2.2.2] 32 (0, 0))) := Lib.hid (by rw [hw2]; exact heap_alloc_new wr _)
      have hs2 := lt_size HY2.out
      obtain ⟨pv, cv, rfl, -⟩ := own_slice HO.out
      have HT2 : Hid (Tab w2 p (fun k => k < w0.heap.size ∨ (Value.slice pv T.length cv).ownBlock = some k ∨ k = wr.heap.size) T) := Lib.hid ((HT.out.more HBx.out).less fun k hk => by
        rcases hk with h | h | h
        · exact .inl (.inl h)
        · exact .inl (.inr h)
        · exact .inr ⟨by omega, by omega⟩)
      have HO2 := Lib.hid (fown_keep HO.out HBx.out)
      have HF2 := Lib.hid HO2.out.lies.1
      have HB2 := Lib.hid (HB.out.trans (HBx.out.mono hs))
      obtain ⟨wo, rfl⟩ : ∃ wo, wo = wr := ⟨_, rfl⟩
      go_wp2_with fail
      rw [← hw2]
      clear hw2
      go_loopw [11, 12, 39] (fun v11 v12 v39 wx => ∃ i : Nat, i ≤ T.length ∧ v39 = .int .i64 i ∧ (∃ m : Int, v11 = .int .i64 m ∧ Mine T q.2.1 i m) ∧ (∃ m : Int, v12 = .int .i64 m ∧ Other T q.2.1 q.2.2 i m) ∧ Below w2.heap.size w2 wx) (fun _ _ v39 _ => T.length - (intOf v39).toNat)
      case atStart => exact ⟨0, Nat.zero_le _, rfl, ⟨_, rfl, mine_start _ _⟩, ⟨_, rfl, other_start _ _ _⟩, Below.refl _ _⟩
      case round =>
        obtain ⟨i, hi, rfl, ⟨m1, rfl, hm1⟩, ⟨m2, rfl, hm2⟩, hBi⟩ := hrel
        have HM1 := Lib.hid hm1
        have HM2 := Lib.hid hm2
        have HBi := Lib.hid hBi
        have hsi := hBi.size
        clear hm1 hm2 hBi
        by_cases hi1 : i < T.length
        · obtain ⟨Bf, of, rfl, hBf, hcf⟩ := (HF2.out.below HBi.out) (by omega)
          obtain ⟨f0, f1, f2, f3⟩ := hcf i hi1
          clear hcf
          have HN1 := Lib.hid fun e => mine_no HM1.out hi1 e
          have HN2 := Lib.hid fun e => other_no HM2.out hi1 e
          have HY1 := Lib.hid fun e => mine_yes (r := q.2.1) hi1 e
          have HY3 := Lib.hid fun e e2 => other_yes (r := q.2.1) (s := q.2.2) hi1 e e2
          generalize T[i] = f at *
          obtain ⟨w3, hw3⟩ : ∃ w3, w3 = wr.alloc (.cells #[.int .i64 f.1.1, .int .i64 f.1.2, .int .i64 f.2.1, .int .i64 f.2.2] 34) := ⟨_, rfl⟩
          have HB3 : Hid (Below wr.heap.size wr w3) := Lib.hid (by rw [hw3]; exact (Below.refl _ _).alloc (Nat.le_refl _) _)
          have HY4 : Hid (w3.heap[wr.heap.size]? = some (.cells #[.int .i64 f.1.1, .int .i64 f.1.2, .int .i64 f.2.1, .int .i64 f.2.2] 34 (0, 0))) := Lib.hid (by rw [hw3]; exact heap_alloc_new wr _)
          have HY5 := Lib.hid ((HB3.out.block _ (Nat.lt_of_lt_of_le hs2 hsi)).trans ((HBi.out.block _ hs2).trans HY2.out))
          obtain ⟨a0, a1, a2, a3⟩ := cells4p HY4.out
          obtain ⟨c0, c1, c2, c3, c4⟩ := cells5p HY5.out
          have hB4 := HBi.out.trans (HB3.out.mono hsi)
          have HB4 := Lib.hid hB4
          clear hB4
          have e1 := eql_ref f.1 q.2.1
          have e2 := eql_spot f.2 q.2.2
          have e3 := nel_ref f.1 q.2.1
          --DONE{
          by_cases hr : f.1 = q.2.1
          · by_cases hq : f.2 = q.2.2
            · have d1 : decide (f.1 = q.2.1) = true := by simpa using hr
              have d2 : decide (f.2 = q.2.2) = true := by simpa using hq
              rw [d1] at e1 e3
              rw [d2] at e2
              have HR := Lib.hid hr
              have HQ := Lib.hid hq
              clear hr hq d1 d2
              subst hw3
              go_wp2_with fail
              go_roundw
              case rel => exact ⟨i + 1, by omega, by go_num, ⟨_, rfl, HY1.out HR.out⟩, ⟨_, rfl, HN2.out (fun _ => HR.out)⟩, HB4.out⟩
              case measure => simp [intOf]; omega
            · have d1 : decide (f.1 = q.2.1) = true := by simpa using hr
              have d2 : decide (f.2 = q.2.2) = false := by simpa using hq
              rw [d1] at e1 e3
              rw [d2] at e2
              have HR := Lib.hid hr
              have HQ := Lib.hid hq
              clear hr hq d1 d2
              subst hw3
              go_wp2_with fail
              go_roundw
              case rel => exact ⟨i + 1, by omega, by go_num, ⟨_, rfl, HY1.out HR.out⟩, ⟨_, rfl, HN2.out (fun _ => HR.out)⟩, HB4.out⟩
              case measure => simp [intOf]; omega
          · by_cases hq : f.2 = q.2.2
            · have d1 : decide (f.1 = q.2.1) = false := by simpa using hr
              have d2 : decide (f.2 = q.2.2) = true := by simpa using hq
              rw [d1] at e1 e3
              rw [d2] at e2
              have HR := Lib.hid hr
              have HQ := Lib.hid hq
              clear hr hq d1 d2
              subst hw3
              go_wp2_with fail
              go_roundw
              case rel => exact ⟨i + 1, by omega, by go_num, ⟨_, rfl, HN1.out HR.out⟩, ⟨_, rfl, HY3.out HQ.out HR.out⟩, HB4.out⟩
              case measure => simp [intOf]; omega
            · have d1 : decide (f.1 = q.2.1) = false := by simpa using hr
              have d2 : decide (f.2 = q.2.2) = false := by simpa using hq
              rw [d1] at e1 e3
              rw [d2] at e2
              have HR := Lib.hid hr
              have HQ := Lib.hid hq
              clear hr hq d1 d2
              subst hw3
              go_wp2_with fail
              go_roundw
              case rel => exact ⟨i + 1, by omega, by go_num, ⟨_, rfl, HN1.out HR.out⟩, ⟨_, rfl, HN2.out (fun e => absurd e HQ.out)⟩, HB4.out⟩
              case measure => simp [intOf]; omega
          --}DONE
        · obtain rfl : i = T.length := by omega
          obtain ⟨w3, rfl⟩ : ∃ w3, w3 = wr := ⟨_, rfl⟩
          have HY3 := Lib.hid ((HBi.out.block _ hs2).trans HY2.out)
          have HT3 := Lib.hid (HT2.out.below HBi.out)
          have HO3 := Lib.hid (fown_keep HO2.out HBi.out)
          have HB3 := Lib.hid (HB2.out.trans (HBi.out.mono (Nat.le_trans hs HBx.out.size)))
          obtain ⟨c0, c1, c2, c3, c4⟩ := cells5p HY3.out
          have HCan := Lib.hid (can_eq HM2.out)
          have hs3 : wo.heap.size < w3.heap.size := lt_size HY3.out
          go_upto_if 66 with fail
          go_cut [8] (fun v8 wx => FOwn wx w0.heap.size v8 (doT T q) ∧ Tab wx p (fun k => k < w0.heap.size ∨ v8.ownBlock = some k ∨ k = wo.heap.size) (doT T q) ∧ Below w0.heap.size w0 wx ∧ wx.heap[wo.heap.size]? = some (.cells #[.int .i64 q.1, .int .i64 q.2.1.1, .int .i64 q.2.1.2, .int .i64 q.2.2.1, .int .i64 q.2.2.2] 32 (0, 0)))
          case first =>
            as_aux_lemma =>
              --DONE{
              by_cases hdo : q.1 = 0
              · have hd : (q.1 == 0) = true := by simpa using hdo
                have hdT : doT T q = cutT T q.2.1 := if_pos hdo
                have HC1 := Lib.hid (cutT_any q.2.1 HT3.out (by omega) HC.out.2.1)
                rcases mine_cases HM1.out with rfl | ⟨hm0, hm1⟩
                · have hr := mine_none HM1.out
                  rw [hr] at HC1
                  have hc := cut_same hr
                  rw [hc] at HC1 hdT
                  clear hr hc
                  go_wp2_with fail
                  refine HC1.out.mono ?_
                  rintro e w4 ⟨rfl, h4, hs4⟩
                  have HT4 := Lib.hid h4
                  have HO4 := Lib.hid (fown_safe HO3.out hs4 (fun g e => .inr (.inl e)))
                  have HY4 := Lib.hid ((Safe.block hs4 hs3 (.inr (.inr rfl))).trans HY3.out)
                  have HB4 := Lib.hid (HB3.out.trans (Safe.below hs4 (fun k hk => .inl hk) HB3.out.size))
                  clear h4 hs4
                  go_wp2_with fail
                  go_meet
                  case rel => rw [hdT]; exact ⟨HO4.out, HT4.out, HB4.out, HY4.out⟩
                · obtain ⟨k, hk, rfl, hke, hr⟩ := mine_some HM1.out hm0
                  rw [hr] at HC1
                  clear hr
                  go_wp2_with fail
                  refine HC1.out.mono ?_
                  rintro e w4 ⟨rfl, h4, hs4⟩
                  have HT4 := Lib.hid h4
                  have HO4 := Lib.hid (fown_safe HO3.out hs4 (fun g e => .inr (.inl e)))
                  have HY4 := Lib.hid ((Safe.block hs4 hs3 (.inr (.inr rfl))).trans HY3.out)
                  have HB4 := Lib.hid (HB3.out.trans (Safe.below hs4 (fun k hk => .inl hk) HB3.out.size))
                  clear h4 hs4
                  obtain ⟨Bf, of, rfl, -, -⟩ := HO4.out.lies.1 (by omega)
                  have hcv := HO4.out.lies.2.2.2
                  obtain ⟨k1, hk1⟩ : ∃ k1, k1 = k + 1 := ⟨_, rfl⟩
                  have hk2 : k1 ≤ T.length := by omega
                  have hw1 : IntKind.i64.wrap ((k : Int) + 1) = (k1 : Int) := by rw [IntKind.wrap_i64]; omega
                  have hcut := cut_at HT3.out.wf hk hke
                  rw [← hk1] at hcut
                  have hkk : k ≤ k1 := by omega
                  have HCut := Lib.hid hcut
                  clear hk1 hcut
                  by_cases hck : k1 = cv
                  · subst hck
                    have hkc := hkk
                    go_upto_region 21 with fail
                    have HBa : Hid (Below w4.heap.size w4 (w4.alloc (.cells #[] 34)).drew) := Lib.hid ((Below.refl _ _).alloc (Nat.le_refl _) _).drew
                    have HOa : Hid (FOwn (w4.alloc (.cells #[] 34)).drew w4.heap.size (.slice (some ⟨w4.heap.size, 0, none⟩) 0 0) []) := Lib.hid (World.ownsRow.drew (fown_lit w4 w4.heap.size (Nat.le_refl _)))
                    have HTK := Lib.hid (HO4.out.lies.1.take k)
                    have HDK : Hid (FLies w4 (some ⟨Bf, of, none⟩) (T.drop k1)) := Lib.hid (fun h => by simp at h; omega)
                    have hlt : (T.take k).length = k := by simp; omega
                    have hld : (T.drop k1).length = 0 := by simp; omega
                    have hEnd := Lib.hid (fun (wz : World) (v : Value) (h1 : FOwn wz w4.heap.size v (T.take k ++ T.drop k1)) (h2 : Below w4.heap.size w4 wz) => cut_end (T' := cutT T q.2.1) HT4.out HB4.out HY4.out h1 h2 HCut.out HB4.out.size)
                    generalize T.take k = T1 at *
                    generalize T.drop k1 = T2 at *
                    go_region_law (first
                      | (refine step_fapp (by rfl) (.tmp 76) (.tmp 79) (by rfl) w4.heap.size (.slice (some ⟨w4.heap.size, 0, none⟩) 0 0) 0 [] (k) (T1) (some ⟨Bf, of, none⟩) (k1) (by rfl) (by first | rfl | (go_simp; done) | (go_simp; omega)) rfl hlt HOa.out (HTK.out.below HBa.out) (by intro h; cases h) (by omega) (by first | (simp; done) | (simp; omega)) ?_; intro q3 cap3 w7 hown hgr; have HO7 : Hid (FOwn w7 w4.heap.size (.slice q3 (k) cap3) (T1)) := Lib.hid (by simpa using hown); have HB7 := Lib.hid (HOa.out.grown HBa.out hgr (by first | (simp; done) | (simp; omega))); have hs8 := HB7.out.size; have HD7 := Lib.hid (HDK.out.below HB7.out); clear hown hgr)
                      | (refine step_fapp (by rfl) (.tmp 80) (.tmp 84) (by rfl) w4.heap.size (.slice q3 (k) cap3) (k) (T1) (0) (T2) (some ⟨Bf, of, none⟩) (0) (by rfl) (by first | rfl | (go_simp; done) | (go_simp; intro h; omega)) hlt hld HO7.out HD7.out (by intro h; cases h) (by omega) (by first | omega | (simp; omega)) ?_; intro q4 cap4 w9 hown hgr; have HO9 := Lib.hid hown; have HB9 := Lib.hid (HO7.out.grown HB7.out hgr (by first | omega | (simp; omega))); clear hown hgr))
                    all_goals
                      go_wp2_with fail
                      go_meet
                      case rel =>
                        have hz := hEnd.out _ _ HO9.out HB9.out
                        rw [hdT]
                        first | exact hz | (simpa using hz)
                  · have hkc : k ≤ cv := by omega
                    go_upto_region 21 with fail
                    have HBa : Hid (Below w4.heap.size w4 (w4.alloc (.cells #[] 34)).drew) := Lib.hid ((Below.refl _ _).alloc (Nat.le_refl _) _).drew
                    have HOa : Hid (FOwn (w4.alloc (.cells #[] 34)).drew w4.heap.size (.slice (some ⟨w4.heap.size, 0, none⟩) 0 0) []) := Lib.hid (World.ownsRow.drew (fown_lit w4 w4.heap.size (Nat.le_refl _)))
                    have HTK := Lib.hid (HO4.out.lies.1.take k)
                    have HDK := Lib.hid (HO4.out.lies.1.drop k1)
                    have hlt : (T.take k).length = k := by simp; omega
                    have hld : (T.drop k1).length = T.length - k1 := by simp
                    have hEnd := Lib.hid (fun (wz : World) (v : Value) (h1 : FOwn wz w4.heap.size v (T.take k ++ T.drop k1)) (h2 : Below w4.heap.size w4 wz) => cut_end (T' := cutT T q.2.1) HT4.out HB4.out HY4.out h1 h2 HCut.out HB4.out.size)
                    generalize T.take k = T1 at *
                    generalize T.drop k1 = T2 at *
                    go_region_law (first
                      | (refine step_fapp (by rfl) (.tmp 76) (.tmp 79) (by rfl) w4.heap.size (.slice (some ⟨w4.heap.size, 0, none⟩) 0 0) 0 [] (k) (T1) (some ⟨Bf, of, none⟩) (cv) (by rfl) (by first | rfl | (go_simp; done) | (go_simp; omega)) rfl hlt HOa.out (HTK.out.below HBa.out) (by intro h; cases h) (by omega) (by first | (simp; done) | (simp; omega)) ?_; intro q3 cap3 w7 hown hgr; have HO7 : Hid (FOwn w7 w4.heap.size (.slice q3 (k) cap3) (T1)) := Lib.hid (by simpa using hown); have HB7 := Lib.hid (HOa.out.grown HBa.out hgr (by first | (simp; done) | (simp; omega))); have hs8 := HB7.out.size; have HD7 := Lib.hid (HDK.out.below HB7.out); clear hown hgr)
                      | (refine step_fapp (by rfl) (.tmp 80) (.tmp 84) (by rfl) w4.heap.size (.slice q3 (k) cap3) (k) (T1) (T.length - k1) (T2) (some ⟨Bf, of + k1 * 4, none⟩) (cv - k1) (by rfl) (by first | rfl | (go_simp; done) | (go_simp; intro h; omega)) hlt hld HO7.out HD7.out (by intro h; cases h) (by omega) (by first | omega | (simp; omega)) ?_; intro q4 cap4 w9 hown hgr; have HO9 := Lib.hid hown; have HB9 := Lib.hid (HO7.out.grown HB7.out hgr (by first | omega | (simp; omega))); clear hown hgr))
                    all_goals
                      go_wp2_with fail
                      go_meet
                      case rel =>
                        have hz := hEnd.out _ _ HO9.out HB9.out
                        rw [hdT]
                        first | exact hz | (simpa using hz)
              · have hd : (q.1 == 0) = false := by simpa using hdo
                have hdT : doT T q = putT T q.2.1 q.2.2 := if_neg hdo
                have HP1 := Lib.hid (putT_any q.2.1 q.2.2 HT3.out (by omega) HC.out.2.1 HC.out.2.2)
                by_cases hcan : canT T q.2.1 q.2.2 = true
                · have hcan2 := hcan
                  rw [HCan.out] at hcan2
                  simp only [Bool.and_eq_true, decide_eq_true_eq] at hcan2
                  obtain ⟨⟨hm2, hb0⟩, hp0⟩ := hcan2
                  rw [hcan] at HP1
                  have HPU := Lib.hid hcan
                  clear hcan
                  rcases mine_cases HM1.out with rfl | ⟨hm0, hm1⟩
                  · have hr := mine_none HM1.out
                    have hp := put_new HPU.out hr
                    rw [hp] at HP1 hdT
                    clear hr hp
                    go_wp2_with fail
                    refine HP1.out.mono ?_
                    rintro e w4 ⟨rfl, h4, hs4⟩
                    have HT4 := Lib.hid h4
                    have HO4 := Lib.hid (fown_safe HO3.out hs4 (fun g e => .inr (.inl e)))
                    have HY4 := Lib.hid ((Safe.block hs4 hs3 (.inr (.inr rfl))).trans HY3.out)
                    have HB4 := Lib.hid (HB3.out.trans (Safe.below hs4 (fun k hk => .inl hk) HB3.out.size))
                    clear h4 hs4
                    obtain ⟨y0, y1, y2, y3, y4⟩ := cells5p HY4.out
                    have HNB := Lib.hid (fun (e : (Value.slice pv T.length cv).ownBlock = some wo.heap.size) => Nat.lt_irrefl _ (World.ownsRow.lt HO.out _ e).2)
                    have HBA := Lib.hid ((Below.refl w4.heap.size w4).alloc (Nat.le_refl _) (.cells #[.int .i64 q.2.1.1, .int .i64 q.2.1.2, .int .i64 q.2.2.1, .int .i64 q.2.2.2] 34))
                    have HOA := Lib.hid (fown_keep HO4.out HBA.out)
                    have HLA : Hid (FLies (w4.alloc (.cells #[.int .i64 q.2.1.1, .int .i64 q.2.1.2, .int .i64 q.2.2.1, .int .i64 q.2.2.2] 34)) (some ⟨w4.heap.size, 0, none⟩) [(q.2.1, q.2.2)]) := Lib.hid (fown_one_at w4 (q.2.1, q.2.2) rfl)
                    go_wp2_with (at_builtin; refine wpList_fapp_at rfl _ _ rfl w0.heap.size (.slice pv T.length cv) T [(q.2.1, q.2.2)] _ 1 rfl rfl HOA.out HLA.out (by simp; omega) (by have := HB4.out.size; simp; omega) ?_; intro q7 cap7 w7 h7 hg7 hat7; have H7 := Lib.hid (put_end HT4.out HB4.out HY4.out HBA.out HOA.out hg7 (by simpa using h7) (by simpa using hat7) HNB.out HB4.out.size); clear h7 hg7 hat7)
                    go_meet
                    case rel => rw [hdT]; simpa using H7.out
                  · obtain ⟨k, hk, rfl, hke, hr⟩ := mine_some HM1.out hm0
                    have hp := put_at HT3.out.wf HPU.out hk hke
                    rw [hp] at HP1 hdT
                    clear hr hp
                    go_wp2_with fail
                    refine HP1.out.mono ?_
                    rintro e w4 ⟨rfl, h4, hs4⟩
                    have HT4 := Lib.hid h4
                    have HO4 := Lib.hid (fown_safe HO3.out hs4 (fun g e => .inr (.inl e)))
                    have HY4 := Lib.hid ((Safe.block hs4 hs3 (.inr (.inr rfl))).trans HY3.out)
                    have HB4 := Lib.hid (HB3.out.trans (Safe.below hs4 (fun k hk => .inl hk) HB3.out.size))
                    clear h4 hs4
                    obtain ⟨y0, y1, y2, y3, y4⟩ := cells5p HY4.out
                    have HNB := Lib.hid (fun (e : (Value.slice pv T.length cv).ownBlock = some wo.heap.size) => Nat.lt_irrefl _ (World.ownsRow.lt HO.out _ e).2)
                    obtain ⟨g, hpv, ⟨z0, hz0⟩, ⟨z1, hz1⟩, hfz, ⟨z2, hz2⟩, hfz2, hput⟩ := fown_put HO4.out hk q.2.2
                    have H7 := Lib.hid (set_end (T' := T.set k (q.2.1, q.2.2)) HT4.out HB4.out HY4.out hpv (by rw [← hke]; exact hput) HNB.out)
                    have hf0 := hfz (k * 4 + 2)
                    have hf1 := hfz (k * 4 + 2 + 1)
                    have hf2 := hfz2 (k * 4 + 2 + 1)
                    clear hfz hfz2 hput HNB
                    subst hpv
                    go_wp2_with fail
                    go_meet
                    case rel => rw [hdT]; simpa using H7.out
                · have hcn : canT T q.2.1 q.2.2 = false := by simpa using hcan
                  have hp := put_no hcn
                  rw [hcn, hp] at HP1
                  rw [hp] at hdT
                  rw [HCan.out] at hcn
                  clear hcan hp
                  have hway : (m2 < 0 ∧ 0 ≤ q.2.2.1 ∧ q.2.2.2 < 0) ∨ (m2 < 0 ∧ q.2.2.1 < 0) ∨ 0 ≤ m2 := by
                    by_cases g1 : m2 < 0
                    · by_cases g2 : 0 ≤ q.2.2.1
                      · by_cases g3 : 0 ≤ q.2.2.2
                        · simp [g1, g2, g3] at hcn
                        · exact .inl ⟨g1, g2, by omega⟩
                      · exact .inr (.inl ⟨g1, by omega⟩)
                    · exact .inr (.inr (by omega))
                  clear hcn
                  rcases hway with ⟨g1, g2, g3⟩ | ⟨g1, g2⟩ | g1
                  all_goals
                    go_wp2_with fail
                    refine HP1.out.mono ?_
                    rintro e w4 ⟨rfl, h4, hs4⟩
                    have HT4 := Lib.hid h4
                    have HO4 := Lib.hid (fown_safe HO3.out hs4 (fun g e => .inr (.inl e)))
                    have HY4 := Lib.hid ((Safe.block hs4 hs3 (.inr (.inr rfl))).trans HY3.out)
                    have HB4 := Lib.hid (HB3.out.trans (Safe.below hs4 (fun k hk => .inl hk) HB3.out.size))
                    clear h4 hs4
                    go_wp2_with fail
                    go_meet
                    case rel => rw [hdT]; exact ⟨HO4.out, HT4.out, HB4.out, HY4.out⟩
              --}DONE
          case rest =>
            obtain ⟨hO, hT, hB, hY⟩ := hcut
            clear HT2 HO2 HF2 HB2 HBi HM1 HM2 HY3 HT3 HO3 HB3 HCan HBx HT HO HB
            have HO4 := Lib.hid hO
            have HT4 := Lib.hid hT
            have HB4 := Lib.hid hB
            have HY4 := Lib.hid hY
            have hl5 : (doT T q).length ≤ 151 := by have := do_len T q; omega
            clear hO hT hB hY c0 c1 c2 c3 c4
            obtain ⟨pv5, cv5, rfl, -⟩ := own_slice HO4.out
            generalize doT T q = T5 at *
            have HWT := Lib.hid HT4.out.wf
            obtain ⟨y0, y1, y2, y3, y4⟩ := cells5p HY4.out
            have hs4 := HB4.out.size
            obtain ⟨ax, hax⟩ : ∃ ax, (atT T5 q.2.1).getD (0, 0) = ax := ⟨_, rfl⟩
            obtain ⟨ab, hab⟩ : ∃ ab, (atT T5 q.2.1).isSome = ab := ⟨_, rfl⟩
            have HAt := Lib.hid (atT_any q.2.1 HT4.out (by omega) HC.out.2.1)
            rw [hax, hab] at HAt
            have HAX := Lib.hid (And.intro hax hab)
            clear hax hab
            go_wp2_with (go_at_call 12; refine HAt.out.mono ?_; rintro e w5 ⟨rfl, hb5⟩; have HB5 := Lib.hid hb5; have hY5 := (hb5.block _ (lt_size HY4.out)).trans HY4.out; obtain ⟨y0, y1, y2, y3, y4⟩ := cells5p hY5; have hs5 : wo.heap.size < w5.heap.size := lt_size hY5; have HY5 := Lib.hid hY5; clear hb5 hY5)
            obtain ⟨g5, hg5⟩ : ∃ g5, w5.heap.size = g5 := ⟨_, rfl⟩
            obtain ⟨w6, hw6⟩ : ∃ w6, w5.alloc (.cells #[.int .i64 ax.1, .int .i64 ax.2] 24) = w6 := ⟨_, rfl⟩
            have HB6 : Hid (Below wc.heap.size wc w6) := Lib.hid (by rw [← hw6]; exact HB5.out.alloc HB5.out.size _)
            have HX6 : Hid (w6.heap[g5]? = some (.cells #[.int .i64 ax.1, .int .i64 ax.2] 24 (0, 0))) := Lib.hid (by rw [← hw6, ← hg5]; exact heap_alloc_new w5 _)
            have HG5 := Lib.hid (show wc.heap.size ≤ g5 from by rw [← hg5]; exact HB5.out.size)
            have HY6 : Hid (w6.heap[wo.heap.size]? = _) := Lib.hid ((HB6.out.block _ (lt_size HY4.out)).trans HY4.out)
            rw [hg5, hw6]
            clear hw6 hg5 hs5 y0 y1 y2 y3 y4 HY5 HB5 HAt
            obtain ⟨bx, hbx⟩ : ∃ bx, (onT T5 q.2.2).getD (0, 0) = bx := ⟨_, rfl⟩
            obtain ⟨bb, hbb⟩ : ∃ bb, (onT T5 q.2.2).isSome = bb := ⟨_, rfl⟩
            have HOn := Lib.hid (onT_any q.2.2 (HT4.out.below HB6.out) (by omega) HC.out.2.2)
            rw [hbx, hbb] at HOn
            have HBX := Lib.hid (And.intro hbx hbb)
            clear hbx hbb
            refine HOn.out.mono ?_
            rintro e w7 ⟨rfl, hb7⟩
            have HB7 := Lib.hid (HB6.out.trans (hb7.mono HB6.out.size))
            have hs7 : g5 < w7.heap.size := Nat.lt_of_lt_of_le (lt_size HX6.out) hb7.size
            have HX7 := Lib.hid ((hb7.block _ (lt_size HX6.out)).trans HX6.out)
            clear hb7 HX6
            go_wp2_with fail
            obtain ⟨gy, hgy⟩ : ∃ gy, w7.heap.size = gy := ⟨_, rfl⟩
            obtain ⟨w8, hw8⟩ : ∃ w8, ((w7.alloc (.cells #[.int .i64 bx.1, .int .i64 bx.2] 30)).alloc (.cells #[.int .i64 0, .int .i64 0] 24)).alloc (.cells #[.int .i64 0, .int .i64 0] 30) = w8 := ⟨_, rfl⟩
            have HL8 : Hid (Lk w7 w8 gy bx none none) := Lib.hid (by
              rw [← hw8, ← hgy]
              exact ⟨(heap_alloc_old _ _ (by simp; omega)).trans ((heap_alloc_old _ _ (by simp)).trans (heap_alloc_new w7 _)), (heap_alloc_old _ _ (by simp)).trans (by have := heap_alloc_new (w7.alloc (.cells #[.int .i64 bx.1, .int .i64 bx.2] 30)) (.cells #[.int .i64 0, .int .i64 0] 24); simpa using this), (by have := heap_alloc_new ((w7.alloc (.cells #[.int .i64 bx.1, .int .i64 bx.2] 30)).alloc (.cells #[.int .i64 0, .int .i64 0] 24)) (.cells #[.int .i64 0, .int .i64 0] 30); simpa using this), (((Below.refl _ _).alloc (Nat.le_refl _) _).alloc (by simp) _).alloc (by simp; omega) _, Nat.le_refl _⟩)
            have HF7 := Lib.hid (HO4.out.lies.1.below HB7.out)
            have HY7 := Lib.hid ((HB7.out.block _ (lt_size HY4.out)).trans HY4.out)
            have hg7 : g5 < gy := by rw [← hgy]; exact hs7
            rw [hgy, hw8]
            clear hw8 hgy hs7
            go_loopw [21, 23, 146] (fun v21 v23 v146 wx => ∃ i : Nat, i ≤ T5.length ∧ v146 = .int .i64 i ∧ v21 = .bool (atT (T5.take i) q.2.1).isSome ∧ v23 = .bool (onT (T5.take i) q.2.2).isSome ∧ Lk w7 wx gy bx (atT (T5.take i) q.2.1) (onT (T5.take i) q.2.2)) (fun _ _ v146 _ => T5.length - (intOf v146).toNat)
            case atStart => exact ⟨0, Nat.zero_le _, rfl, rfl, rfl, HL8.out⟩
            case round =>
              obtain ⟨i, hi, rfl, rfl, rfl, hL⟩ := hrel
              have HL := Lib.hid hL
              have hwg := hL.bw.size
              clear hL
              by_cases hi1 : i < T5.length
              · obtain ⟨Bf, of, rfl, hBf, hcf⟩ := (HF7.out.below HL.out.bw) (by omega)
                obtain ⟨f0, f1, f2, f3⟩ := hcf i hi1
                clear hcf
                have HTA := Lib.hid (at_take HWT.out q.2.1 hi1)
                have HTB := Lib.hid (on_take HWT.out q.2.2 hi1)
                generalize T5[i] = f at *
                generalize atT (T5.take i) q.2.1 = at0 at *
                generalize onT (T5.take i) q.2.2 = on0 at *
                obtain ⟨w3, hw3⟩ : ∃ w3, w3 = wr.alloc (.cells #[.int .i64 f.1.1, .int .i64 f.1.2, .int .i64 f.2.1, .int .i64 f.2.2] 34) := ⟨_, rfl⟩
                have HYF : Hid (w3.heap[wr.heap.size]? = some (.cells #[.int .i64 f.1.1, .int .i64 f.1.2, .int .i64 f.2.1, .int .i64 f.2.2] 34 (0, 0))) := Lib.hid (by rw [hw3]; exact heap_alloc_new wr _)
                have HL3 : Hid (Lk w7 w3 gy bx at0 on0) := Lib.hid (by rw [hw3]; exact HL.out.alloc _)
                have HYC := (HL3.out.bw.block _ (lt_size HY7.out)).trans HY7.out
                have hgs : gy + 1 + 1 < wr.heap.size := lt_size HL.out.b
                obtain ⟨s0, s1, s2, s3⟩ := cells2f HL.out.b
                obtain ⟨a0, a1, a2, a3⟩ := cells4p HYF.out
                obtain ⟨c0, c1, c2, c3, c4⟩ := cells5p HYC
                obtain ⟨p0, p1, p2, p3⟩ := cells2f HL3.out.a
                obtain ⟨r0, r1, r2, r3⟩ := cells2f HL3.out.b
                clear HYC
                have e1 := eql_ref f.1 q.2.1
                have e2 := eql_spot f.2 q.2.2
                --DONE{
                by_cases hr : f.1 = q.2.1
                · by_cases hq : f.2 = q.2.2
                  · have d1 : decide (f.1 = q.2.1) = true := by simpa using hr
                    have d2 : decide (f.2 = q.2.2) = true := by simpa using hq
                    rw [d1] at e1
                    rw [d2] at e2
                    rw [if_pos hr] at HTA
                    rw [if_pos hq] at HTB
                    clear hr hq d1 d2
                    subst hw3
                    go_wp2_with fail
                    go_roundw
                    case rel => exact ⟨i + 1, by omega, by go_num, by rw [HTA.out] <;> rfl, by rw [HTB.out] <;> rfl, by rw [HTA.out, HTB.out]; exact ((HL.out.alloc _).setA f.2).setB f.1⟩
                    case measure => simp [intOf]; omega
                  · have d1 : decide (f.1 = q.2.1) = true := by simpa using hr
                    have d2 : decide (f.2 = q.2.2) = false := by simpa using hq
                    rw [d1] at e1
                    rw [d2] at e2
                    rw [if_pos hr] at HTA
                    rw [if_neg hq] at HTB
                    clear hr hq d1 d2
                    subst hw3
                    go_wp2_with fail
                    go_roundw
                    case rel => exact ⟨i + 1, by omega, by go_num, by rw [HTA.out] <;> rfl, by rw [HTB.out] <;> rfl, by rw [HTA.out, HTB.out]; exact (HL.out.alloc _).setA f.2⟩
                    case measure => simp [intOf]; omega
                · by_cases hq : f.2 = q.2.2
                  · have d1 : decide (f.1 = q.2.1) = false := by simpa using hr
                    have d2 : decide (f.2 = q.2.2) = true := by simpa using hq
                    rw [d1] at e1
                    rw [d2] at e2
                    rw [if_neg hr] at HTA
                    rw [if_pos hq] at HTB
                    clear hr hq d1 d2
                    subst hw3
                    go_wp2_with fail
                    go_roundw
                    case rel => exact ⟨i + 1, by omega, by go_num, by rw [HTA.out] <;> rfl, by rw [HTB.out] <;> rfl, by rw [HTA.out, HTB.out]; exact (HL.out.setB f.1).alloc _⟩
                    case measure => simp [intOf]; omega
                  · have d1 : decide (f.1 = q.2.1) = false := by simpa using hr
                    have d2 : decide (f.2 = q.2.2) = false := by simpa using hq
                    rw [d1] at e1
                    rw [d2] at e2
                    rw [if_neg hr] at HTA
                    rw [if_neg hq] at HTB
                    clear hr hq d1 d2
                    subst hw3
                    go_wp2_with fail
                    go_roundw
                    case rel => exact ⟨i + 1, by omega, by go_num, by rw [HTA.out] <;> rfl, by rw [HTB.out] <;> rfl, by rw [HTA.out, HTB.out]; exact HL.out.alloc _⟩
                    case measure => simp [intOf]; omega
                --}DONE
              · obtain rfl : i = T5.length := by omega
                rw [List.take_length] at HL ⊢
                obtain ⟨w9, rfl⟩ : ∃ w9, w9 = wr := ⟨_, rfl⟩
                have ha := HL.out.a
                have hbb := HL.out.b
                rw [HAX.out.1] at ha
                rw [HBX.out.1] at hbb
                rw [HAX.out.2, HBX.out.2]
                have hx := (HL.out.bw.block _ (lt_size HX7.out)).trans HX7.out
                obtain ⟨x0, x1, -, -⟩ := cells2f hx
                obtain ⟨y0, y1, -, -⟩ := cells2f HL.out.y
                obtain ⟨z0, z1, -, -⟩ := cells2f ha
                obtain ⟨v0, v1, -, -⟩ := cells2f hbb
                clear hx ha hbb
                have HB9 := Lib.hid (HB7.out.trans (HL.out.bw.mono HB7.out.size))
                have HLen := Lib.hid (lenT_any (HT4.out.below HB9.out) (by omega))
                have e1 := nel_spot ax ax
                have e2 := nel_ref bx bx
                rw [show (decide (ax = ax)) = true from by simp] at e1
                rw [show (decide (bx = bx)) = true from by simp] at e2
                go_wp2_with (go_at_call 14; refine HLen.out.mono ?_; rintro e w10 ⟨rfl, hb10⟩; have HB10 := Lib.hid (HB9.out.trans (hb10.mono HB9.out.size)); clear hb10)
                go_roundw
                case rel => exact ⟨j + 1, by omega, by go_num, by rw [HD.out]; exact fown_keep HO4.out HB10.out, by rw [HD.out]; exact (HT4.out.below HB10.out).less fun k hk => hk.elim .inl fun h => .inr (.inl h), HB4.out.trans (HB10.out.mono HB4.out.size)⟩
                case measure => simp [intOf]; omega
    · obtain rfl : j = l.length := by omega
      rw [List.take_length] at HO HT
      have hl9 : (dosT l).length ≤ 150 := Nat.le_trans (dos_len l) (by omega)
      obtain ⟨pv, cv, rfl, -⟩ := own_slice HO.out
      generalize dosT l = T at *
      obtain ⟨w9, rfl⟩ : ∃ w9, w9 = wr := ⟨_, rfl⟩
      have HTl := Lib.hid (tells_any p _ pv cv T s b w9 HT.out (by omega) HO.out.lies.1 HWb.out)
      have hy9 := (HB.out.block _ hs0).trans HY0.out
      obtain ⟨s0, s1, -, -⟩ := cells2f hy9
      clear hy9
      go_wp2_with (first
        | (go_at_call 15; refine HTl.out.mono ?_; rintro e w10 ⟨rfl, hb10⟩)
        | (go_at_call 8; refine (awake_any _).mono ?_; rintro e w11 ⟨rfl, hb11⟩))
      go_ret
      exact ⟨rfl, HB0.out.trans ((HB.out.trans ((hb10.trans (hb11.mono hb10.size)).mono HB.out.size)).mono HB0.out.size)⟩
end Go.Proofs.Ytbebbnkolpgndaa
