/- A scan: tables: for each block one, of those that it has and that are asked for. -/
import Derived.Test.YtnadcdgpfopcaaaMoL
import Derived.Test.YtnadcdgpfopcaaaMoO
namespace Go.Proofs.Ytnadcdgpfopcaaa
open Go.RowKit Go.Maps Go.Shelf

attribute [local go_sem] Oper.semAt_some

/-- One of those found: if it is asked for, it is put into its block's table. -/
def tabStep (L : List P2) (Ts : Nat → List Fd) (f : Fd) : Nat → List Fd := if pmF L f.1.1 = some f.1.2 then updT Ts f.2.1.toNat (putT (Ts f.2.1.toNat) f.1 f.2) else Ts
def tabsTo (L : List P2) (fd : List Fd) (pre : List (Fin fd.length)) : Nat → List Fd := pre.foldl (fun Ts x => tabStep L Ts fd[x.val]) fun _ => []
theorem tabsTo_snoc (L : List P2) (fd : List Fd) (pre : List (Fin fd.length)) (x : Fin fd.length) : tabsTo L fd (pre ++ [x]) = tabStep L (tabsTo L fd pre) fd[x.val] := by simp [tabsTo]
def tabsF (L : List P2) (fd : List Fd) : Nat → List Fd := tabsTo L fd (backL fd)
theorem putT_len (T : List Fd) (r s : P2) : (putT T r s).length ≤ T.length + 1 := by
  unfold putT
  split
  · split <;> simp
  · omega
theorem tabsTo_len (L : List P2) (fd : List Fd) (pre : List (Fin fd.length)) : ∀ b, (tabsTo L fd pre b).length ≤ pre.length := by
  have key : ∀ (l : List (Fin fd.length)) (Ts : Nat → List Fd) (k : Nat), (∀ b, (Ts b).length ≤ k) → ∀ b, (l.foldl (fun Ts x => tabStep L Ts fd[x.val]) Ts b).length ≤ k + l.length := by
    intro l
    induction l with
    | nil => exact fun Ts k h b => h b
    | cons x l ih =>
      intro Ts k h b
      have := ih (tabStep L Ts fd[x.val]) (k + 1) (fun b => by
        unfold tabStep
        split
        · unfold updT
          split
          · have := putT_len (Ts (fd[x.val]).2.1.toNat) (fd[x.val]).1 (fd[x.val]).2
            have := h (fd[x.val]).2.1.toNat
            omega
          · have := h b; omega
        · have := h b; omega) b
      simp only [List.foldl_cons, List.length_cons]
      omega
  intro b
  have := key pre (fun _ => []) 0 (fun _ => by simp) b
  simpa [tabsTo] using this
section
variable {w w' W w1 : World} {s c cap mb n : Nat} {x y Y X : Nat → Prop} {v : Value} {A : Option Addr} {M : MS} {L : List P2}
/-- While the row is filled. -/
def LRel (W0 : World) (G B j : Nat) (W : World) : Prop :=
  (∃ p O, Tabs W G j (fun k => k < W0.heap.size ∧ k ≠ G) (fun _ => []) p O) ∧ (∃ cs, W.heap[G]? = some (.cells cs 113 (0, 0)) ∧ cs.size = B) ∧ Turned (fun b => b = G) W0 W
theorem LRel.add {W0 Q X : World} {G B j q : Nat} (h : LRel W0 G B j Q) (hb : Below Q.heap.size Q w1) (ht : Tab w1 q (fun b => b < Q.heap.size) []) (hX : X = w1.setCell ⟨G, j, none⟩ (.pointer (some ⟨q, 0, none⟩))) (hj : j < B) :
    LRel W0 G B (j + 1) X ∧ G < Q.heap.size ∧ w1.frozen? ⟨G, j, none⟩ = false ∧ (∃ u, w1.cell? ⟨G, j, none⟩ = some u) := by
  obtain ⟨⟨p, O, h1⟩, ⟨cs, h2, h3⟩, h4⟩ := h
  have hc := (hb.block G h1.lt).trans h2
  obtain ⟨a1, a2, a3, a4⟩ := h1.add hb ht hc (by omega) X hX
  refine ⟨⟨a1, ⟨_, a2, by simp [h3]⟩, ?_⟩, h1.lt, by simp [World.frozen?, hc], ⟨cs[j]'(by omega), by simp [World.cell?, hc, h3, hj]⟩⟩
  have hz := hb.size
  exact h4.trans (G := fun b => b = G) ⟨by rw [hX]; exact hb.os, by rw [hX]; exact hb.tape, by rw [hX]; exact hb.output, by omega, fun i hi k => (a3 i k).trans (hb.block i hi)⟩ fun _ _ k => k
theorem look_pm {V : World} (h : PmAt V mb n L) {k : Int} (hk : (Lit.int .i64 k).wf = true) : ∃ z : Int, (Instr.lookup 94 (.map (some mb)) (.int .i64 k) true).run Try.prog V = .ok (.tuple #[.int .i64 z, .bool (pmF L k).isSome]) V ∧ ∀ u, pmF L k = some u → z = u := by
  obtain ⟨D, ho, hp⟩ := h
  obtain ⟨v, ps, hr, hv⟩ := ho.look_ok pkeyed Try.underlying94 (pzero V) (plainElem_int (q := .i64) (a := 0) Try.underlying3 (by rfl)) (pkey hk)
  obtain ⟨a, rfl, he, -⟩ := plainElem_int_inv (q := .i64) Try.underlying3 hv
  refine ⟨a, by rw [← hp.has k hk]; exact hr, fun z hz => ?_⟩
  rw [hp.at_ k z hk hz] at he
  simp at he
  exact he.1.symm
/-- A cell of a block that a table's Put leaves. -/
def PutQ (q5 q1 G b B : Nat) (pb : Nat) (f : Fd) (W : World) : Prop :=
  W.cell? ⟨q5, 0, none⟩ = some (.slice (some ⟨G, 0, none⟩) B B) ∧ W.cell? ⟨G, b, none⟩ = some (.pointer (some ⟨pb, 0, none⟩)) ∧ W.cell? ⟨q1, 0, none⟩ = some (.int .i64 f.1.1) ∧ W.cell? ⟨q1, 1, none⟩ = some (.int .i64 f.1.2) ∧ W.cell? ⟨q1, 2, none⟩ = some (.int .i64 f.2.1) ∧ W.cell? ⟨q1, 3, none⟩ = some (.int .i64 f.2.2)
theorem PutQ.kept {q5 q1 G b B pb : Nat} {f : Fd} {Q W : World} {X : Nat → Prop} (h : PutQ q5 q1 G b B pb f Q) (hs : Safe X Q W) (h5 : q5 < Q.heap.size ∧ X q5) (h1 : q1 < Q.heap.size ∧ X q1) (hG : G < Q.heap.size ∧ X G) : PutQ q5 q1 G b B pb f W := by
  obtain ⟨a1, a2, a3, a4, a5, a6⟩ := h
  have e5 := hs.block h5.1 h5.2
  have e1 := hs.block h1.1 h1.2
  have eG := hs.block hG.1 hG.2
  exact ⟨(World.cell?_of_block e5).trans a1, (World.cell?_of_block eG).trans a2, (World.cell?_of_block e1).trans a3, (World.cell?_of_block e1).trans a4, (World.cell?_of_block e1).trans a5, (World.cell?_of_block e1).trans a6⟩
def TabsPost (B : Nat) (Ts : Nat → List Fd) (w : World) (e : Ending) (w' : World) : Prop :=
  ∃ G p O, e = .returned (.slice (some ⟨G, 0, none⟩) B B) ∧ Tabs w' G B (fun b => b < w.heap.size) Ts p O ∧ Below w.heap.size w w'
theorem tabs_leave {W0 wr w6 V : World} {G B m : Nat} {Ts : Nat → List Fd} (h : TInv W0 w6 G wr.heap.size B Ts V) (h0 : Below w.heap.size w W0) (h1 : Turned (fun b => b = G) W0 wr) (h2 : Below wr.heap.size wr w6) (hlt : wr.heap.size < w6.heap.size) (hG : w.heap.size < G ∧ G < W0.heap.size) (hd : V.heap[w6.heap.size]? = some (.deferred (some []))) (tmps : Array Value)
    (hr : ∀ W' : World, (results Try.f40 tmps).run Try.prog W' = .ok (.slice (some ⟨G, 0, none⟩) B B) W') :
    LeavesInM Fence.wide m Try.prog Try.f40 tmps (TabsPost B Ts w) [{ target := Target.collected w6.heap.size, args := #[] }] .returning V := by
  refine ⟨by simp, .inl ⟨_, _, rfl, run_takeDeferred hd, ?_⟩⟩
  have z0 := h0.size
  have z1 := h1.size
  have z2 := h2.size
  have k := h.books (grownBy_putObj' V w6.heap.size (.deferred none)) (fun r e => by cases e; exact .inl rfl) hlt (by omega) (by omega) (by omega)
  obtain ⟨⟨p, O, k1⟩, k2⟩ := k
  refine ⟨_, hr _, G, p, O, rfl, k1.less fun b hb => .inl (.inl ⟨by omega, by omega⟩), ?_⟩
  refine ⟨k2.os.trans (h2.os.trans (h1.os.trans h0.os)), k2.tape.trans (h2.tape.trans (h1.tape.trans h0.tape)), k2.output.trans (h2.output.trans (h1.output.trans h0.output)), by have := k2.size; omega, fun b hb => ?_⟩
  exact (k2.block (by omega) (.inl ⟨by omega, by omega⟩)).trans ((h2.block b (by omega)).trans ((h1.block b (by omega) (by omega)).trans (h0.block b hb)))
set_option maxRecDepth 100000 in
set_option maxHeartbeats 6000000 in
theorem m_tables (h : ScanAt w s c Y v A cap M) (ok : MOk M) (hm : PmAt w mb n L) (hwf : ∀ f ∈ M.fd, WfP f.1 ∧ WfP f.2 ∧ 0 ≤ f.2.1 ∧ f.2.1 < M.B) (hlen : M.fd.length ≤ 1000) :
    Calls Try.prog 40 #[PtrV s, .map (some mb)] w (TabsPost M.B (tabsF L M.fd) w) := by
  have hB := ok.b64
  have hmk := make_tabs M.B hB.2
  have HH := Lib.hid h
  have HM := Lib.hid hm
  have HW := Lib.hid hwf
  have c1 := h.parts.c1
  have c4 := h.parts.c4
  have hs := h.lt
  clear h hm hwf ok
  refine callsIn_wide.1 (callsIn_of_wp_marks (n := 3) Try.func40 rfl trivial ?_ rfl)
  simp only [Try.ntmps40, List.size_toArray, List.length_cons, List.length_nil, Nat.reduceAdd, Nat.reduceSub, Array.replicate_succ, Array.replicate_zero, List.push_toArray, List.append_toArray, List.nil_append, List.cons_append]
  obtain ⟨W0, hW0⟩ : ∃ W0, W0 = ((w.alloc (.cells #[.map (some mb)] 94)).alloc (.cells (madeCells #[Value.pointer none] M.B) 113)).alloc (.cells #[.slice (some ⟨w.heap.size + 1, 0, none⟩) M.B M.B] 95) := ⟨_, rfl⟩
  have HB0 : Hid (Below w.heap.size w W0) := Lib.hid (by rw [hW0]; exact (((Below.refl _ _).alloc (Nat.le_refl _) _).alloc (by simp) _).alloc (by simp; omega) _)
  have HZ : Hid (W0.heap.size = w.heap.size + 3) := Lib.hid (by rw [hW0]; simp)
  have X3 : Hid (W0.heap[w.heap.size]? = some (.cells #[.map (some mb)] 94 (0, 0))) := Lib.hid (by rw [hW0]; exact (heap_alloc_oldX _ _ (by simp; omega)).trans ((heap_alloc_oldX _ _ (by simp)).trans (heap_alloc_new w _)))
  have X4 : Hid (W0.heap[w.heap.size + 1]? = some (.cells (madeCells #[Value.pointer none] M.B) 113 (0, 0))) := Lib.hid (by rw [hW0]; have := heap_alloc_new (w.alloc (.cells #[.map (some mb)] 94)) (.cells (madeCells #[Value.pointer none] M.B) 113); exact (heap_alloc_oldX _ _ (by simp)).trans (by simpa using this))
  have X5 : Hid (W0.heap[w.heap.size + 2]? = some (.cells #[.slice (some ⟨w.heap.size + 1, 0, none⟩) M.B M.B] 95 (0, 0))) := Lib.hid (by rw [hW0]; have := heap_alloc_new ((w.alloc (.cells #[.map (some mb)] 94)).alloc (.cells (madeCells #[Value.pointer none] M.B) 113)) (.cells #[.slice (some ⟨w.heap.size + 1, 0, none⟩) M.B M.B] 95); simpa using this)
  gi_wp2
  rw [← hW0]
  obtain ⟨G, hG⟩ : ∃ G, G = w.heap.size + 1 := ⟨_, rfl⟩
  obtain ⟨q5, hq5⟩ : ∃ q5, q5 = w.heap.size + 2 := ⟨_, rfl⟩
  have hG' : w.heap.size + 1 = G := hG.symm
  have HGE := Lib.hid hG
  have HQ5E := Lib.hid hq5
  rw [hG'] at X4 X5 ⊢
  rw [← hq5] at X5
  have hq5' : w.heap.size + 1 + 1 = q5 := by omega
  have hq5'' : G + 1 = q5 := by omega
  have hrel0 : LRel W0 G M.B 0 W0 := ⟨⟨_, _, Tabs.empty W0 G _ (by have := HZ.out; omega) fun b k => k.1⟩, ⟨_, X4.out, by simp [madeCells]⟩, Turned.refl _ _⟩
  have HREL0 := Lib.hid hrel0
  rw [hq5'']
  clear hW0 hmk hrel0 hG hG' hq5 hq5' hq5''
  have hq5n : q5 ≠ G := by have := HQ5E.out; have := HGE.out; omega
  have hq5l : q5 < W0.heap.size := by have := HQ5E.out; have := HZ.out; omega
  gi_loopw [18] (fun v18 wr => ∃ j : Nat, j ≤ M.B ∧ v18 = .int .i64 j ∧ LRel W0 G M.B j wr) (fun v18 _ => M.B - (intOf v18).toNat)
  case atStart => exact ⟨0, Nat.zero_le _, rfl, HREL0.out⟩
  case round =>
    obtain ⟨jj, hj, rfl, hL⟩ := hrel
    by_cases hjB : jj < M.B
    · obtain ⟨Q, hQ⟩ : ∃ Q, Q = wr.drew := ⟨_, rfl⟩
      have HQE := Lib.hid hQ
      have hcell5 : wr.cell? ⟨q5, 0, none⟩ = some (.slice (some ⟨G, 0, none⟩) M.B M.B) := (World.cell?_of_block (hL.2.2.block q5 hq5l hq5n)).trans (by simp [World.cell?, X5.out])
      have HC5 : Hid (wr.drew.cell? ⟨q5, 0, none⟩ = some (.slice (some ⟨G, 0, none⟩) M.B M.B)) := Lib.hid hcell5
      have HQ0 : Hid (Below Q.heap.size Q wr.drew) := Lib.hid (by rw [hQ]; exact Below.refl _ _)
      have HL5 : Hid (LRel W0 G M.B jj Q) := Lib.hid (by
        obtain ⟨⟨p, O, h1⟩, h2, h3⟩ := hL
        rw [hQ]
        exact ⟨⟨p, O, h1.below (Below.refl _ _).drew⟩, h2, h3.drew⟩)
      have HQ5 : Hid (q5 < Q.heap.size) := Lib.hid (by rw [hQ]; exact Nat.lt_of_lt_of_le hq5l hL.2.2.size)
      have HG5 := Lib.hid hq5n
      clear hL hQ
      gi_wp2
      refine region_inv_w2 (fun j v w' => match j with | 0 => v = .slice (some ⟨G, 0, none⟩) M.B M.B | 1 => v = .int .i64 jj | 2 => ∃ q, v = .pointer (some ⟨q, 0, none⟩) ∧ Tab w' q (fun b => b < Q.heap.size) [] | 3 => v = .pointer (some ⟨G, jj, none⟩) | 4 => v = undef | _ => True) (fun d w' => w'.cell? ⟨q5, 0, none⟩ = some (.slice (some ⟨G, 0, none⟩) M.B M.B) ∧ (d 4 = false → Below Q.heap.size Q w') ∧ (d 4 = true → LRel W0 G M.B (jj + 1) w') ∧ Cl [4] 2 d) (by kernel_rfl) (by kernel_rfl) (by kernel_rfl) (by kernel_rfl) ?hG ?hops ?hend
      case hG => exact ⟨HC5.out, fun _ => HQ0.out, fun h => Bool.noConfusion h, fun _ _ h => Bool.noConfusion h⟩
      case hops =>
        refine OpsOk2.cons ?o0 (OpsOk2.cons ?o1 (OpsOk2.cons ?o2 (OpsOk2.cons ?o3 (OpsOk2.cons ?o4 OpsOk2.nil))))
        case o0 =>
          intro a w1 d Kx hd hG need old hsz hKx
          have e0 : a.tmps[5]?.getD undef = .pointer (some ⟨q5, 0, none⟩) := by rw [← Array.getD_eq_getD_getElem?]; exact old 5 (by kernel_rfl)
          have k0 := (hG.1 : w1.cell? ⟨q5, 0, none⟩ = some (.slice (some ⟨G, 0, none⟩) M.B M.B))
          refine op_value (v := .slice (some ⟨G, 0, none⟩) M.B M.B) (wanted_none rfl) ?_ (hKx _ w1 rfl ⟨hG.1, fun h => hG.2.1 (also_ne (by decide) h), fun h => hG.2.2.1 (also_ne (by decide) h), Cl.next (l := [4]) (K := 2) hG.2.2.2 (.inl (by decide))⟩ (fun _ _ _ _ h => h))
          simp [execOp, go_sem, e0, k0]
        case o1 =>
          intro a w1 d Kx hd hG need old hsz hKx
          have e0 : a.tmps[6]?.getD undef = .int .i64 jj := by rw [← Array.getD_eq_getD_getElem?]; exact old 6 (by kernel_rfl)
          refine op_value (v := .int .i64 jj) (wanted_none rfl) ?_ (hKx _ w1 rfl ⟨hG.1, fun h => hG.2.1 (also_ne (by decide) h), fun h => hG.2.2.1 (also_ne (by decide) h), Cl.next (l := [4]) (K := 2) hG.2.2.2 (.inl (by decide))⟩ (fun _ _ _ _ h => h))
          simp [execOp, go_sem, e0]
        case o2 =>
          intro a w1 d Kx hd hG need old hsz hKx
          refine op_call (wanted_none rfl) (f := 55) (args := #[]) ?run ((newT_any w1).mono ?post)
          case run => simp [go_sem]
          case post =>
            rintro e w2 ⟨q, rfl, ht, hb2⟩
            have hd4 : d 4 = false := (Bool.eq_false_iff).2 fun e => by have := hG.2.2.2 4 (by simp) e; rw [hd] at this; cases this
            have hb1 := hG.2.1 hd4
            refine ⟨_, rfl, hKx _ w2 ⟨q, rfl, ht.less fun b hb => Nat.lt_of_lt_of_le hb hb1.size⟩ ⟨(hb2.cell (p := ⟨q5, 0, none⟩) (Nat.lt_of_lt_of_le HQ5.out hb1.size)).trans hG.1, fun _ => hb1.trans (hb2.mono hb1.size), fun e => absurd ((also_ne (by decide) e).symm.trans hd4) (by decide), Cl.next (l := [4]) (K := 2) hG.2.2.2 (.inl (by decide))⟩ ?_⟩
            intro j u hj _ hu
            match j, hu with
            | 0, hu => exact hu
            | 1, hu => exact hu
            | 2, _ => exact absurd rfl hj
            | 3, hu => exact hu
            | 4, hu => exact hu
            | _ + 5, _ => exact trivial
        case o3 =>
          intro a w1 d Kx hd hG need old hsz hKx
          have e0 : a.tmps[21]?.getD undef = .slice (some ⟨G, 0, none⟩) M.B M.B := by rw [← Array.getD_eq_getD_getElem?]; exact (need 0 (by kernel_rfl) (by kernel_rfl)).2
          have e1 : a.tmps[22]?.getD undef = .int .i64 jj := by rw [← Array.getD_eq_getD_getElem?]; exact (need 1 (by kernel_rfl) (by kernel_rfl)).2
          refine op_value (v := .pointer (some ⟨G, jj, none⟩)) (wanted_none rfl) ?_ (hKx _ w1 rfl ⟨hG.1, fun h => hG.2.1 (also_ne (by decide) h), fun h => hG.2.2.1 (also_ne (by decide) h), Cl.next (l := [4]) (K := 2) hG.2.2.2 (.inl (by decide))⟩ (fun _ _ _ _ h => h))
          simp [execOp, go_sem, e0, e1, hjB]
        case o4 =>
          intro a w1 d Kx hd hG need old hsz hKx
          have e0 : a.tmps[24]?.getD undef = .pointer (some ⟨G, jj, none⟩) := by rw [← Array.getD_eq_getD_getElem?]; exact (need 3 (by kernel_rfl) (by kernel_rfl)).2
          obtain ⟨q, qe1, he1⟩ := (need 2 (by kernel_rfl) (by kernel_rfl)).2
          have e1 : a.tmps[23]?.getD undef = .pointer (some ⟨q, 0, none⟩) := by rw [← Array.getD_eq_getD_getElem?]; exact qe1
          have hb1 := hG.2.1 hd
          obtain ⟨f1, f2, f3, u0, hu0⟩ := LRel.add HL5.out hb1 he1 (X := w1.setCell ⟨G, jj, none⟩ (.pointer (some ⟨q, 0, none⟩))) rfl hjB
          refine op_skip (wanted_none rfl) (w' := w1.setCell ⟨G, jj, none⟩ (.pointer (some ⟨q, 0, none⟩))) ?_ (hKx _ _ rfl ⟨(World.cell?_of_block (Below.heap_setCell w1 ⟨G, jj, none⟩ _ q5 HG5.out)).trans hG.1, fun e => absurd ((also_same d 4).symm.trans e) (by decide), fun _ => f1, Cl.next (l := [4]) (K := 2) hG.2.2.2 (.inr (need 2 (by kernel_rfl) (by kernel_rfl)).1)⟩ ?_)
          simp [execOp, go_sem, e0, e1, f3, hu0]
          intro j u hj hdj hu
          match j, hu with
          | 0, hu => exact hu
          | 1, hu => exact hu
          | 2, hu => obtain ⟨z, e, h⟩ := hu; exact ⟨z, e, h.wrote f2⟩
          | 3, hu => exact hu
          | 4, _ => exact absurd rfl hj
          | _ + 5, _ => exact trivial
      case hend =>
        intro a w6 d hG hφ hde hsz hold
        have hd4 := (hφ 4 (by kernel_rfl)).1
        obtain ⟨q_2, hv_2, hp_2⟩ := (hφ 2 (by kernel_rfl)).2
        obtain rfl := act_puts [(21, .slice (some ⟨G, 0, none⟩) M.B M.B), (22, .int .i64 jj), (23, .pointer (some ⟨q_2, 0, none⟩)), (24, .pointer (some ⟨G, jj, none⟩))] [21, 22, 23, 24] rfl (by kernel_rfl) (by kernel_rfl) hde hsz (List.forall_mem_cons.2 ⟨(show a.tmps.getD 21 undef = .slice (some ⟨G, 0, none⟩) M.B M.B from (hφ 0 (by kernel_rfl)).2), (List.forall_mem_cons.2 ⟨(show a.tmps.getD 22 undef = .int .i64 jj from (hφ 1 (by kernel_rfl)).2), (List.forall_mem_cons.2 ⟨(show a.tmps.getD 23 undef = .pointer (some ⟨q_2, 0, none⟩) from hv_2), (List.forall_mem_cons.2 ⟨(show a.tmps.getD 24 undef = .pointer (some ⟨G, jj, none⟩) from (hφ 3 (by kernel_rfl)).2), (fun _ h => absurd h (by simp))⟩)⟩)⟩)⟩) hold
        clear hφ hold hsz hde hv_2
        simp only [putAll]
        have hfin := hG.2.2.1 hd4
        have HFIN := Lib.hid hfin
        clear hG hfin
        go_frame
        gi_wp2
        go_roundw
        case rel => exact ⟨jj + 1, by omega, by simp, HFIN.out⟩
        case measure => simp [intOf]; omega
    · obtain rfl : jj = M.B := by omega
      have hz := HZ.out
      have k4 : wr.cell? ⟨s, 4, none⟩ = some v := (World.cell?_of_block (hL.2.2.block s (by omega) (by have := HGE.out; omega))).trans ((HB0.out.cell (p := ⟨s, 4, none⟩) hs).trans c4)
      have HL := Lib.hid hL
      obtain ⟨qv, qc, rfl, _⟩ := own_slice HH.out.own
      have HFD : Hid (FLies w qv M.fd) := Lib.hid HH.out.own.lies.1
      clear hL hz
      gi_wp2_with (refine ⟨trivial, ?_⟩; (try refine ⟨wide_depth _, ?_⟩); gi_at_call 56; refine (callsIn_wide.2 (back_any _ _ _ _)).mono ?_; rintro e w6 ⟨rfl, hw6⟩)
      have hz0 := HZ.out
      have hge := HGE.out
      have h6s : w6.heap.size = wr.heap.size + 1 := by rw [hw6]; simp
      have hb6 : Below wr.heap.size wr w6 := by rw [hw6]; exact (Below.refl _ _).alloc (Nat.le_refl _) _
      have hbx6 : w6.cell? ⟨wr.heap.size, 0, none⟩ = some (.slice qv M.fd.length qc) := by
        rw [hw6]
        exact (Boxed.new wr 45 (.slice qv M.fd.length qc)).cell
      have hw0 : W0.heap.size ≤ wr.heap.size := HL.out.2.2.size
      have hqv : ∀ ad, qv = some ad → ad.block < w.heap.size := fun ad e => HH.out.vlt (by rw [e]; rfl)
      have HF6 : Hid (FLies w6 qv M.fd) := Lib.hid fun h0 => by
        obtain ⟨Bf, o, e, hBf, hc⟩ := HFD.out h0
        have e1 : w6.heap[Bf]? = w.heap[Bf]? := (hb6.block Bf (by omega)).trans ((HL.out.2.2.block Bf (by omega) (by omega)).trans (HB0.out.block Bf hBf))
        exact ⟨Bf, o, e, by omega, fun j hj => ⟨(World.cell?_of_block e1).trans (hc j hj).1, (World.cell?_of_block e1).trans (hc j hj).2.1, (World.cell?_of_block e1).trans (hc j hj).2.2.1, (World.cell?_of_block e1).trans (hc j hj).2.2.2⟩⟩
      have hI0 : TInv W0 w6 G wr.heap.size M.B (fun _ => []) w6 := by
        obtain ⟨⟨p, O, h1⟩, -, -⟩ := HL.out
        refine ⟨⟨p, O, (h1.more hb6).less fun b hb => ?_⟩, Turned.refl _ _⟩
        rcases hb with (hb | hb) | ⟨k1, k2, k3⟩
        · exact .inl hb
        · exact .inr ⟨by omega, by omega⟩
        · omega
      have HI0 := Lib.hid hI0
      have H6 := Lib.hid hw6
      have HB6 := Lib.hid hb6
      clear hI0 hb6 k4
      try rw [← hw6]
      clear hw6
      apply wpIn_rangeFunc_held rfl (n := 3) (by omega) (gf := 66) (lb := #[PtrV wr.heap.size]) rfl trivial enters_back
        (back_bare (3 - 1) wr.heap.size qc qv M.fd (by omega) w6 (by omega) hbx6 HF6.out) (fun h k => BKeep.trans h k) (Below.refl _ _) (fun _ => rfl) ?keepg
        (fun x => .cells #[.int .i64 M.fd[x.val].1.1, .int .i64 M.fd[x.val].1.2, .int .i64 M.fd[x.val].2.1, .int .i64 M.fd[x.val].2.2] 49 (0, 0))
        (fun pre V => TInv W0 w6 G wr.heap.size M.B (tabsTo L M.fd pre) V) ?inv ?start
      case keepg =>
        intro V V' row hs hg hr b hb
        have hbl : b < w6.heap.size := by
          rcases hb with rfl | ⟨ad, e, rfl⟩
          · omega
          · have := hqv ad e; omega
        exact hg.block b (by omega) fun e => by have := hr b e.symm; omega
      case inv =>
        intro pre V V' row hI hg hr
        exact hI.books hg hr (by omega) (by omega) (by omega) (by omega)
      case start => exact HI0.out
      case hassign =>
        intro l x V K hK
        gi_wp2
        generalize hq : V.heap.size = q
        exact hK q hq
      case hbody =>
        rintro ll pre x q1 V0 V hI hgV hq0 hlt hq1 hbk
        obtain ⟨f, hf⟩ : ∃ f, M.fd[x.val] = f := ⟨_, rfl⟩
        have hwf := HW.out _ (List.getElem_mem x.2)
        have hsn : tabsTo L M.fd (pre ++ [x]) = tabStep L (tabsTo L M.fd pre) f := by rw [tabsTo_snoc, hf]
        have HSN := Lib.hid hsn
        rw [hf] at hq1 hwf ⊢
        obtain ⟨⟨rk, rs⟩, ⟨fb, fp⟩⟩ := f
        obtain ⟨hw1, hw2, hb0, hbB⟩ := hwf
        obtain ⟨b, rfl⟩ : ∃ b : Nat, fb = b := ⟨fb.toNat, by simp at hb0; omega⟩
        have hbB' : b < M.B := by simp at hbB; omega
        have hIV : TInv W0 w6 G wr.heap.size M.B (tabsTo L M.fd pre) V := hI.books hgV (fun r e => by cases e; exact .inr rfl) (by omega) (by omega) (by omega) (by omega)
        have far : ∀ k, k < W0.heap.size → k ≠ G → V.heap[k]? = W0.heap[k]? := fun k k1 k2 => (hIV.2.block (by omega) (.inl ⟨k1, k2⟩)).trans ((HB6.out.block k (by omega)).trans (HL.out.2.2.block k k1 k2))
        have FAR := Lib.hid far
        have k3 : V.cell? ⟨w.heap.size, 0, none⟩ = some (.map (some mb)) := (World.cell?_of_block (far w.heap.size (by omega) (by omega))).trans (by simp [World.cell?, X3.out])
        have k5 : V.cell? ⟨q5, 0, none⟩ = some (.slice (some ⟨G, 0, none⟩) M.B M.B) := (World.cell?_of_block (far _ hq5l hq5n)).trans (by simp [World.cell?, X5.out])
        have j0 : V.cell? ⟨q1, 0, none⟩ = some (.int .i64 rk) := by simp [World.cell?, hq1]
        have j1 : V.cell? ⟨q1, 1, none⟩ = some (.int .i64 rs) := by simp [World.cell?, hq1]
        have j2 : V.cell? ⟨q1, 2, none⟩ = some (.int .i64 b) := by simp [World.cell?, hq1]
        have j3 : V.cell? ⟨q1, 3, none⟩ = some (.int .i64 fp) := by simp [World.cell?, hq1]
        have hmb := HM.out.lt
        have hpv : PmAt V mb n L := HM.out.kept ((far mb (by omega) (by omega)).trans (HB0.out.block mb hmb))
        obtain ⟨z, hrun, hz⟩ := look_pm hpv hw1.1
        have hq1l := lt_size hq1
        have HIV := Lib.hid hIV
        have HIZ := Lib.hid hI
        have HGV := Lib.hid hgV
        have HPL : Hid (pre.length < M.fd.length) := Lib.hid (by simpa [backL] using hlt)
        obtain ⟨⟨p, O, h1⟩, -⟩ := hI
        have hT0 := h1.books hgV (fun r e => by cases e; exact .inr ⟨by omega, by omega, hbk⟩) (by
          rintro ((⟨-, k⟩ | k) | ⟨k, -⟩)
          · exact k rfl
          · omega
          · omega)
        obtain ⟨X, hX⟩ : ∃ X, (fun k => (((k < W0.heap.size ∧ k ≠ G) ∨ k = wr.heap.size) ∨ (w6.heap.size ≤ k ∧ k ≤ w6.heap.size + 1 ∧ k < V0.heap.size)) ∨ New V0 V k) = X := ⟨_, rfl⟩
        rw [hX] at hT0
        have HXE := Lib.hid hX
        obtain ⟨Q, hQ⟩ : ∃ Q, V.drew = Q := ⟨_, rfl⟩
        have HQ0 := Lib.hid hQ
        have hQz : Q.heap = V.heap := by rw [← hQ]; rfl
        have hT : Tabs Q G M.B X (tabsTo L M.fd pre) p O := by rw [← hQ]; exact hT0.below (Below.refl _ _).drew
        have HT := Lib.hid hT
        have HQZ := Lib.hid hQz
        have HTL : Hid ((tabsTo L M.fd pre b).length ≤ 1000) := Lib.hid (by have := tabsTo_len L M.fd pre b; have := HPL.out; omega)
        have HTB := Lib.hid (hT.tab b hbB')
        have HX5 : Hid (q5 < Q.heap.size ∧ q5 < Q.heap.size ∧ ¬ O b q5) := Lib.hid (by
          have h5 : q5 < Q.heap.size := by rw [hQz]; have := hIV.2.size; omega
          exact ⟨h5, h5, fun ho => (hT.own b q5 hbB' ho).2.2 (by rw [← hX]; exact .inl (.inl (.inl ⟨hq5l, hq5n⟩)))⟩)
        have HX1 : Hid (q1 < Q.heap.size ∧ q1 < Q.heap.size ∧ ¬ O b q1) := Lib.hid (by
          have h5 : q1 < Q.heap.size := by rw [hQz]; exact hq1l
          exact ⟨h5, h5, fun ho => (hT.own b q1 hbB' ho).2.2 (by rw [← hX]; exact .inr ⟨hq0, hq1l⟩)⟩)
        have HXG : Hid (G < Q.heap.size ∧ G < Q.heap.size ∧ ¬ O b G) := Lib.hid ⟨hT.lt, hT.lt, fun ho => (hT.own b G hbB' ho).2.1 rfl⟩
        have HQC : Hid (PutQ q5 q1 G b M.B (p b) ((rk, rs), ((b : Int), fp)) Q) := Lib.hid (by
          rw [← hQ]
          exact ⟨k5, by rw [hQ]; exact hT.row b hbB', j0, j1, j2, j3⟩)
        have HW1 := Lib.hid hw1
        have HW2 := Lib.hid hw2
        have H6S := Lib.hid h6s
        have HBK := Lib.hid hbk
        clear h1 hgV hIV far hpv hsn hlt hT0 hX hQ hQz hT hw1 hw2 hmb
        clear h6s hz0 hge hw0
        by_cases hin : pmF L rk = some rs
        · obtain rfl := (hz rs hin).symm
          rw [hin] at hrun
          simp only [Option.isSome_some] at hrun
          gi_wp2
          refine region_inv_in3 (fun j v w' => match j with | 0 => v = .slice (some ⟨G, 0, none⟩) M.B M.B | 1 => v = .pointer (some ⟨q1, 2, none⟩) | 2 => v = .pointer (some ⟨q1, 2, none⟩) | 3 => v = .int .i64 (b : Int) | 4 => v = .pointer (some ⟨G, b, none⟩) | 5 => v = .pointer (some ⟨p b, 0, none⟩) | 6 => v = .pointer (some ⟨q1, 0, none⟩) | 7 => v = .agg #[.int .i64 rk, .int .i64 rs] | 8 => v = .pointer (some ⟨q1, 2, none⟩) | 9 => v = .agg #[.int .i64 (b : Int), .int .i64 fp] | 10 => v = .bool (canT (tabsTo L M.fd pre b) (rk, rs) ((b : Int), fp)) | _ => True) (fun d w' => PutQ q5 q1 G b M.B (p b) ((rk, rs), ((b : Int), fp)) w' ∧ (d 10 = false → w' = Q) ∧ (d 10 = true → Tab w' (p b) (fun k => k < Q.heap.size ∧ ¬ O b k) (putT (tabsTo L M.fd pre b) (rk, rs) ((b : Int), fp)) ∧ Safe (fun k => k < Q.heap.size ∧ ¬ O b k) Q w')) (by kernel_rfl) (by kernel_rfl) (by kernel_rfl) (by kernel_rfl) ?hG ?hops ?hend
          case hG => exact ⟨by rw [HQ0.out]; exact HQC.out, fun _ => HQ0.out, fun h => Bool.noConfusion h⟩
          case hops =>
            refine OpsOk2.cons ?o0 (OpsOk2.cons ?o1 (OpsOk2.cons ?o2 (OpsOk2.cons ?o3 (OpsOk2.cons ?o4 (OpsOk2.cons ?o5 (OpsOk2.cons ?o6 (OpsOk2.cons ?o7 (OpsOk2.cons ?o8 (OpsOk2.cons ?o9 (OpsOk2.cons ?o10 OpsOk2.nil))))))))))
            case o0 =>
              intro a w1 d Kx hd hG need old hsz hKx
              have e0 : a.tmps[5]?.getD undef = .pointer (some ⟨q5, 0, none⟩) := by rw [← Array.getD_eq_getD_getElem?]; exact old 5 (by kernel_rfl)
              have k0 := hG.1.1
              refine op_value (v := .slice (some ⟨G, 0, none⟩) M.B M.B) (wanted_none rfl) ?_ (hKx _ w1 rfl ⟨hG.1, fun h => hG.2.1 (also_ne (by decide) h), fun h => hG.2.2 (also_ne (by decide) h)⟩ (fun _ _ _ _ h => h))
              simp [execOp, go_sem, e0, k0]
            case o1 =>
              intro a w1 d Kx hd hG need old hsz hKx
              have e0 : a.tmps[8]?.getD undef = .pointer (some ⟨q1, 0, none⟩) := by rw [← Array.getD_eq_getD_getElem?]; exact old 8 (by kernel_rfl)
              refine op_value (v := .pointer (some ⟨q1, 2, none⟩)) (wanted_none rfl) ?_ (hKx _ w1 rfl ⟨hG.1, fun h => hG.2.1 (also_ne (by decide) h), fun h => hG.2.2 (also_ne (by decide) h)⟩ (fun _ _ _ _ h => h))
              simp [execOp, go_sem, e0]
            case o2 =>
              intro a w1 d Kx hd hG need old hsz hKx
              have e0 : a.tmps[50]?.getD undef = .pointer (some ⟨q1, 2, none⟩) := by rw [← Array.getD_eq_getD_getElem?]; exact (need 1 (by kernel_rfl) (by kernel_rfl)).2
              refine op_value (v := .pointer (some ⟨q1, 2, none⟩)) (wanted_none rfl) ?_ (hKx _ w1 rfl ⟨hG.1, fun h => hG.2.1 (also_ne (by decide) h), fun h => hG.2.2 (also_ne (by decide) h)⟩ (fun _ _ _ _ h => h))
              simp [execOp, go_sem, e0]
            case o3 =>
              intro a w1 d Kx hd hG need old hsz hKx
              have e0 : a.tmps[51]?.getD undef = .pointer (some ⟨q1, 2, none⟩) := by rw [← Array.getD_eq_getD_getElem?]; exact (need 2 (by kernel_rfl) (by kernel_rfl)).2
              have k0 := hG.1.2.2.2.2.1
              refine op_value (v := .int .i64 (b : Int)) (wanted_none rfl) ?_ (hKx _ w1 rfl ⟨hG.1, fun h => hG.2.1 (also_ne (by decide) h), fun h => hG.2.2 (also_ne (by decide) h)⟩ (fun _ _ _ _ h => h))
              simp [execOp, go_sem, e0, k0]
            case o4 =>
              intro a w1 d Kx hd hG need old hsz hKx
              have e0 : a.tmps[49]?.getD undef = .slice (some ⟨G, 0, none⟩) M.B M.B := by rw [← Array.getD_eq_getD_getElem?]; exact (need 0 (by kernel_rfl) (by kernel_rfl)).2
              have e1 : a.tmps[52]?.getD undef = .int .i64 (b : Int) := by rw [← Array.getD_eq_getD_getElem?]; exact (need 3 (by kernel_rfl) (by kernel_rfl)).2
              refine op_value (v := .pointer (some ⟨G, b, none⟩)) (wanted_none rfl) ?_ (hKx _ w1 rfl ⟨hG.1, fun h => hG.2.1 (also_ne (by decide) h), fun h => hG.2.2 (also_ne (by decide) h)⟩ (fun _ _ _ _ h => h))
              simp [execOp, go_sem, e0, e1, hbB']
            case o5 =>
              intro a w1 d Kx hd hG need old hsz hKx
              have e0 : a.tmps[53]?.getD undef = .pointer (some ⟨G, b, none⟩) := by rw [← Array.getD_eq_getD_getElem?]; exact (need 4 (by kernel_rfl) (by kernel_rfl)).2
              have k0 := hG.1.2.1
              refine op_value (v := .pointer (some ⟨p b, 0, none⟩)) (wanted_none rfl) ?_ (hKx _ w1 rfl ⟨hG.1, fun h => hG.2.1 (also_ne (by decide) h), fun h => hG.2.2 (also_ne (by decide) h)⟩ (fun _ _ _ _ h => h))
              simp [execOp, go_sem, e0, k0]
            case o6 =>
              intro a w1 d Kx hd hG need old hsz hKx
              have e0 : a.tmps[8]?.getD undef = .pointer (some ⟨q1, 0, none⟩) := by rw [← Array.getD_eq_getD_getElem?]; exact old 8 (by kernel_rfl)
              refine op_value (v := .pointer (some ⟨q1, 0, none⟩)) (wanted_none rfl) ?_ (hKx _ w1 rfl ⟨hG.1, fun h => hG.2.1 (also_ne (by decide) h), fun h => hG.2.2 (also_ne (by decide) h)⟩ (fun _ _ _ _ h => h))
              simp [execOp, go_sem, e0]
            case o7 =>
              intro a w1 d Kx hd hG need old hsz hKx
              have e0 : a.tmps[55]?.getD undef = .pointer (some ⟨q1, 0, none⟩) := by rw [← Array.getD_eq_getD_getElem?]; exact (need 6 (by kernel_rfl) (by kernel_rfl)).2
              have k0 := hG.1.2.2.1
              have k1 := hG.1.2.2.2.1
              refine op_value (v := .agg #[.int .i64 rk, .int .i64 rs]) (wanted_none rfl) ?_ (hKx _ w1 rfl ⟨hG.1, fun h => hG.2.1 (also_ne (by decide) h), fun h => hG.2.2 (also_ne (by decide) h)⟩ (fun _ _ _ _ h => h))
              simp [execOp, go_sem, e0, k0, k1]
            case o8 =>
              intro a w1 d Kx hd hG need old hsz hKx
              have e0 : a.tmps[8]?.getD undef = .pointer (some ⟨q1, 0, none⟩) := by rw [← Array.getD_eq_getD_getElem?]; exact old 8 (by kernel_rfl)
              refine op_value (v := .pointer (some ⟨q1, 2, none⟩)) (wanted_none rfl) ?_ (hKx _ w1 rfl ⟨hG.1, fun h => hG.2.1 (also_ne (by decide) h), fun h => hG.2.2 (also_ne (by decide) h)⟩ (fun _ _ _ _ h => h))
              simp [execOp, go_sem, e0]
            case o9 =>
              intro a w1 d Kx hd hG need old hsz hKx
              have e0 : a.tmps[57]?.getD undef = .pointer (some ⟨q1, 2, none⟩) := by rw [← Array.getD_eq_getD_getElem?]; exact (need 8 (by kernel_rfl) (by kernel_rfl)).2
              have k0 := hG.1.2.2.2.2.1
              have k1 := hG.1.2.2.2.2.2
              refine op_value (v := .agg #[.int .i64 (b : Int), .int .i64 fp]) (wanted_none rfl) ?_ (hKx _ w1 rfl ⟨hG.1, fun h => hG.2.1 (also_ne (by decide) h), fun h => hG.2.2 (also_ne (by decide) h)⟩ (fun _ _ _ _ h => h))
              simp [execOp, go_sem, e0, k0, k1]
            case o10 =>
              intro a w1 d Kx hd hG need old hsz hKx
              have e0 : a.tmps[54]?.getD undef = .pointer (some ⟨p b, 0, none⟩) := by rw [← Array.getD_eq_getD_getElem?]; exact (need 5 (by kernel_rfl) (by kernel_rfl)).2
              have e1 : a.tmps[56]?.getD undef = .agg #[.int .i64 rk, .int .i64 rs] := by rw [← Array.getD_eq_getD_getElem?]; exact (need 7 (by kernel_rfl) (by kernel_rfl)).2
              have e2 : a.tmps[58]?.getD undef = .agg #[.int .i64 (b : Int), .int .i64 fp] := by rw [← Array.getD_eq_getD_getElem?]; exact (need 9 (by kernel_rfl) (by kernel_rfl)).2
              refine op_call (wanted_none rfl) (f := 57) (args := #[.pointer (some ⟨p b, 0, none⟩), .agg #[.int .i64 rk, .int .i64 rs], .agg #[.int .i64 (b : Int), .int .i64 fp]]) ?run ((putT_any (x := fun k => k < Q.heap.size ∧ ¬ O b k) (T := tabsTo L M.fd pre b) (p := p b) (rk, rs) ((b : Int), fp) (by rw [hG.2.1 hd]; exact HTB.out) HTL.out HW1.out HW2.out).mono ?post)
              case run => simp [go_sem, e0, e1, e2]
              case post =>
                rintro e w2 ⟨rfl, ht, hs2⟩
                rw [hG.2.1 hd] at hs2
                refine ⟨_, rfl, hKx _ w2 rfl ⟨HQC.out.kept hs2 HX5.out HX1.out HXG.out, fun h => absurd ((also_same d 10).symm.trans h) (by decide), fun _ => ⟨ht, hs2⟩⟩ ?_⟩
                intro j u hj _ hu
                match j, hu with
                | 0, hu => exact hu
                | 1, hu => exact hu
                | 2, hu => exact hu
                | 3, hu => exact hu
                | 4, hu => exact hu
                | 5, hu => exact hu
                | 6, hu => exact hu
                | 7, hu => exact hu
                | 8, hu => exact hu
                | 9, hu => exact hu
                | 10, _ => exact absurd rfl hj
                | _ + 11, _ => exact trivial
          case hend =>
            intro a w6_ d hG hφ hde hsz hold
            have hd10 := (hφ 10 (by kernel_rfl)).1
            obtain rfl := act_puts [(49, .slice (some ⟨G, 0, none⟩) M.B M.B), (50, .pointer (some ⟨q1, 2, none⟩)), (51, .pointer (some ⟨q1, 2, none⟩)), (52, .int .i64 (b : Int)), (53, .pointer (some ⟨G, b, none⟩)), (54, .pointer (some ⟨p b, 0, none⟩)), (55, .pointer (some ⟨q1, 0, none⟩)), (56, .agg #[.int .i64 rk, .int .i64 rs]), (57, .pointer (some ⟨q1, 2, none⟩)), (58, .agg #[.int .i64 (b : Int), .int .i64 fp]), (59, .bool (canT (tabsTo L M.fd pre b) (rk, rs) ((b : Int), fp)))] [49, 50, 51, 52, 53, 54, 55, 56, 57, 58, 59] rfl (by kernel_rfl) (by kernel_rfl) hde hsz (List.forall_mem_cons.2 ⟨(show a.tmps.getD 49 undef = .slice (some ⟨G, 0, none⟩) M.B M.B from (hφ 0 (by kernel_rfl)).2), (List.forall_mem_cons.2 ⟨(show a.tmps.getD 50 undef = .pointer (some ⟨q1, 2, none⟩) from (hφ 1 (by kernel_rfl)).2), (List.forall_mem_cons.2 ⟨(show a.tmps.getD 51 undef = .pointer (some ⟨q1, 2, none⟩) from (hφ 2 (by kernel_rfl)).2), (List.forall_mem_cons.2 ⟨(show a.tmps.getD 52 undef = .int .i64 (b : Int) from (hφ 3 (by kernel_rfl)).2), (List.forall_mem_cons.2 ⟨(show a.tmps.getD 53 undef = .pointer (some ⟨G, b, none⟩) from (hφ 4 (by kernel_rfl)).2), (List.forall_mem_cons.2 ⟨(show a.tmps.getD 54 undef = .pointer (some ⟨p b, 0, none⟩) from (hφ 5 (by kernel_rfl)).2), (List.forall_mem_cons.2 ⟨(show a.tmps.getD 55 undef = .pointer (some ⟨q1, 0, none⟩) from (hφ 6 (by kernel_rfl)).2), (List.forall_mem_cons.2 ⟨(show a.tmps.getD 56 undef = .agg #[.int .i64 rk, .int .i64 rs] from (hφ 7 (by kernel_rfl)).2), (List.forall_mem_cons.2 ⟨(show a.tmps.getD 57 undef = .pointer (some ⟨q1, 2, none⟩) from (hφ 8 (by kernel_rfl)).2), (List.forall_mem_cons.2 ⟨(show a.tmps.getD 58 undef = .agg #[.int .i64 (b : Int), .int .i64 fp] from (hφ 9 (by kernel_rfl)).2), (List.forall_mem_cons.2 ⟨(show a.tmps.getD 59 undef = .bool (canT (tabsTo L M.fd pre b) (rk, rs) ((b : Int), fp)) from (hφ 10 (by kernel_rfl)).2), (fun _ h => absurd h (by simp))⟩)⟩)⟩)⟩)⟩)⟩)⟩)⟩)⟩)⟩)⟩) hold
            clear hφ hold hsz hde
            simp only [putAll]
            obtain ⟨ht, hs⟩ := hG.2.2 hd10
            obtain ⟨t1, t2⟩ := HT.out.put hbB' ht hs
            have hXs : ∀ k, ((k < W0.heap.size ∧ k ≠ G) ∨ k = wr.heap.size) ∨ (w6.heap.size ≤ k ∧ k ≤ w6.heap.size + 1 ∧ k < V0.heap.size) → X k := fun k hk => by rw [← HXE.out]; exact .inl hk
            have hkeep : heldPost w6.heap.size (BKeep wr.heap.size qv) (fun pre V => TInv W0 w6 G wr.heap.size M.B (tabsTo L M.fd pre) V) (pre ++ [x]) V .normal { tmps := #[], defers := [] } w6_ := by
              have e6 := H6S.out
              have ez := HZ.out
              have eg := HGE.out
              have ebk := HBK.out
              have eV := HGV.out.size
              have eW := HL.out.2.2.size
              have eq := HQZ.out
              have blk : ∀ k, k < V.heap.size → X k → w6_.heap[k]? = V.heap[k]? := fun k k1 k2 => by rw [← eq] at k1 ⊢; exact t2.block k1 k2
              refine ⟨blk _ (by omega) (hXs _ (.inr ⟨by omega, by omega, by omega⟩)), blk _ (by omega) (hXs _ (.inr ⟨by omega, by omega, by omega⟩)), fun k hk => ?_, ?_⟩
              · rcases hk with rfl | ⟨ad, e, rfl⟩
                · exact blk _ (by omega) (hXs _ (.inl (.inr rfl)))
                · have := hqv ad e
                  exact blk _ (by omega) (hXs _ (.inl (.inl ⟨by omega, by omega⟩)))
              · show TInv W0 w6 G wr.heap.size M.B (tabsTo L M.fd (pre ++ [x])) w6_
                rw [HSN.out]
                unfold tabStep
                rw [if_pos hin]
                have h2 : Safe (fun b => (b < W0.heap.size ∧ b ≠ G) ∨ b = wr.heap.size) w6 Q := by rw [← HQ0.out]; exact HIV.out.2.drew
                exact ⟨⟨p, _, t1.less fun k hk => hXs k (by
                  rcases hk with hk | ⟨a1, a2, -⟩
                  · exact .inl hk
                  · exact .inr ⟨a1, a2, by omega⟩)⟩, h2.then (t2.mono' fun k hk hx => hk (hXs k (.inl hx)))⟩
            have HKEEP := Lib.hid hkeep
            clear hG ht hs t1 t2 hkeep hXs
            go_frame
            exact HKEEP.out
        · have hkeep : heldPost w6.heap.size (BKeep wr.heap.size qv) (fun pre V => TInv W0 w6 G wr.heap.size M.B (tabsTo L M.fd pre) V) (pre ++ [x]) V .normal { tmps := #[], defers := [] } V := ⟨rfl, rfl, fun _ _ => rfl, by show TInv W0 w6 G wr.heap.size M.B (tabsTo L M.fd (pre ++ [x])) V; rw [HSN.out]; unfold tabStep; rw [if_neg hin]; exact HIV.out⟩
          have HKEEP := Lib.hid hkeep
          clear hkeep
          cases hpm : pmF L rk with
          | none =>
            rw [hpm] at hrun
            simp only [Option.isSome_none] at hrun
            gi_wp2
            exact HKEEP.out
          | some u =>
            have hu := hz u hpm
            have hne : ¬ z = rs := fun e => hin (by rw [hpm, ← hu, e])
            rw [hpm] at hrun
            simp only [Option.isSome_some] at hrun
            gi_wp2
            exact HKEEP.out
      case hdone =>
        rintro ys V rfl hI hD
        have k5 : V.cell? ⟨q5, 0, none⟩ = some (.slice (some ⟨G, 0, none⟩) M.B M.B) := (World.cell?_of_block ((hI.2.block (by omega) (.inl ⟨hq5l, hq5n⟩)).trans ((HB6.out.block q5 (by omega)).trans (HL.out.2.2.block q5 hq5l hq5n)))).trans (by simp [World.cell?, X5.out])
        have HI := Lib.hid hI
        have H6S := Lib.hid h6s
        have HD := Lib.hid hD
        clear hI h6s hz0 hge hw0 hD
        gi_wp2
        exact tabs_leave HI.out HB0.out HL.out.2.2 HB6.out (by have := H6S.out; omega) (by have := HZ.out; have := HGE.out; omega) HD.out _ fun W' => by simp [results, Try.results40, go_sem]
end
end Go.Proofs.Ytnadcdgpfopcaaa
