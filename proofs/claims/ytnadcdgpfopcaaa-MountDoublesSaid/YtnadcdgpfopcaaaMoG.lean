/- A scan: Step's walk. -/
import Derived.Test.YtnadcdgpfopcaaaMoF
import Derived.Test.YtnadcdgpfopcaaaMoR
namespace Go.Proofs.Ytnadcdgpfopcaaa
open Go.RowKit Go.Shelf

attribute [local go_sem] Oper.semAt_some

section
variable {w w' : World} {s c cap : Nat} {x y Y F : Nat → Prop} {v : Value} {A : Option Addr} {M : MS} {S S' : LS}
/-- What is read of a page, and what it leaves. -/
def ReadOut (Q w2 : World) (sp : P2) (A8 : Option Addr) (L8 : List UInt8) (S : LS) (Y : Nat → Prop) (c : Nat) : Prop :=
  Hid (L8 = (rdL S sp.1 sp.2).1) ∧ CB w2 (New Q w2) A8 L8 ∧ Held w2 c (fun b => Y b ∨ New Q w2 b) (rdL S sp.1 sp.2).2.2 ∧ Safe Y Q w2
variable {w2 w3 w6 W1 : World} {X Z Y1 : Nat → Prop} {v1 : Value} {A1 : Option Addr} {cap1 : Nat} {M1 Mn : MS}
/-- These have come behind K alone. -/
def Cl (l : List Nat) (K : Nat) (d : Nat → Bool) : Prop := ∀ j ∈ l, d j = true → d K = true
theorem Cl.next {l : List Nat} {K i : Nat} {d : Nat → Bool} (h : Cl l K d) (hk : i ∉ l ∨ d K = true) : Cl l K (also d i) := fun j hj hd => by
  by_cases e : K = i
  · rw [e]; exact also_same d i
  · have hK : d K = true → also d i K = true := fun h => by unfold Go.Proofs.Ytnadcdgpfopcaaa.also; rwa [if_neg e]
    rcases hk with hk | hk
    · exact hK (h j hj (also_ne (fun e => hk (by rw [← e]; exact hj)) hd))
    · exact hK hk
/-- A round, seen from memory. -/
theorem SInv.round {e : Ending} (m1 : ScanAt W1 s c Y1 v1 A1 cap1 M1) (m2 : ∀ b, (Z b ∨ (w6.heap.size ≤ b ∧ b < W1.heap.size)) → Y1 b) (m3 : ∀ b, X b → Far s Y1 v1 A1 M1.rd b) (m4 : Safe X w6 W1) (hs : Safe Y1 W1.drew w2)
    (hn : NotePost s c X (fun b => Y1 b ∨ New W1.drew w2 b) v1 Mn w2 e w3) : KeepsFrom w6.heap.size W1 w3 ∧ SInv w6 s c X Z Mn w3 := by
  obtain ⟨-, ⟨v', A', cap', n1, n2⟩, n3⟩ := hn
  have z1 := hs.size
  have z2 := n3.size
  have z0 : W1.drew.heap.size = W1.heap.size := rfl
  refine ⟨⟨by omega, fun k o hk ho hc => ?_⟩, _, v', A', cap', n1, fun b hb => ?_, n2, m4.then ?_⟩
  · have hkl := (Array.getElem?_eq_some_iff.1 ho).1
    have hy := m2 k (.inr ⟨hk, hkl⟩)
    obtain ⟨f1, f2, -⟩ := m1.noncells ho hc
    exact ((n3.block k (by omega) fun k2 => k2.elim f1 f2).trans (hs.block hkl hy)).trans ho
  · rcases hb with hb | ⟨hb, hb2⟩
    · exact .inl (.inl (m2 b (.inl hb)))
    · rcases Nat.lt_or_ge b W1.heap.size with k | k
      · exact .inl (.inl (m2 b (.inr ⟨hb, k⟩)))
      · rcases Nat.lt_or_ge b w2.heap.size with k2 | k2
        · exact .inl (.inr ⟨by omega, k2⟩)
        · exact .inr ⟨k2, hb2⟩
  · have a1 : Safe X W1 w2 := ⟨hs.os, hs.tape, hs.output, hs.size, fun i hi k => hs.block hi ((m3 i (Classical.byContradiction fun h => k h)).1)⟩
    exact a1.then ⟨n3.os, n3.tape, n3.output, n3.size, fun i hi k => n3.block i hi fun k2 => by
      have := m3 i (Classical.byContradiction fun h => k h)
      exact k2.elim this.2.1 this.2.2.1⟩
theorem SInv.reads {b1 b2 b3 B P fr en : Nat} (h : SInv w6 s c X Z Mn w3) (hbl : Mn.S.bl = S.bl) (hnp : Mn.S.np = S.np) (hB : Mn.B = B) (hP : Mn.P = P) (hX : X b1 ∧ X b2 ∧ X b3) (hR : Reads w6.heap.size s c b1 b2 b3 Z B P fr en S w6) : Reads w6.heap.size s c b1 b2 b3 Z B P fr en S w3 := by
  obtain ⟨Y, v, A, cap, n1, n2, n3, n4⟩ := h
  obtain ⟨l1, l2, l3, l4, l5⟩ := hR.lt
  have p := n1.parts
  rw [← hB, ← hP]
  refine ⟨p.c0, p.c1, p.c2, ?_, ?_, ?_, ⟨Mn.S, n1.chip.less n2, hbl, hnp⟩, l1, l2, l3, l4, n4.size⟩
  · exact (World.cell?_of_block (n4.block l2 hX.1)).trans hR.x1
  · exact (World.cell?_of_block (n4.block l3 hX.2.1)).trans hR.x2
  · exact (World.cell?_of_block (n4.block l4 hX.2.2)).trans hR.x3
theorem SInv.cell3 (h : SInv w6 s c X Z Mn w3) : w3.frozen? ⟨s, 3, none⟩ = false ∧ w3.cell? ⟨s, 3, none⟩ = some (.int .i64 Mn.k) ∧ s < w3.heap.size := by
  obtain ⟨Y, v, A, cap, n1, -, -, -⟩ := h
  exact ⟨n1.parts.fr 3, n1.parts.c3, n1.lt⟩
theorem SInv.behind (h : SInv w6 s c X Z Mn w3) (E : Nat) (V : World) (hV : V = w3.setCell ⟨s, 3, none⟩ (.int .i64 E)) : SInv w6 s c X Z { Mn with k := E } V := by
  obtain ⟨Y, v, A, cap, n1, n2, n3, n4⟩ := h
  have far : ∀ b, b ≠ s → V.heap[b]? = w3.heap[b]? := fun b hb => by rw [hV]; exact Below.heap_setCell w3 ⟨s, 3, none⟩ _ b hb
  have hs : V.heap.size = w3.heap.size := by rw [hV]; simp
  have ht : Turned (fun b => b = s) w3 V := ⟨by rw [hV]; rfl, by rw [hV]; rfl, by rw [hV]; rfl, by omega, fun i _ k => far i k⟩
  refine ⟨Y, v, A, cap, ⟨?_, ?_, own_keep n1.own fun k e => far k (n1.vY k e).2, n1.data.keep (fun b hb => far b hb.2.1) fun _ hb => hb, n1.sY, n1.vY⟩, fun b hb => n2 b (by rw [← hs]; exact hb), n3, n4.then ?_⟩
  · rw [hV, heap_setCell_same w3 s 3 _ _ _ n1.self]; rfl
  · exact (n1.chip.grow (ht.mono' fun b hb => by rw [hb]; exact n1.sY)).less fun _ k => .inl k
  · exact ht.mono' fun b hb hx => (n3 b hx).2.1 hb
/-- What a step leaves. -/
def StepPost (s c : Nat) (x : Nat → Prop) (M' : MS) (w : World) (e : Ending) (w' : World) : Prop :=
  e = .returned (.tuple #[.bool M'.thr, .int .i64 0]) ∧ Scan w' s c x M' ∧ Safe x w w'
/-- A range over a function whose variable lies in a box of its own, anew in each round. -/
theorem wpIn_rangeFunc_box {α : Type} {F : Fence} {n : Nat} {P : Program} {g : Operand} {ps : Array Tmp} {assign body : Code} {Q : Exit → Act → World → Prop} {a : Act} {w : World}
    (hro : F.round = none) (h1 : 1 ≤ n) {gf : Nat} {lb : Array Value} (hg : a.eval g = .func (.func gf) #[] lb) (hFg : F.fn gf) (eg : ∀ args w, (callFunc gf args).run P w = .ok (.enter gf args) w)
    {encs : α → Array Value} {Kp : World → World → Prop} {S Sp : List α → Prop} {N : Nat} {w0 : World} (hseq : SeqStopsK F (n - 1) P gf lb encs Kp S Sp N w0)
    (hKt : ∀ {A B C : World}, Kp A B → Kp B C → Kp A C) (hKb : ∀ (W : World) (l : Nat) (o o' : Obj), w.heap.size ≤ l → W.heap[l]? = some o → o.isCells = false → o.isWalk = false → Kp W (W.putObj l o')) (hb0 : Below w0.heap.size w0 w) (hps : ∀ x, (encs x).size = ps.size)
    (hKa : ∀ (W : World) (o : Obj), Kp W (W.alloc o)) (cells : α → Obj) (hcl : ∀ x, (cells x).isCells = true)
    (I : List α → World → Prop) (Ix : Code → List α → World → Prop) (hI : OwnFrom w.heap.size I) (hIx : ∀ c, OwnFrom w.heap.size (Ix c)) (h0 : I [] w) (a₁ : α → Nat → Act)
    (hassign : ∀ (l : Nat) (x : α) (W : World) (K : Act → World → Prop), (∀ q, W.heap.size = q → K (a₁ x q) (W.alloc (cells x))) →
      assign.wpIn (F.inRound l) (n - 1 - 1) P (Exit.then K (fun _ _ _ => False)) { tmps := (ps.zip (encs x)).foldl (fun t (p, v) => t.setIfInBounds p v) a.tmps, defers := [] } W)
    (hsz : ∀ pre W, I pre W → w.heap.size ≤ W.heap.size)
    (hbody : ∀ (l : Nat) (pre : List α) (x : α) (q : Nat) (W : World), I pre W → pre.length < N → W.heap[q]? = some (cells x) → w.heap.size ≤ q → body.wpIn (F.inRound l) (n - 1 - 1) P (ownPostG w.heap.size Kp I Ix (pre ++ [x]) W) (a₁ x q) W)
    (hdone : ∀ (D : Nat) (xs : List α) (W : World), w.heap.size ≤ D → S xs → I xs W → W.heap[D]? = some (.deferred (some [])) → Q .normal { a with defers := { target := .collected D, args := #[] } :: a.defers } W)
    (hstop : ∀ (D : Nat) (c : Code) (pre : List α) (W : World), w.heap.size ≤ D → Sp pre → Ix c pre W → W.heap[D]? = some (.deferred (some [])) → c.wpIn F n P Q { a with defers := { target := .collected D, args := #[] } :: a.defers } W) :
    (Code.rangeFunc g ps assign body).wpIn F n P Q a w :=
  wpIn_rangeFunc_ownH hro h1 hg hFg eg hseq (fun h k => hKt h k) hKb hb0 hps I Ix hI hIx h0 (fun x a' W => ∃ q, a' = a₁ x q ∧ W.heap[q]? = some (cells x) ∧ w.heap.size ≤ q)
    (fun x _ => fun _ W W' row ⟨q, e, hq, hs⟩ hg hr => ⟨q, e, (hg.block q (Array.getElem?_eq_some_iff.1 hq).1 fun e => by
      obtain ⟨-, o, ho, hc⟩ := hr q e.symm
      rw [hq] at ho
      cases ho
      rw [hcl x] at hc
      cases hc).trans hq, hs⟩)
    (fun l pre x W K hi hK => hassign l x W K fun q hq => hK _ _ (keepsFrom_below ((Below.refl _ W).alloc (Nat.le_refl _) _)) (hKa W _) (hI _ _ _ none hi (World.grownBy_alloc W _ none) fun _ e => by cases e) ⟨q, rfl, by rw [← hq]; exact heap_alloc_new W _, by rw [← hq]; exact hsz pre W hi⟩)
    (fun l pre x a' W _ _ hi ⟨q, e, hq, hs⟩ hp => by subst e; exact hbody l pre x q W hi hp hq hs) hdone hstop
/-- The iterator's boxes. -/
def WBox (V : World) (B0 s fr en b1 b2 b3 : Nat) : Prop :=
  B0 ≤ b1 ∧ b1 < V.heap.size ∧ B0 ≤ b2 ∧ b2 < V.heap.size ∧ B0 ≤ b3 ∧ b3 < V.heap.size ∧ V.cell? ⟨b1, 0, none⟩ = some (PtrV s) ∧ V.cell? ⟨b2, 0, none⟩ = some (.int .i64 fr) ∧ V.cell? ⟨b3, 0, none⟩ = some (.int .i64 en)
theorem step_leave {D m : Nat} {V : World} (h : SInv w6 s c X Z Mn V) (hb6 : Below w.heap.size w w6) (hx : ∀ b, x b → X b) (hD : w6.heap.size ≤ D) (hd : V.heap[D]? = some (.deferred (some []))) (hXl : ∀ b, X b → b < w6.heap.size) (tmps : Array Value)
    (hr : ∀ W' : World, (results Try.f15 tmps).run Try.prog W' = .ok (.tuple #[.bool Mn.thr, .int .i64 0]) W') :
    LeavesInM Fence.wide m Try.prog Try.f15 tmps (StepPost s c x Mn w) [{ target := Target.collected D, args := #[] }] .returning V := by
  refine ⟨by simp, .inl ⟨_, _, rfl, run_takeDeferred hd, ?_⟩⟩
  have h2 := h.grow (turned_grown (grownBy_putObj' V D (.deferred none))) (fun b e => by cases e; exact ⟨hD, (Array.getElem?_eq_some_iff.1 hd).1, _, hd, rfl⟩) hXl
  obtain ⟨Y, v, A, cap, n1, n2, n3, n4⟩ := h2
  refine ⟨_, hr _, rfl, ⟨Y, v, A, cap, n1, fun b hb => n3 b (hx b hb)⟩, ?_⟩
  exact (safe_of_below hb6).then (n4.mono' fun b hb k => hb (hx b k))
set_option maxRecDepth 100000 in
set_option maxHeartbeats 6000000 in
theorem m_step (n : Int) (h : Scan w s c x M) (good : MGood M) (hn : 1 ≤ n ∧ n ≤ 9223372036854775807) (hdk : M.S.dark = false) : Calls Try.prog 15 #[PtrV s, .int .i64 n] w (StepPost s c x (M.stepped n) w) := by
  have hB := good.ok.mul
  obtain ⟨N, hN⟩ : ∃ N, M.B * M.P = N := ⟨_, rfl⟩
  rw [hN] at hB
  have hkN : M.k ≤ N := by rw [← hN]; exact good.ok.k
  obtain ⟨m, hm⟩ : ∃ m, m = min n.toNat (N - M.k) := ⟨_, rfl⟩
  obtain ⟨E, hE⟩ : ∃ E, E = M.k + m := ⟨_, rfl⟩
  have hEE : Hid (M.end_ n = E) := Lib.hid (by rw [hE, hm]; unfold MS.end_; rw [hN])
  have hEN : E ≤ 2048 := by omega
  have hmul : IntKind.i64.wrap ((M.B : Int) * (M.P : Int)) = (N : Int) := by rw [i64w_id _ (by rw [← Int.natCast_mul, hN]; omega), ← Int.natCast_mul, hN]
  have hmin : min n ((N : Int) - (M.k : Int)) = (m : Int) := by omega
  have hadd : (M.k : Int) + (m : Int) = (E : Int) := by omega
  have HN := Lib.hid hN
  have HMul := Lib.hid hmul
  have HMin := Lib.hid hmin
  have HAdw : Hid (IntKind.i64.wrap ((M.k : Int) + (m : Int)) = (E : Int)) := Lib.hid (by rw [i64w_id _ (by omega)]; exact hadd)
  have HSub : Hid (IntKind.i64.wrap ((N : Int) - (M.k : Int)) = (N : Int) - (M.k : Int)) := Lib.hid (i64w_id _ (by omega))
  have HG := Lib.hid good
  obtain ⟨hn1, hn2⟩ := hn
  obtain ⟨W, hW⟩ : ∃ W, w.alloc (.cells #[PtrV s] 41) = W := ⟨_, rfl⟩
  have HBW : Hid (Below w.heap.size w W) := Lib.hid (by rw [← hW]; exact (Below.refl _ _).alloc (Nat.le_refl _) _)
  have HWs : Hid (W.heap.size = w.heap.size + 1) := Lib.hid (by rw [← hW]; simp)
  have HBX : Hid (W.cell? ⟨w.heap.size, 0, none⟩ = some (PtrV s)) := Lib.hid (by rw [← hW]; exact (Boxed.new w 41 (PtrV s)).cell)
  have HSC := Lib.hid (h.more HBW.out)
  obtain ⟨Y, v, A, cap, h1, h2⟩ := HSC.out
  have HP := Lib.hid h1.parts
  have HCH := Lib.hid h1.chip
  have H1 := Lib.hid h1
  have H2 := Lib.hid h2
  have bx := HBX.out
  obtain ⟨p0, p1, p2, p3, p4, p5, p6, p7, p8, p9⟩ := h1.parts
  have HDK := Lib.hid hdk
  have HSL := Lib.hid h.lt
  clear h good hN hmul hmin hadd hm hE h1 h2 hdk p5 p6 p7 p8 p9
  refine callsIn_wide.1 (callsIn_of_wp_marks (n := 3) Try.func15 rfl trivial ?_ rfl)
  simp only [Try.ntmps15, List.size_toArray, List.length_cons, List.length_nil, Nat.reduceAdd, Nat.reduceSub, Array.replicate_succ, Array.replicate_zero, List.push_toArray, List.append_toArray, List.nil_append, List.cons_append]
  gi_wp2_with (first
    | (refine ⟨trivial, ?_⟩; (try refine ⟨wide_depth _, ?_⟩); gi_at_call 34; refine (callsIn_wide.2 (m_is HP.out)).mono ?_; rintro e w1 ⟨rfl, hw1⟩; obtain rfl := hw1)
    | (refine ⟨trivial, ?_⟩; (try refine ⟨wide_depth _, ?_⟩); gi_at_call 35; refine (callsIn_wide.2 (held_down HCH.out)).mono ?_; rintro e w1 ⟨rfl, hw1⟩; obtain rfl := hw1.symm; rw [HDK.out]))
  clear hW
  refine region_inv_w2 (fun j v w' => match j with | 0 => v = .pointer (some ⟨s, 0, none⟩) | 1 => v = .pointer (some ⟨s, 0, none⟩) | 2 => v = .pointer (some ⟨s, 3, none⟩) | 3 => v = .int .i64 M.k | 4 => v = .int .i64 n | 5 => v = .pointer (some ⟨s, 0, none⟩) | 6 => v = .pointer (some ⟨s, 0, none⟩) | 7 => v = .pointer (some ⟨s, 1, none⟩) | 8 => v = .int .i64 M.B | 9 => v = .pointer (some ⟨s, 0, none⟩) | 10 => v = .pointer (some ⟨s, 0, none⟩) | 11 => v = .pointer (some ⟨s, 2, none⟩) | 12 => v = .int .i64 M.P | 13 => v = .int .i64 N | 14 => v = .pointer (some ⟨s, 0, none⟩) | 15 => v = .pointer (some ⟨s, 0, none⟩) | 16 => v = .pointer (some ⟨s, 3, none⟩) | 17 => v = .int .i64 M.k | 18 => v = .int .i64 ((N : Int) - (M.k : Int)) | 19 => v = .int .i64 m | 20 => v = .int .i64 E | 21 => v = .int .i64 E | _ => True) (fun _ w' => w' = W.drew) (by kernel_rfl) (by kernel_rfl) (by kernel_rfl) (by kernel_rfl) ?hG ?hops ?hend
  case hG => exact rfl
  case hops =>
    refine OpsOk2.cons ?o0 (OpsOk2.cons ?o1 (OpsOk2.cons ?o2 (OpsOk2.cons ?o3 (OpsOk2.cons ?o4 (OpsOk2.cons ?o5 (OpsOk2.cons ?o6 (OpsOk2.cons ?o7 (OpsOk2.cons ?o8 (OpsOk2.cons ?o9 (OpsOk2.cons ?o10 (OpsOk2.cons ?o11 (OpsOk2.cons ?o12 (OpsOk2.cons ?o13 (OpsOk2.cons ?o14 (OpsOk2.cons ?o15 (OpsOk2.cons ?o16 (OpsOk2.cons ?o17 (OpsOk2.cons ?o18 (OpsOk2.cons ?o19 (OpsOk2.cons ?o20 (OpsOk2.cons ?o21 OpsOk2.nil)))))))))))))))))))))
    case o0 =>
      intro a w1 d Kx hd hG need old hsz hKx
      have e0 : a.tmps[2]?.getD undef = .pointer (some ⟨w.heap.size, 0, none⟩) := by rw [← Array.getD_eq_getD_getElem?]; exact old 2 (by kernel_rfl)
      have k0 := (by rw [hG]; exact HBX.out : w1.cell? ⟨w.heap.size, 0, none⟩ = some (.pointer (some ⟨s, 0, none⟩)))
      refine op_value (v := .pointer (some ⟨s, 0, none⟩)) (wanted_none rfl) ?_ (hKx _ w1 rfl hG (fun _ _ _ _ h => h))
      simp [execOp, go_sem, e0, k0]
    case o1 =>
      intro a w1 d Kx hd hG need old hsz hKx
      have e0 : a.tmps[22]?.getD undef = .pointer (some ⟨s, 0, none⟩) := by rw [← Array.getD_eq_getD_getElem?]; exact (need 0 (by kernel_rfl) (by kernel_rfl)).2
      refine op_value (v := .pointer (some ⟨s, 0, none⟩)) (wanted_none rfl) ?_ (hKx _ w1 rfl hG (fun _ _ _ _ h => h))
      simp [execOp, go_sem, e0]
    case o2 =>
      intro a w1 d Kx hd hG need old hsz hKx
      have e0 : a.tmps[23]?.getD undef = .pointer (some ⟨s, 0, none⟩) := by rw [← Array.getD_eq_getD_getElem?]; exact (need 1 (by kernel_rfl) (by kernel_rfl)).2
      refine op_value (v := .pointer (some ⟨s, 3, none⟩)) (wanted_none rfl) ?_ (hKx _ w1 rfl hG (fun _ _ _ _ h => h))
      simp [execOp, go_sem, e0]
    case o3 =>
      intro a w1 d Kx hd hG need old hsz hKx
      have e0 : a.tmps[24]?.getD undef = .pointer (some ⟨s, 3, none⟩) := by rw [← Array.getD_eq_getD_getElem?]; exact (need 2 (by kernel_rfl) (by kernel_rfl)).2
      have k0 := (by rw [hG]; exact HP.out.c3 : w1.cell? ⟨s, 3, none⟩ = some (.int .i64 M.k))
      refine op_value (v := .int .i64 M.k) (wanted_none rfl) ?_ (hKx _ w1 rfl hG (fun _ _ _ _ h => h))
      simp [execOp, go_sem, e0, k0]
    case o4 =>
      intro a w1 d Kx hd hG need old hsz hKx
      have e0 : a.tmps[1]?.getD undef = .int .i64 n := by rw [← Array.getD_eq_getD_getElem?]; exact old 1 (by kernel_rfl)
      refine op_value (v := .int .i64 n) (wanted_none rfl) ?_ (hKx _ w1 rfl hG (fun _ _ _ _ h => h))
      simp [execOp, go_sem, e0]
    case o5 =>
      intro a w1 d Kx hd hG need old hsz hKx
      have e0 : a.tmps[2]?.getD undef = .pointer (some ⟨w.heap.size, 0, none⟩) := by rw [← Array.getD_eq_getD_getElem?]; exact old 2 (by kernel_rfl)
      have k0 := (by rw [hG]; exact HBX.out : w1.cell? ⟨w.heap.size, 0, none⟩ = some (.pointer (some ⟨s, 0, none⟩)))
      refine op_value (v := .pointer (some ⟨s, 0, none⟩)) (wanted_none rfl) ?_ (hKx _ w1 rfl hG (fun _ _ _ _ h => h))
      simp [execOp, go_sem, e0, k0]
    case o6 =>
      intro a w1 d Kx hd hG need old hsz hKx
      have e0 : a.tmps[27]?.getD undef = .pointer (some ⟨s, 0, none⟩) := by rw [← Array.getD_eq_getD_getElem?]; exact (need 5 (by kernel_rfl) (by kernel_rfl)).2
      refine op_value (v := .pointer (some ⟨s, 0, none⟩)) (wanted_none rfl) ?_ (hKx _ w1 rfl hG (fun _ _ _ _ h => h))
      simp [execOp, go_sem, e0]
    case o7 =>
      intro a w1 d Kx hd hG need old hsz hKx
      have e0 : a.tmps[28]?.getD undef = .pointer (some ⟨s, 0, none⟩) := by rw [← Array.getD_eq_getD_getElem?]; exact (need 6 (by kernel_rfl) (by kernel_rfl)).2
      refine op_value (v := .pointer (some ⟨s, 1, none⟩)) (wanted_none rfl) ?_ (hKx _ w1 rfl hG (fun _ _ _ _ h => h))
      simp [execOp, go_sem, e0]
    case o8 =>
      intro a w1 d Kx hd hG need old hsz hKx
      have e0 : a.tmps[29]?.getD undef = .pointer (some ⟨s, 1, none⟩) := by rw [← Array.getD_eq_getD_getElem?]; exact (need 7 (by kernel_rfl) (by kernel_rfl)).2
      have k0 := (by rw [hG]; exact HP.out.c1 : w1.cell? ⟨s, 1, none⟩ = some (.int .i64 M.B))
      refine op_value (v := .int .i64 M.B) (wanted_none rfl) ?_ (hKx _ w1 rfl hG (fun _ _ _ _ h => h))
      simp [execOp, go_sem, e0, k0]
    case o9 =>
      intro a w1 d Kx hd hG need old hsz hKx
      have e0 : a.tmps[2]?.getD undef = .pointer (some ⟨w.heap.size, 0, none⟩) := by rw [← Array.getD_eq_getD_getElem?]; exact old 2 (by kernel_rfl)
      have k0 := (by rw [hG]; exact HBX.out : w1.cell? ⟨w.heap.size, 0, none⟩ = some (.pointer (some ⟨s, 0, none⟩)))
      refine op_value (v := .pointer (some ⟨s, 0, none⟩)) (wanted_none rfl) ?_ (hKx _ w1 rfl hG (fun _ _ _ _ h => h))
      simp [execOp, go_sem, e0, k0]
    case o10 =>
      intro a w1 d Kx hd hG need old hsz hKx
      have e0 : a.tmps[31]?.getD undef = .pointer (some ⟨s, 0, none⟩) := by rw [← Array.getD_eq_getD_getElem?]; exact (need 9 (by kernel_rfl) (by kernel_rfl)).2
      refine op_value (v := .pointer (some ⟨s, 0, none⟩)) (wanted_none rfl) ?_ (hKx _ w1 rfl hG (fun _ _ _ _ h => h))
      simp [execOp, go_sem, e0]
    case o11 =>
      intro a w1 d Kx hd hG need old hsz hKx
      have e0 : a.tmps[32]?.getD undef = .pointer (some ⟨s, 0, none⟩) := by rw [← Array.getD_eq_getD_getElem?]; exact (need 10 (by kernel_rfl) (by kernel_rfl)).2
      refine op_value (v := .pointer (some ⟨s, 2, none⟩)) (wanted_none rfl) ?_ (hKx _ w1 rfl hG (fun _ _ _ _ h => h))
      simp [execOp, go_sem, e0]
    case o12 =>
      intro a w1 d Kx hd hG need old hsz hKx
      have e0 : a.tmps[33]?.getD undef = .pointer (some ⟨s, 2, none⟩) := by rw [← Array.getD_eq_getD_getElem?]; exact (need 11 (by kernel_rfl) (by kernel_rfl)).2
      have k0 := (by rw [hG]; exact HP.out.c2 : w1.cell? ⟨s, 2, none⟩ = some (.int .i64 M.P))
      refine op_value (v := .int .i64 M.P) (wanted_none rfl) ?_ (hKx _ w1 rfl hG (fun _ _ _ _ h => h))
      simp [execOp, go_sem, e0, k0]
    case o13 =>
      intro a w1 d Kx hd hG need old hsz hKx
      have e0 : a.tmps[30]?.getD undef = .int .i64 M.B := by rw [← Array.getD_eq_getD_getElem?]; exact (need 8 (by kernel_rfl) (by kernel_rfl)).2
      have e1 : a.tmps[34]?.getD undef = .int .i64 M.P := by rw [← Array.getD_eq_getD_getElem?]; exact (need 12 (by kernel_rfl) (by kernel_rfl)).2
      refine op_value (v := .int .i64 N) (wanted_none rfl) ?_ (hKx _ w1 rfl hG (fun _ _ _ _ h => h))
      simp [execOp, go_sem, e0, e1, HMul.out]
    case o14 =>
      intro a w1 d Kx hd hG need old hsz hKx
      have e0 : a.tmps[2]?.getD undef = .pointer (some ⟨w.heap.size, 0, none⟩) := by rw [← Array.getD_eq_getD_getElem?]; exact old 2 (by kernel_rfl)
      have k0 := (by rw [hG]; exact HBX.out : w1.cell? ⟨w.heap.size, 0, none⟩ = some (.pointer (some ⟨s, 0, none⟩)))
      refine op_value (v := .pointer (some ⟨s, 0, none⟩)) (wanted_none rfl) ?_ (hKx _ w1 rfl hG (fun _ _ _ _ h => h))
      simp [execOp, go_sem, e0, k0]
    case o15 =>
      intro a w1 d Kx hd hG need old hsz hKx
      have e0 : a.tmps[36]?.getD undef = .pointer (some ⟨s, 0, none⟩) := by rw [← Array.getD_eq_getD_getElem?]; exact (need 14 (by kernel_rfl) (by kernel_rfl)).2
      refine op_value (v := .pointer (some ⟨s, 0, none⟩)) (wanted_none rfl) ?_ (hKx _ w1 rfl hG (fun _ _ _ _ h => h))
      simp [execOp, go_sem, e0]
    case o16 =>
      intro a w1 d Kx hd hG need old hsz hKx
      have e0 : a.tmps[37]?.getD undef = .pointer (some ⟨s, 0, none⟩) := by rw [← Array.getD_eq_getD_getElem?]; exact (need 15 (by kernel_rfl) (by kernel_rfl)).2
      refine op_value (v := .pointer (some ⟨s, 3, none⟩)) (wanted_none rfl) ?_ (hKx _ w1 rfl hG (fun _ _ _ _ h => h))
      simp [execOp, go_sem, e0]
    case o17 =>
      intro a w1 d Kx hd hG need old hsz hKx
      have e0 : a.tmps[38]?.getD undef = .pointer (some ⟨s, 3, none⟩) := by rw [← Array.getD_eq_getD_getElem?]; exact (need 16 (by kernel_rfl) (by kernel_rfl)).2
      have k0 := (by rw [hG]; exact HP.out.c3 : w1.cell? ⟨s, 3, none⟩ = some (.int .i64 M.k))
      refine op_value (v := .int .i64 M.k) (wanted_none rfl) ?_ (hKx _ w1 rfl hG (fun _ _ _ _ h => h))
      simp [execOp, go_sem, e0, k0]
    case o18 =>
      intro a w1 d Kx hd hG need old hsz hKx
      have e0 : a.tmps[35]?.getD undef = .int .i64 N := by rw [← Array.getD_eq_getD_getElem?]; exact (need 13 (by kernel_rfl) (by kernel_rfl)).2
      have e1 : a.tmps[39]?.getD undef = .int .i64 M.k := by rw [← Array.getD_eq_getD_getElem?]; exact (need 17 (by kernel_rfl) (by kernel_rfl)).2
      refine op_value (v := .int .i64 ((N : Int) - (M.k : Int))) (wanted_none rfl) ?_ (hKx _ w1 rfl hG (fun _ _ _ _ h => h))
      simp [execOp, go_sem, e0, e1, HSub.out]
    case o19 =>
      intro a w1 d Kx hd hG need old hsz hKx
      have e0 : a.tmps[26]?.getD undef = .int .i64 n := by rw [← Array.getD_eq_getD_getElem?]; exact (need 4 (by kernel_rfl) (by kernel_rfl)).2
      have e1 : a.tmps[40]?.getD undef = .int .i64 ((N : Int) - (M.k : Int)) := by rw [← Array.getD_eq_getD_getElem?]; exact (need 18 (by kernel_rfl) (by kernel_rfl)).2
      refine op_value (v := .int .i64 m) (wanted_none rfl) ?_ (hKx _ w1 rfl hG (fun _ _ _ _ h => h))
      simp [go_sem, e0, e1, HMin.out]
    case o20 =>
      intro a w1 d Kx hd hG need old hsz hKx
      have e0 : a.tmps[25]?.getD undef = .int .i64 M.k := by rw [← Array.getD_eq_getD_getElem?]; exact (need 3 (by kernel_rfl) (by kernel_rfl)).2
      have e1 : a.tmps[41]?.getD undef = .int .i64 m := by rw [← Array.getD_eq_getD_getElem?]; exact (need 19 (by kernel_rfl) (by kernel_rfl)).2
      refine op_value (v := .int .i64 E) (wanted_none rfl) ?_ (hKx _ w1 rfl hG (fun _ _ _ _ h => h))
      simp [execOp, go_sem, e0, e1, HAdw.out]
    case o21 =>
      intro a w1 d Kx hd hG need old hsz hKx
      have e0 : a.tmps[42]?.getD undef = .int .i64 E := by rw [← Array.getD_eq_getD_getElem?]; exact (need 20 (by kernel_rfl) (by kernel_rfl)).2
      refine op_value (v := .int .i64 E) (wanted_none rfl) ?_ (hKx _ w1 rfl hG (fun _ _ _ _ h => h))
      simp [execOp, go_sem, e0]
  case hend =>
    intro a w6 d hG hφ hde hsz hold
    obtain rfl := act_puts [(22, .pointer (some ⟨s, 0, none⟩)), (23, .pointer (some ⟨s, 0, none⟩)), (24, .pointer (some ⟨s, 3, none⟩)), (25, .int .i64 M.k), (26, .int .i64 n), (27, .pointer (some ⟨s, 0, none⟩)), (28, .pointer (some ⟨s, 0, none⟩)), (29, .pointer (some ⟨s, 1, none⟩)), (30, .int .i64 M.B), (31, .pointer (some ⟨s, 0, none⟩)), (32, .pointer (some ⟨s, 0, none⟩)), (33, .pointer (some ⟨s, 2, none⟩)), (34, .int .i64 M.P), (35, .int .i64 N), (36, .pointer (some ⟨s, 0, none⟩)), (37, .pointer (some ⟨s, 0, none⟩)), (38, .pointer (some ⟨s, 3, none⟩)), (39, .int .i64 M.k), (40, .int .i64 ((N : Int) - (M.k : Int))), (41, .int .i64 m), (42, .int .i64 E), (6, .int .i64 E)] [22, 23, 24, 25, 26, 27, 28, 29, 30, 31, 32, 33, 34, 35, 36, 37, 38, 39, 40, 41, 42, 6] rfl (by kernel_rfl) (by kernel_rfl) hde hsz (List.forall_mem_cons.2 ⟨(show a.tmps.getD 22 undef = .pointer (some ⟨s, 0, none⟩) from (hφ 0 (by kernel_rfl)).2), (List.forall_mem_cons.2 ⟨(show a.tmps.getD 23 undef = .pointer (some ⟨s, 0, none⟩) from (hφ 1 (by kernel_rfl)).2), (List.forall_mem_cons.2 ⟨(show a.tmps.getD 24 undef = .pointer (some ⟨s, 3, none⟩) from (hφ 2 (by kernel_rfl)).2), (List.forall_mem_cons.2 ⟨(show a.tmps.getD 25 undef = .int .i64 M.k from (hφ 3 (by kernel_rfl)).2), (List.forall_mem_cons.2 ⟨(show a.tmps.getD 26 undef = .int .i64 n from (hφ 4 (by kernel_rfl)).2), (List.forall_mem_cons.2 ⟨(show a.tmps.getD 27 undef = .pointer (some ⟨s, 0, none⟩) from (hφ 5 (by kernel_rfl)).2), (List.forall_mem_cons.2 ⟨(show a.tmps.getD 28 undef = .pointer (some ⟨s, 0, none⟩) from (hφ 6 (by kernel_rfl)).2), (List.forall_mem_cons.2 ⟨(show a.tmps.getD 29 undef = .pointer (some ⟨s, 1, none⟩) from (hφ 7 (by kernel_rfl)).2), (List.forall_mem_cons.2 ⟨(show a.tmps.getD 30 undef = .int .i64 M.B from (hφ 8 (by kernel_rfl)).2), (List.forall_mem_cons.2 ⟨(show a.tmps.getD 31 undef = .pointer (some ⟨s, 0, none⟩) from (hφ 9 (by kernel_rfl)).2), (List.forall_mem_cons.2 ⟨(show a.tmps.getD 32 undef = .pointer (some ⟨s, 0, none⟩) from (hφ 10 (by kernel_rfl)).2), (List.forall_mem_cons.2 ⟨(show a.tmps.getD 33 undef = .pointer (some ⟨s, 2, none⟩) from (hφ 11 (by kernel_rfl)).2), (List.forall_mem_cons.2 ⟨(show a.tmps.getD 34 undef = .int .i64 M.P from (hφ 12 (by kernel_rfl)).2), (List.forall_mem_cons.2 ⟨(show a.tmps.getD 35 undef = .int .i64 N from (hφ 13 (by kernel_rfl)).2), (List.forall_mem_cons.2 ⟨(show a.tmps.getD 36 undef = .pointer (some ⟨s, 0, none⟩) from (hφ 14 (by kernel_rfl)).2), (List.forall_mem_cons.2 ⟨(show a.tmps.getD 37 undef = .pointer (some ⟨s, 0, none⟩) from (hφ 15 (by kernel_rfl)).2), (List.forall_mem_cons.2 ⟨(show a.tmps.getD 38 undef = .pointer (some ⟨s, 3, none⟩) from (hφ 16 (by kernel_rfl)).2), (List.forall_mem_cons.2 ⟨(show a.tmps.getD 39 undef = .int .i64 M.k from (hφ 17 (by kernel_rfl)).2), (List.forall_mem_cons.2 ⟨(show a.tmps.getD 40 undef = .int .i64 ((N : Int) - (M.k : Int)) from (hφ 18 (by kernel_rfl)).2), (List.forall_mem_cons.2 ⟨(show a.tmps.getD 41 undef = .int .i64 m from (hφ 19 (by kernel_rfl)).2), (List.forall_mem_cons.2 ⟨(show a.tmps.getD 42 undef = .int .i64 E from (hφ 20 (by kernel_rfl)).2), (List.forall_mem_cons.2 ⟨(show a.tmps.getD 6 undef = .int .i64 E from (hφ 21 (by kernel_rfl)).2), (fun _ h => absurd h (by simp))⟩)⟩)⟩)⟩)⟩)⟩)⟩)⟩)⟩)⟩)⟩)⟩)⟩)⟩)⟩)⟩)⟩)⟩)⟩)⟩)⟩)⟩) hold
    clear hφ hold hsz hde
    simp only [putAll]
    obtain rfl := hG
    go_frame
    gi_wp2
    refine region_inv_w2 (fun j v w' => match j with | 0 => v = .pointer (some ⟨s, 0, none⟩) | 1 => v = .pointer (some ⟨s, 0, none⟩) | 2 => v = .pointer (some ⟨s, 0, none⟩) | 3 => v = .pointer (some ⟨s, 3, none⟩) | 4 => v = .int .i64 M.k | 5 => v = .int .i64 E | 6 => ∃ b1 b2 b3, v = .func (.func 53) #[] #[.pointer (some ⟨b1, 0, none⟩), .pointer (some ⟨b2, 0, none⟩), .pointer (some ⟨b3, 0, none⟩)] ∧ WBox w' W.heap.size s M.k E b1 b2 b3 | _ => True) (fun _ w' => Below W.heap.size W w') (by kernel_rfl) (by kernel_rfl) (by kernel_rfl) (by kernel_rfl) ?hG ?hops ?hend
    case hG => exact ((Below.refl _ W).drew).drew
    case hops =>
      refine OpsOk2.cons ?o0 (OpsOk2.cons ?o1 (OpsOk2.cons ?o2 (OpsOk2.cons ?o3 (OpsOk2.cons ?o4 (OpsOk2.cons ?o5 (OpsOk2.cons ?o6 OpsOk2.nil))))))
      case o0 =>
        intro a w1 d Kx hd hG need old hsz hKx
        have e0 : a.tmps[2]?.getD undef = .pointer (some ⟨w.heap.size, 0, none⟩) := by rw [← Array.getD_eq_getD_getElem?]; exact old 2 (by kernel_rfl)
        have k0 := ((hG.cell (p := ⟨w.heap.size, 0, none⟩) (by have := HWs.out; show w.heap.size < W.heap.size; omega)).trans HBX.out : w1.cell? ⟨w.heap.size, 0, none⟩ = some (.pointer (some ⟨s, 0, none⟩)))
        refine op_value (v := .pointer (some ⟨s, 0, none⟩)) (wanted_none rfl) ?_ (hKx _ w1 rfl hG (fun _ _ _ _ h => h))
        simp [execOp, go_sem, e0, k0]
      case o1 =>
        intro a w1 d Kx hd hG need old hsz hKx
        have e0 : a.tmps[2]?.getD undef = .pointer (some ⟨w.heap.size, 0, none⟩) := by rw [← Array.getD_eq_getD_getElem?]; exact old 2 (by kernel_rfl)
        have k0 := ((hG.cell (p := ⟨w.heap.size, 0, none⟩) (by have := HWs.out; show w.heap.size < W.heap.size; omega)).trans HBX.out : w1.cell? ⟨w.heap.size, 0, none⟩ = some (.pointer (some ⟨s, 0, none⟩)))
        refine op_value (v := .pointer (some ⟨s, 0, none⟩)) (wanted_none rfl) ?_ (hKx _ w1 rfl hG (fun _ _ _ _ h => h))
        simp [execOp, go_sem, e0, k0]
      case o2 =>
        intro a w1 d Kx hd hG need old hsz hKx
        have e0 : a.tmps[44]?.getD undef = .pointer (some ⟨s, 0, none⟩) := by rw [← Array.getD_eq_getD_getElem?]; exact (need 1 (by kernel_rfl) (by kernel_rfl)).2
        refine op_value (v := .pointer (some ⟨s, 0, none⟩)) (wanted_none rfl) ?_ (hKx _ w1 rfl hG (fun _ _ _ _ h => h))
        simp [execOp, go_sem, e0]
      case o3 =>
        intro a w1 d Kx hd hG need old hsz hKx
        have e0 : a.tmps[45]?.getD undef = .pointer (some ⟨s, 0, none⟩) := by rw [← Array.getD_eq_getD_getElem?]; exact (need 2 (by kernel_rfl) (by kernel_rfl)).2
        refine op_value (v := .pointer (some ⟨s, 3, none⟩)) (wanted_none rfl) ?_ (hKx _ w1 rfl hG (fun _ _ _ _ h => h))
        simp [execOp, go_sem, e0]
      case o4 =>
        intro a w1 d Kx hd hG need old hsz hKx
        have e0 : a.tmps[46]?.getD undef = .pointer (some ⟨s, 3, none⟩) := by rw [← Array.getD_eq_getD_getElem?]; exact (need 3 (by kernel_rfl) (by kernel_rfl)).2
        have k0 := ((hG.cell (p := ⟨s, 3, none⟩) HP.out.lt).trans HP.out.c3 : w1.cell? ⟨s, 3, none⟩ = some (.int .i64 M.k))
        refine op_value (v := .int .i64 M.k) (wanted_none rfl) ?_ (hKx _ w1 rfl hG (fun _ _ _ _ h => h))
        simp [execOp, go_sem, e0, k0]
      case o5 =>
        intro a w1 d Kx hd hG need old hsz hKx
        have e0 : a.tmps[6]?.getD undef = .int .i64 E := by rw [← Array.getD_eq_getD_getElem?]; exact old 6 (by kernel_rfl)
        refine op_value (v := .int .i64 E) (wanted_none rfl) ?_ (hKx _ w1 rfl hG (fun _ _ _ _ h => h))
        simp [execOp, go_sem, e0]
      case o6 =>
        intro a w1 d Kx hd hG need old hsz hKx
        have e0 : a.tmps[43]?.getD undef = .pointer (some ⟨s, 0, none⟩) := by rw [← Array.getD_eq_getD_getElem?]; exact (need 0 (by kernel_rfl) (by kernel_rfl)).2
        have e1 : a.tmps[47]?.getD undef = .int .i64 M.k := by rw [← Array.getD_eq_getD_getElem?]; exact (need 4 (by kernel_rfl) (by kernel_rfl)).2
        have e2 : a.tmps[48]?.getD undef = .int .i64 E := by rw [← Array.getD_eq_getD_getElem?]; exact (need 5 (by kernel_rfl) (by kernel_rfl)).2
        refine op_call (wanted_none rfl) (f := 36) (args := #[.pointer (some ⟨s, 0, none⟩), .int .i64 M.k, .int .i64 E]) ?run ((m_written (s := s) M.k E w1).mono ?post)
        case run => simp [go_sem, e0, e1, e2]
        case post =>
          rintro e w2 ⟨rfl, q1, q2, q3, q4, q5⟩
          have hz := hG.size
          refine ⟨_, rfl, hKx _ w2 ⟨w1.heap.size, w1.heap.size + 1, w1.heap.size + 1 + 1, rfl, ⟨by omega, by omega, by omega, by omega, by omega, by omega, q3, q4, q5⟩⟩ (hG.trans (q2.mono hz)) ?_⟩
          intro j u hj _ hu
          match j, hu with
          | 0, hu => exact hu
          | 1, hu => exact hu
          | 2, hu => exact hu
          | 3, hu => exact hu
          | 4, hu => exact hu
          | 5, hu => exact hu
          | 6, _ => exact absurd rfl hj
          | _ + 7, _ => exact trivial
    case hend =>
      intro a w6 d hG hφ hde hsz hold
      obtain ⟨b1_6, b2_6, b3_6, hv_6, hp_6⟩ := (hφ 6 (by kernel_rfl)).2
      obtain rfl := act_puts [(43, .pointer (some ⟨s, 0, none⟩)), (44, .pointer (some ⟨s, 0, none⟩)), (45, .pointer (some ⟨s, 0, none⟩)), (46, .pointer (some ⟨s, 3, none⟩)), (47, .int .i64 M.k), (48, .int .i64 E), (49, .func (.func 53) #[] #[.pointer (some ⟨b1_6, 0, none⟩), .pointer (some ⟨b2_6, 0, none⟩), .pointer (some ⟨b3_6, 0, none⟩)])] [43, 44, 45, 46, 47, 48, 49] rfl (by kernel_rfl) (by kernel_rfl) hde hsz (List.forall_mem_cons.2 ⟨(show a.tmps.getD 43 undef = .pointer (some ⟨s, 0, none⟩) from (hφ 0 (by kernel_rfl)).2), (List.forall_mem_cons.2 ⟨(show a.tmps.getD 44 undef = .pointer (some ⟨s, 0, none⟩) from (hφ 1 (by kernel_rfl)).2), (List.forall_mem_cons.2 ⟨(show a.tmps.getD 45 undef = .pointer (some ⟨s, 0, none⟩) from (hφ 2 (by kernel_rfl)).2), (List.forall_mem_cons.2 ⟨(show a.tmps.getD 46 undef = .pointer (some ⟨s, 3, none⟩) from (hφ 3 (by kernel_rfl)).2), (List.forall_mem_cons.2 ⟨(show a.tmps.getD 47 undef = .int .i64 M.k from (hφ 4 (by kernel_rfl)).2), (List.forall_mem_cons.2 ⟨(show a.tmps.getD 48 undef = .int .i64 E from (hφ 5 (by kernel_rfl)).2), (List.forall_mem_cons.2 ⟨(show a.tmps.getD 49 undef = .func (.func 53) #[] #[.pointer (some ⟨b1_6, 0, none⟩), .pointer (some ⟨b2_6, 0, none⟩), .pointer (some ⟨b3_6, 0, none⟩)] from hv_6), (fun _ h => absurd h (by simp))⟩)⟩)⟩)⟩)⟩)⟩)⟩) hold
      clear hφ hold hsz hde hv_6
      simp only [putAll]
      have HB6 := Lib.hid hG
      obtain ⟨z1, z2, z3, z4, z5, z6, x1, x2, x3⟩ := hp_6
      have hz := hG.size
      have hws := HWs.out
      have HX1 := Lib.hid x1
      have HX2 := Lib.hid x2
      have HX3 := Lib.hid x3
      clear hG x1 x2 x3
      have h6 : ScanAt w6 s c (fun b => Y b ∨ New W w6 b) v A cap M := H1.out.grow (F := fun _ => False) (.of_below HB6.out) fun _ k => k.elim
      have H6 := Lib.hid h6
      have hlow : ∀ b, b < W.heap.size → w6.heap[b]? = W.heap[b]? := fun b hb => HB6.out.block b hb
      have hlt := H1.out.lt
      have hRd : Reads w6.heap.size s c b1_6 b2_6 b3_6 (fun b => Y b ∨ New W w6 b) M.B M.P M.k E M.S w6 :=
        ⟨h6.parts.c0, h6.parts.c1, h6.parts.c2, HX1.out, HX2.out, HX3.out, ⟨M.S, h6.chip.less fun b hb => hb.elim id fun k => by omega, rfl, rfl⟩, by omega, z2, z4, z6, Nat.le_refl _⟩
      have hI0 : SInv w6 s c (fun b => x b ∨ (w.heap.size ≤ b ∧ b < w6.heap.size)) (fun b => Y b ∨ New W w6 b) M w6 := by
        refine ⟨_, v, A, cap, h6, fun b hb => hb.elim id fun k => by omega, fun b hb => ?_, Turned.refl _ _⟩
        rcases hb with hb | hb
        · exact ⟨.inl (H2.out b (.inl hb)).1, (H2.out b (.inl hb)).2⟩
        · rcases Nat.lt_or_ge b W.heap.size with k | k
          · exact ⟨.inl (H2.out b (.inr ⟨hb.1, k⟩)).1, (H2.out b (.inr ⟨hb.1, k⟩)).2⟩
          · exact ⟨.inr ⟨k, hb.2⟩, H1.out.new ⟨k, hb.2⟩⟩
      have HRD := Lib.hid hRd
      have HI0 := Lib.hid hI0
      have hB64 := HG.out.ok.b64.2
      have hP32 := HG.out.ok.p32.2
      clear h6 hRd hI0 hlow
      go_frame
      gi_wp2
      apply wpIn_rangeFunc_box rfl (n := 3) (by omega) (gf := 53) (lb := #[PtrV b1_6, PtrV b2_6, PtrV b3_6]) rfl trivial enters_written
        (written_stops (3 - 1) M.B M.P M.k E hB64 hP32 hEN w6 HRD.out) (fun h k hR => k (h hR)) wkeep_b (Below.refl _ _) (fun _ => rfl) (fun V o hR => hR.below ((Below.refl _ V).alloc (Nat.le_refl _) o)) (fun sp => .cells #[.int .i64 sp.1, .int .i64 sp.2] 40 (0, 0)) (fun _ => rfl)
        (fun pre V => SInv w6 s c (fun b => x b ∨ (w.heap.size ≤ b ∧ b < w6.heap.size)) (fun b => Y b ∨ New W w6 b) (M.visits pre) V)
        (fun _ _ _ => False)
        ?own ?ownx ?start
      case own => exact fun pre V V' row hs hg hrow => hs.grow (turned_grown hg) (fun b e => ⟨(hrow b e).1, by obtain ⟨o, ho, -⟩ := (hrow b e).2; exact (Array.getElem?_eq_some_iff.1 ho).1, (hrow b e).2⟩) fun b hb => hb.elim (fun k => by have := HSC.out.there b (.inl k); have := HB6.out.size; omega) fun k => k.2
      case ownx => exact fun _ _ _ _ _ h _ _ => h
      case start => exact HI0.out
      case hassign =>
        intro l sp W1 K hK
        gi_wp2
        generalize hq : W1.heap.size = q
        exact hK q hq
      case hsz => exact fun pre V ⟨_, _, _, _, _, _, _, h⟩ => h.size
      case hbody =>
        rintro ll pre sp q1 W1 ⟨Y1, v1, A1, cap1, m1, m2, m3, m4⟩ hlt hq1 hq0
        obtain ⟨M1, hM1⟩ : ∃ M1, M.visits pre = M1 := ⟨_, rfl⟩
        have HM1 := Lib.hid hM1
        rw [hM1] at m1 m3
        have K1 := Lib.hid m1
        have K2 := Lib.hid m2
        have K3 := Lib.hid m3
        have K4 := Lib.hid m4
        have hwb : w.heap.size < w6.heap.size := by omega
        have hxb := m3 w.heap.size (.inr ⟨Nat.le_refl _, hwb⟩)
        obtain ⟨aq0, aq1, -, -⟩ := cells2q hq1
        have hq1l := lt_size hq1
        have hz1 := m4.size
        obtain ⟨Q, hQ⟩ : ∃ Q, W1.drew = Q := ⟨_, rfl⟩
        have HQ0 := Lib.hid hQ
        have hQz : Q.heap.size = W1.heap.size := by rw [← hQ]; rfl
        have hQc : Hid (Q.cell? ⟨w.heap.size, 0, none⟩ = some (.pointer (some ⟨s, 0, none⟩)) ∧ Q.cell? ⟨s, 0, none⟩ = some (.pointer (some ⟨c, 0, none⟩)) ∧ Q.cell? ⟨q1, 0, none⟩ = some (.int .i64 sp.1) ∧ Q.cell? ⟨q1, 1, none⟩ = some (.int .i64 sp.2)) := Lib.hid (by
          rw [← hQ]
          refine ⟨?_, m1.parts.c0, aq0, aq1⟩
          exact (World.cell?_of_block (m4.block hwb (.inr ⟨Nat.le_refl _, hwb⟩))).trans ((World.cell?_of_block (HB6.out.block w.heap.size (by omega))).trans HBX.out))
        have HQ1 : Hid (w.heap.size < Q.heap.size ∧ Y1 w.heap.size ∧ s < Q.heap.size ∧ Y1 s ∧ q1 < Q.heap.size ∧ Y1 q1) := Lib.hid ⟨by omega, hxb.1, by rw [hQz]; exact m1.lt, m1.sY, by omega, m2 q1 (.inr ⟨hq0, hq1l⟩)⟩
        have HC3 : Hid (Held Q c Y1 M1.S) := Lib.hid (by rw [← hQ]; exact m1.chip.drew)
        have HPL := Lib.hid (m1.chip.page_len sp.1 sp.2)
        obtain ⟨er, her⟩ : ∃ er, (rdL M1.S sp.1 sp.2).2.1 = er := ⟨_, rfl⟩
        have HER := Lib.hid her
        have hfd : M1.fd.length ≤ 5000 := by
          have h1 := (visits_S pre M).2.2.2.2.2
          rw [hM1] at h1
          have h2 := HG.out.fd
          have h3 := wrTo_len M.S M.P M.k E M.B
          omega
        clear m1 m2 m3 m4 hM1 hxb aq0 aq1 hQ her hq1
        gi_wp2
        refine region_inv_in3 (fun j v w' => match j with | 0 => v = .pointer (some ⟨s, 0, none⟩) | 1 => v = .pointer (some ⟨s, 0, none⟩) | 2 => v = .pointer (some ⟨s, 0, none⟩) | 3 => v = .pointer (some ⟨c, 0, none⟩) | 4 => v = .agg #[.int .i64 sp.1, .int .i64 sp.2] | 5 => ∃ A8 L8, v = .tuple #[.slice A8 L8.length L8.length, .int .i64 er] ∧ ReadOut Q w' sp A8 L8 M1.S Y1 c | 6 => ∃ A8 L8, v = .tuple #[.slice A8 L8.length L8.length, .int .i64 er] ∧ ReadOut Q w' sp A8 L8 M1.S Y1 c | 7 => ∃ A8 L8, v = .slice A8 L8.length L8.length ∧ ReadOut Q w' sp A8 L8 M1.S Y1 c | 8 => v = .int .i64 er | 9 => ∃ A8 L8, v = .slice A8 L8.length L8.length ∧ ReadOut Q w' sp A8 L8 M1.S Y1 c | 10 => v = .int .i64 er | _ => True) (fun d w' => (w'.cell? ⟨w.heap.size, 0, none⟩ = some (.pointer (some ⟨s, 0, none⟩)) ∧ w'.cell? ⟨s, 0, none⟩ = some (.pointer (some ⟨c, 0, none⟩)) ∧ w'.cell? ⟨q1, 0, none⟩ = some (.int .i64 sp.1) ∧ w'.cell? ⟨q1, 1, none⟩ = some (.int .i64 sp.2)) ∧ (d 5 = false → w' = Q) ∧ Cl [6, 7, 9] 5 d) (by kernel_rfl) (by kernel_rfl) (by kernel_rfl) (by kernel_rfl) ?hG ?hops ?hend
        case hG => exact ⟨by rw [HQ0.out]; exact hQc.out, fun _ => HQ0.out, fun _ _ h => Bool.noConfusion h⟩
        case hops =>
          refine OpsOk2.cons ?o0 (OpsOk2.cons ?o1 (OpsOk2.cons ?o2 (OpsOk2.cons ?o3 (OpsOk2.cons ?o4 (OpsOk2.cons ?o5 (OpsOk2.cons ?o6 (OpsOk2.cons ?o7 (OpsOk2.cons ?o8 (OpsOk2.cons ?o9 (OpsOk2.cons ?o10 OpsOk2.nil))))))))))
          case o0 =>
            intro a w1 d Kx hd hG need old hsz hKx
            have e0 : a.tmps[2]?.getD undef = .pointer (some ⟨w.heap.size, 0, none⟩) := by rw [← Array.getD_eq_getD_getElem?]; exact old 2 (by kernel_rfl)
            have k0 := (hG.1.1 : w1.cell? ⟨w.heap.size, 0, none⟩ = some (.pointer (some ⟨s, 0, none⟩)))
            refine op_value (v := .pointer (some ⟨s, 0, none⟩)) (wanted_none rfl) ?_ (hKx _ w1 rfl ⟨hG.1, fun h => hG.2.1 (also_ne (by decide) h), Cl.next (l := [6, 7, 9]) (K := 5) hG.2.2 (.inl (by decide))⟩ (fun _ _ _ _ h => h))
            simp [execOp, go_sem, e0, k0]
          case o1 =>
            intro a w1 d Kx hd hG need old hsz hKx
            have e0 : a.tmps[52]?.getD undef = .pointer (some ⟨s, 0, none⟩) := by rw [← Array.getD_eq_getD_getElem?]; exact (need 0 (by kernel_rfl) (by kernel_rfl)).2
            refine op_value (v := .pointer (some ⟨s, 0, none⟩)) (wanted_none rfl) ?_ (hKx _ w1 rfl ⟨hG.1, fun h => hG.2.1 (also_ne (by decide) h), Cl.next (l := [6, 7, 9]) (K := 5) hG.2.2 (.inl (by decide))⟩ (fun _ _ _ _ h => h))
            simp [execOp, go_sem, e0]
          case o2 =>
            intro a w1 d Kx hd hG need old hsz hKx
            have e0 : a.tmps[53]?.getD undef = .pointer (some ⟨s, 0, none⟩) := by rw [← Array.getD_eq_getD_getElem?]; exact (need 1 (by kernel_rfl) (by kernel_rfl)).2
            refine op_value (v := .pointer (some ⟨s, 0, none⟩)) (wanted_none rfl) ?_ (hKx _ w1 rfl ⟨hG.1, fun h => hG.2.1 (also_ne (by decide) h), Cl.next (l := [6, 7, 9]) (K := 5) hG.2.2 (.inl (by decide))⟩ (fun _ _ _ _ h => h))
            simp [execOp, go_sem, e0]
          case o3 =>
            intro a w1 d Kx hd hG need old hsz hKx
            have e0 : a.tmps[54]?.getD undef = .pointer (some ⟨s, 0, none⟩) := by rw [← Array.getD_eq_getD_getElem?]; exact (need 2 (by kernel_rfl) (by kernel_rfl)).2
            have k0 := (hG.1.2.1 : w1.cell? ⟨s, 0, none⟩ = some (.pointer (some ⟨c, 0, none⟩)))
            refine op_value (v := .pointer (some ⟨c, 0, none⟩)) (wanted_none rfl) ?_ (hKx _ w1 rfl ⟨hG.1, fun h => hG.2.1 (also_ne (by decide) h), Cl.next (l := [6, 7, 9]) (K := 5) hG.2.2 (.inl (by decide))⟩ (fun _ _ _ _ h => h))
            simp [execOp, go_sem, e0, k0]
          case o4 =>
            intro a w1 d Kx hd hG need old hsz hKx
            have e0 : a.tmps[7]?.getD undef = .pointer (some ⟨q1, 0, none⟩) := by rw [← Array.getD_eq_getD_getElem?]; exact old 7 (by kernel_rfl)
            have k0 := hG.1.2.2.1
            have k1 := hG.1.2.2.2
            refine op_value (v := .agg #[.int .i64 sp.1, .int .i64 sp.2]) (wanted_none rfl) ?_ (hKx _ w1 rfl ⟨hG.1, fun h => hG.2.1 (also_ne (by decide) h), Cl.next (l := [6, 7, 9]) (K := 5) hG.2.2 (.inl (by decide))⟩ (fun _ _ _ _ h => h))
            simp [execOp, go_sem, e0, k0, k1]
          case o5 =>
            intro a w1 d Kx hd hG need old hsz hKx
            have e0 : a.tmps[55]?.getD undef = .pointer (some ⟨c, 0, none⟩) := by rw [← Array.getD_eq_getD_getElem?]; exact (need 3 (by kernel_rfl) (by kernel_rfl)).2
            have e1 : a.tmps[56]?.getD undef = .agg #[.int .i64 sp.1, .int .i64 sp.2] := by rw [← Array.getD_eq_getD_getElem?]; exact (need 4 (by kernel_rfl) (by kernel_rfl)).2
            refine op_call (wanted_none rfl) (f := 37) (args := #[.pointer (some ⟨c, 0, none⟩), .agg #[.int .i64 sp.1, .int .i64 sp.2]]) ?run ((held_read (x := Y1) (S := M1.S) sp.1 sp.2 (by rw [hG.2.1 hd]; exact HC3.out)).mono ?post)
            case run => simp [go_sem, e0, e1]
            case post =>
              rintro e w2 ⟨A8, L8, rfl, hL8, hc8, h8, hs8⟩
              rw [HER.out]
              obtain hw1 := hG.2.1 hd
              rw [hw1] at hc8 h8 hs8
              refine ⟨_, rfl, hKx _ w2 ⟨A8, L8, rfl, ⟨hL8, hc8, h8, hs8⟩⟩ ⟨⟨(World.cell?_of_block (hs8.block HQ1.out.1 HQ1.out.2.1)).trans hQc.out.1, (World.cell?_of_block (hs8.block HQ1.out.2.2.1 HQ1.out.2.2.2.1)).trans hQc.out.2.1, (World.cell?_of_block (hs8.block HQ1.out.2.2.2.2.1 HQ1.out.2.2.2.2.2)).trans hQc.out.2.2.1, (World.cell?_of_block (hs8.block HQ1.out.2.2.2.2.1 HQ1.out.2.2.2.2.2)).trans hQc.out.2.2.2⟩, fun h => absurd ((also_same d 5).symm.trans h) (by decide), Cl.next (l := [6, 7, 9]) (K := 5) hG.2.2 (.inl (by decide))⟩ ?_⟩
              intro j u hj hdj hu
              match j, hu with
              | 0, hu => exact hu
              | 1, hu => exact hu
              | 2, hu => exact hu
              | 3, hu => exact hu
              | 4, hu => exact hu
              | 5, _ => exact absurd rfl hj
              | 6, _ => exact absurd (hG.2.2 6 (by simp) hdj) (by rw [hd]; decide)
              | 7, _ => exact absurd (hG.2.2 7 (by simp) hdj) (by rw [hd]; decide)
              | 8, hu => exact hu
              | 9, _ => exact absurd (hG.2.2 9 (by simp) hdj) (by rw [hd]; decide)
              | 10, hu => exact hu
              | _ + 11, _ => exact trivial
          case o6 =>
            intro a w1 d Kx hd hG need old hsz hKx
            obtain ⟨A8, L8, qe0, he0⟩ := (need 5 (by kernel_rfl) (by kernel_rfl)).2
            have e0 : a.tmps[57]?.getD undef = .tuple #[.slice A8 L8.length L8.length, .int .i64 er] := by rw [← Array.getD_eq_getD_getElem?]; exact qe0
            refine op_value (v := .tuple #[.slice A8 L8.length L8.length, .int .i64 er]) (wanted_none rfl) ?_ (hKx _ w1 ⟨A8, L8, rfl, he0⟩ ⟨hG.1, fun h => hG.2.1 (also_ne (by decide) h), Cl.next (l := [6, 7, 9]) (K := 5) hG.2.2 (.inr (need 5 (by kernel_rfl) (by kernel_rfl)).1)⟩ (fun _ _ _ _ h => h))
            simp [execOp, go_sem, e0]
          case o7 =>
            intro a w1 d Kx hd hG need old hsz hKx
            obtain ⟨A8, L8, qe0, he0⟩ := (need 6 (by kernel_rfl) (by kernel_rfl)).2
            have e0 : a.tmps[51]?.getD undef = .tuple #[.slice A8 L8.length L8.length, .int .i64 er] := by rw [← Array.getD_eq_getD_getElem?]; exact qe0
            refine op_value (v := .slice A8 L8.length L8.length) (wanted_none rfl) ?_ (hKx _ w1 ⟨A8, L8, rfl, he0⟩ ⟨hG.1, fun h => hG.2.1 (also_ne (by decide) h), Cl.next (l := [6, 7, 9]) (K := 5) hG.2.2 (.inr (hG.2.2 6 (by simp) (need 6 (by kernel_rfl) (by kernel_rfl)).1))⟩ (fun _ _ _ _ h => h))
            simp [execOp, go_sem, e0]
          case o8 =>
            intro a w1 d Kx hd hG need old hsz hKx
            obtain ⟨A8, L8, qe0, he0⟩ := (need 6 (by kernel_rfl) (by kernel_rfl)).2
            have e0 : a.tmps[51]?.getD undef = .tuple #[.slice A8 L8.length L8.length, .int .i64 er] := by rw [← Array.getD_eq_getD_getElem?]; exact qe0
            refine op_value (v := .int .i64 er) (wanted_none rfl) ?_ (hKx _ w1 rfl ⟨hG.1, fun h => hG.2.1 (also_ne (by decide) h), Cl.next (l := [6, 7, 9]) (K := 5) hG.2.2 (.inl (by decide))⟩ (fun _ _ _ _ h => h))
            simp [execOp, go_sem, e0]
          case o9 =>
            intro a w1 d Kx hd hG need old hsz hKx
            obtain ⟨A8, L8, qe0, he0⟩ := (need 7 (by kernel_rfl) (by kernel_rfl)).2
            have e0 : a.tmps[58]?.getD undef = .slice A8 L8.length L8.length := by rw [← Array.getD_eq_getD_getElem?]; exact qe0
            refine op_value (v := .slice A8 L8.length L8.length) (wanted_none rfl) ?_ (hKx _ w1 ⟨A8, L8, rfl, he0⟩ ⟨hG.1, fun h => hG.2.1 (also_ne (by decide) h), Cl.next (l := [6, 7, 9]) (K := 5) hG.2.2 (.inr (hG.2.2 7 (by simp) (need 7 (by kernel_rfl) (by kernel_rfl)).1))⟩ (fun _ _ _ _ h => h))
            simp [execOp, go_sem, e0]
          case o10 =>
            intro a w1 d Kx hd hG need old hsz hKx
            have e0 : a.tmps[59]?.getD undef = .int .i64 er := by rw [← Array.getD_eq_getD_getElem?]; exact (need 8 (by kernel_rfl) (by kernel_rfl)).2
            refine op_value (v := .int .i64 er) (wanted_none rfl) ?_ (hKx _ w1 rfl ⟨hG.1, fun h => hG.2.1 (also_ne (by decide) h), Cl.next (l := [6, 7, 9]) (K := 5) hG.2.2 (.inl (by decide))⟩ (fun _ _ _ _ h => h))
            simp [execOp, go_sem, e0]
        case hend =>
          intro a w6_ d hG hφ hde hsz hold
          obtain ⟨A8_5, L8_5, hv_5, hp_5⟩ := (hφ 5 (by kernel_rfl)).2
          obtain ⟨A8_6, L8_6, hv_6, hp_6⟩ := (hφ 6 (by kernel_rfl)).2
          obtain ⟨A8_7, L8_7, hv_7, hp_7⟩ := (hφ 7 (by kernel_rfl)).2
          obtain ⟨A8_9, L8_9, hv_9, hp_9⟩ := (hφ 9 (by kernel_rfl)).2
          obtain rfl := act_puts [(52, .pointer (some ⟨s, 0, none⟩)), (53, .pointer (some ⟨s, 0, none⟩)), (54, .pointer (some ⟨s, 0, none⟩)), (55, .pointer (some ⟨c, 0, none⟩)), (56, .agg #[.int .i64 sp.1, .int .i64 sp.2]), (57, .tuple #[.slice A8_5 L8_5.length L8_5.length, .int .i64 er]), (51, .tuple #[.slice A8_6 L8_6.length L8_6.length, .int .i64 er]), (58, .slice A8_7 L8_7.length L8_7.length), (59, .int .i64 er), (8, .slice A8_9 L8_9.length L8_9.length), (9, .int .i64 er)] [52, 53, 54, 55, 56, 57, 51, 58, 59, 8, 9] rfl (by kernel_rfl) (by kernel_rfl) hde hsz (List.forall_mem_cons.2 ⟨(show a.tmps.getD 52 undef = .pointer (some ⟨s, 0, none⟩) from (hφ 0 (by kernel_rfl)).2), (List.forall_mem_cons.2 ⟨(show a.tmps.getD 53 undef = .pointer (some ⟨s, 0, none⟩) from (hφ 1 (by kernel_rfl)).2), (List.forall_mem_cons.2 ⟨(show a.tmps.getD 54 undef = .pointer (some ⟨s, 0, none⟩) from (hφ 2 (by kernel_rfl)).2), (List.forall_mem_cons.2 ⟨(show a.tmps.getD 55 undef = .pointer (some ⟨c, 0, none⟩) from (hφ 3 (by kernel_rfl)).2), (List.forall_mem_cons.2 ⟨(show a.tmps.getD 56 undef = .agg #[.int .i64 sp.1, .int .i64 sp.2] from (hφ 4 (by kernel_rfl)).2), (List.forall_mem_cons.2 ⟨(show a.tmps.getD 57 undef = .tuple #[.slice A8_5 L8_5.length L8_5.length, .int .i64 er] from hv_5), (List.forall_mem_cons.2 ⟨(show a.tmps.getD 51 undef = .tuple #[.slice A8_6 L8_6.length L8_6.length, .int .i64 er] from hv_6), (List.forall_mem_cons.2 ⟨(show a.tmps.getD 58 undef = .slice A8_7 L8_7.length L8_7.length from hv_7), (List.forall_mem_cons.2 ⟨(show a.tmps.getD 59 undef = .int .i64 er from (hφ 8 (by kernel_rfl)).2), (List.forall_mem_cons.2 ⟨(show a.tmps.getD 8 undef = .slice A8_9 L8_9.length L8_9.length from hv_9), (List.forall_mem_cons.2 ⟨(show a.tmps.getD 9 undef = .int .i64 er from (hφ 10 (by kernel_rfl)).2), (fun _ h => absurd h (by simp))⟩)⟩)⟩)⟩)⟩)⟩)⟩)⟩)⟩)⟩)⟩) hold
          clear hφ hold hsz hde hv_5 hv_6 hv_7 hv_9
          simp only [putAll]
          obtain ⟨⟨gc1, -, gc3, gc4⟩, -, -⟩ := hG
          obtain ⟨ro1, ro2, ro3, ro4⟩ := hp_9
          have RO1 := Lib.hid ro1
          have RO2 := Lib.hid ro2
          have RO4 := Lib.hid ro4
          have hs9 : ScanAt w6_ s c (fun b => Y1 b ∨ New Q w6_ b) v1 A1 cap1 { M1 with S := (rdL M1.S sp.1 sp.2).2.2 } := by
            have h1 := K1.out.grow (F := fun _ => False) (w' := Q) (by rw [← HQ0.out]; exact .of_below (Below.refl _ _).drew) fun _ k => k.elim
            exact (h1.same fun b => ⟨fun k => k.elim id fun k => by have := k.1; have := k.2; omega, .inl⟩).chip_op ro3 ro4
          have HS9 := Lib.hid hs9
          have HX9 : Hid (∀ b, (x b ∨ (w.heap.size ≤ b ∧ b < w6.heap.size)) → Far s (fun b => Y1 b ∨ New Q w6_ b) v1 A1 M1.rd b) := Lib.hid fun b hb => ⟨.inl (K3.out b hb).1, (K3.out b hb).2⟩
          have HR9 : Hid (RB w6_ w6_.heap.size A8_9 L8_9) := Lib.hid (RO2.out.rb fun b hb => hb.2)
          have HLL : Hid (L8_9.length ≤ 2000) := Lib.hid (by rw [RO1.out.out]; exact HPL.out)
          clear ro1 ro2 ro3 ro4 hs9 hp_5 hp_6 hp_7
          go_frame
          gi_wp2_with (refine ⟨trivial, ?_⟩; (try refine ⟨wide_depth _, ?_⟩); gi_at_call 38; refine (callsIn_wide.2 (m_note (x := fun b => x b ∨ (w.heap.size ≤ b ∧ b < w6.heap.size)) sp A8_9 _ L8_9 HS9.out HX9.out HR9.out HLL.out hfd)).mono ?_; rintro e w9 hnote; have HNP := Lib.hid hnote; obtain ⟨rfl, -, -⟩ := hnote)
          obtain ⟨v1', v2'⟩ := SInv.round K1.out K2.out K3.out K4.out (by rw [HQ0.out]; exact RO4.out) (by rw [HQ0.out]; exact HNP.out)
          have hme : M.visits (pre ++ [sp]) = ({ M1 with S := (rdL M1.S sp.1 sp.2).2.2 } : MS).note sp L8_9 := by rw [visits_snoc, HM1.out, RO1.out.out]; rfl
          have hvs := visits_S (pre ++ [sp]) M
          rw [← hme] at v2'
          exact ⟨v1', fun hR => v2'.reads hvs.1 hvs.2.1 hvs.2.2.1 hvs.2.2.2.1 ⟨.inr ⟨by omega, z2⟩, .inr ⟨by omega, z4⟩, .inr ⟨by omega, z6⟩⟩ HRD.out, v2'⟩
      case hdone =>
        rintro D ys V hD rfl hM hK
        have hXl : ∀ b, (x b ∨ (w.heap.size ≤ b ∧ b < w6.heap.size)) → b < w6.heap.size := fun b hb => hb.elim (fun k => by have := HSC.out.there b (.inl k); have := HB6.out.size; omega) fun k => k.2
        have hwb : w.heap.size < w6.heap.size := by omega
        obtain ⟨Mv, hMv⟩ : ∃ Mv, M.visits (wrTo M.S M.P M.k E M.B) = Mv := ⟨_, rfl⟩
        rw [hMv] at hM
        have hst : M.stepped n = { Mv with k := E } := by rw [← hMv]; unfold MS.stepped; rw [hEE.out]
        have hbx : V.cell? ⟨w.heap.size, 0, none⟩ = some (PtrV s) := by
          obtain ⟨_, _, _, _, -, -, -, m4⟩ := hM
          exact (World.cell?_of_block (m4.block hwb (.inr ⟨Nat.le_refl _, hwb⟩))).trans ((World.cell?_of_block (HB6.out.block w.heap.size (by omega))).trans HBX.out)
        obtain ⟨fz, k3, cz⟩ := hM.cell3
        have hsw : s < w.heap.size := HSL.out
        obtain ⟨V2, hV2⟩ : ∃ V2, V2 = V.setCell ⟨s, 3, none⟩ (.int .i64 E) := ⟨_, rfl⟩
        have hM2 := hM.behind E V2 hV2
        have hK2 : V2.heap[D]? = some (.deferred (some [])) := by
          rw [hV2]
          refine (Below.heap_setCell V ⟨s, 3, none⟩ _ D fun e => ?_).trans hK
          have e' : D = s := e
          omega
        have hbx2 : V2.cell? ⟨w.heap.size, 0, none⟩ = some (PtrV s) := by
          rw [hV2]
          exact (World.cell?_of_block (Below.heap_setCell V ⟨s, 3, none⟩ _ w.heap.size fun e => by have e' : w.heap.size = s := e; omega)).trans hbx
        rw [← hst] at hM2
        have HM2 := Lib.hid hM2
        have HST := Lib.hid hst
        obtain ⟨Yd, vd, Ad, cd, d1, -, -, -⟩ := hM2
        have HPD := Lib.hid d1.parts
        have hok := (HG.out.stepped n).ok
        clear d1 hM hMv hst
        gi_wp2_with (refine ⟨trivial, ?_⟩; (try refine ⟨wide_depth _, ?_⟩); gi_at_call 39; rw [← hV2]; refine (callsIn_wide.2 (m_through HPD.out hok)).mono ?_; rintro e w9 ⟨rfl, nq, rfl⟩)
        have hdn := drewN_below (Below.refl V2.heap.size V2) nq
        rw [← hV2]
        refine step_leave (HM2.out.below hdn hXl) ((HBW.out.trans (HB6.out.mono HBW.out.size))) (fun b k => .inl k) hD ((hdn.block D (Array.getElem?_eq_some_iff.1 hK2).1).trans hK2) hXl _ fun W' => ?_
        simp [results, Try.results15, go_sem]
      case hstop =>
        rintro D c pre W hD hpre h hK
        exact h.elim
end
end Go.Proofs.Ytnadcdgpfopcaaa
