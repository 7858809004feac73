/- The landed chip: a block's pages are made nothing, the first k of them. -/
import Derived.RegionIn
import Derived.Test.YteghegojhhoppaaTurn0
namespace Go.Proofs.Yteghegojhhoppaa
open Go.RowKit Go.Shelf

attribute [local go_sem] Oper.semAt_some

/-! ### what an iterator's own blocks leave -/
section
variable {w W W' : World} {p q cap : Nat} {g : Nat → Nat} {C : Nat → Prop} {S : LS}
theorem kept_cells {b : Nat} {cs : Array Value} {t : TypeId} {fr : Nat × Nat} {row : Option Nat} (h : W.heap[b]? = some (.cells cs t fr)) (hg : W.grownBy W' row) (hrow : ∀ r, row = some r → ∃ o : Obj, W.heap[r]? = some o ∧ o.isCells = false) : W'.heap[b]? = W.heap[b]? :=
  hg.block b (lt_size h) fun e => by
    obtain ⟨o, ho, hc⟩ := hrow b e.symm
    rw [h] at ho; cases ho; cases hc
theorem CB.grown {A : Option Addr} {l : List UInt8} {row : Option Nat} (h : CB W C A l) (hg : W.grownBy W' row) (hrow : ∀ r, row = some r → ∃ o : Obj, W.heap[r]? = some o ∧ o.isCells = false) : CB W' C A l := fun hn => by
  obtain ⟨ad, e, hb, hc⟩ := h hn
  exact ⟨ad, e, hb, fun j hj => cell_kept (hc j hj) hg hrow⟩
theorem LAt.grown {row : Option Nat} (h : LAt W p q cap g C S) (hg : W.grownBy W' row) (hrow : ∀ r, row = some r → ∃ o : Obj, W.heap[r]? = some o ∧ o.isCells = false) : LAt W' p q cap g C S :=
  { h with
    self := (kept_cells h.self hg hrow).trans h.self
    plain := by obtain ⟨cs, t, e⟩ := h.plain; exact ⟨cs, t, (kept_cells e hg hrow).trans e⟩
    blocks := fun i hi => by
      have o := h.blocks i hi
      exact {
        bad := cell_kept o.bad hg hrow
        next := cell_kept o.next hg hrow
        count := cell_kept o.count hg hrow
        row := cell_kept o.row hg hrow
        len := o.len
        plain := by obtain ⟨cs, t, e⟩ := o.plain; exact ⟨cs, t, (kept_cells e hg hrow).trans e⟩
        pages := fun j hj => by
          obtain ⟨A, c, h1, h2, h4, h3⟩ := o.pages j hj
          exact ⟨A, c, cell_kept h1 hg hrow, h2, h4, h3.grown hg hrow⟩
        nextIn := o.nextIn }
    cl := fun b hb => Nat.lt_of_lt_of_le (h.cl b hb) hg.size }
theorem at_own {β : Type} (p q cap : Nat) (g : Nat → Nat) (C : Nat → Prop) (f : β → LS) : Go.Own (fun s W => LAt W p q cap g C (f s)) := fun _ _ _ _ hs hg hrow => hs.grown hg hrow
theorem ownFrom_turned {β : Type} {F : Nat → Prop} {B : Nat} (hB : w.heap.size ≤ B) : OwnFrom B (fun (_ : β) W => Turned F w W) := fun s X Y row hs hg hr =>
  ⟨hg.os.trans hs.os, hg.tape.trans hs.tape, hg.output.trans hs.output, Nat.le_trans hs.size hg.size, fun i hi hF => (hg.block i (Nat.lt_of_lt_of_le hi hs.size) (fun e => by have := (hr i e.symm).1; omega)).trans (hs.block i hi hF)⟩
end

/-- The first j are nothing, the others as they were. -/
def clr (l : List (List UInt8)) (j : Nat) : List (List UInt8) := List.replicate (min j l.length) [] ++ l.drop j
theorem clr_zero (l : List (List UInt8)) : clr l 0 = l := by simp [clr]
theorem clr_length (l : List (List UInt8)) (j : Nat) : (clr l j).length = l.length := by simp [clr]; omega
theorem clr_get (l : List (List UInt8)) (j k : Nat) : (clr l j)[k]? = if k < min j l.length then some [] else l[k]? := by
  unfold clr
  by_cases hk : k < min j l.length
  · rw [List.getElem?_append_left (by simpa using hk), if_pos hk, List.getElem?_replicate, if_pos hk]
  · rw [List.getElem?_append_right (by simpa using hk), if_neg hk, List.length_replicate, List.getElem?_drop]
    by_cases h2 : j ≤ l.length
    · rw [Nat.min_eq_left h2] at hk ⊢
      congr 1; omega
    · rw [Nat.min_eq_right (by omega)] at hk ⊢
      rw [List.getElem?_eq_none (by omega), List.getElem?_eq_none (by omega)]
theorem clr_step (l : List (List UInt8)) (j : Nat) (h : j < l.length) : (clr l j).set j [] = clr l (j + 1) := by
  apply List.ext_getElem?
  intro k
  rw [clr_get, List.getElem?_set, clr_get, clr_length]
  by_cases e : j = k
  · subst e; simp [h]; omega
  · rw [if_neg e]
    by_cases hk : k < min j l.length
    · rw [if_pos hk, if_pos (by omega)]
    · rw [if_neg hk, if_neg (by omega)]
/-- One by one, in whatever order. -/
def clrs {N : Nat} (l : List (List UInt8)) (pre : List (Fin N)) : List (List UInt8) := pre.foldl (fun l x => l.set x.val []) l
theorem clrs_snoc {N : Nat} (l : List (List UInt8)) (pre : List (Fin N)) (x : Fin N) : clrs l (pre ++ [x]) = (clrs l pre).set x.val [] := by simp [clrs]
theorem clrs_length {N : Nat} (l : List (List UInt8)) (pre : List (Fin N)) : (clrs l pre).length = l.length := by
  induction pre generalizing l with
  | nil => rfl
  | cons x pre ih => exact (ih (l.set x.val [])).trans (List.length_set ..)
theorem clrs_take {N : Nat} (l : List (List UInt8)) (hl : l.length = N) (k : Nat) (hk : k ≤ N) : clrs l ((List.finRange N).take k) = clr l k := by
  induction k with
  | zero => rw [clr_zero]; rfl
  | succ k ih => rw [fin_take (by omega), clrs_snoc, ih (by omega), clr_step l k (by omega)]
theorem clr_over (l : List (List UInt8)) (j : Nat) (h : l.length ≤ j) : clr l l.length = clr l j := by
  simp [clr, Nat.min_eq_right h, List.drop_eq_nil_of_le h]
def emptyB (b : Bk) (k np : Nat) : Bk := { b with next := if np ≤ k then 0 else (np : Int), pages := clr b.pages k }

section
variable {p q cap : Nat} {g : Nat → Nat} {C : Nat → Prop} {S : LS} {w : World}
theorem wpIn_world {F : Fence} {n : Nat} {P : Program} {Q : Exit → Act → World → Prop} {a : Act} {W : World} {c : Code} (h : ∀ W2, W2 = W → c.wpIn F n P Q a W2) : c.wpIn F n P Q a W := h W rfl
theorem LAt.next_set (h : LAt w p q cap g C S) {i : Nat} (hi : i < S.bl.length) {v : Int} (hv : 0 ≤ v ∧ v ≤ S.np) : LAt (w.setCell ⟨q, i * 4 + 1, none⟩ (.int .i64 v)) p q cap g C { S with bl := S.bl.set i { S.bl[i] with next := v } } :=
  h.row_set (m := 1) (b := { S.bl[i] with next := v }) hi (by omega) rfl hv rfl rfl rfl
theorem LAt.next_set2 (h : LAt w p q cap g C S) {i : Nat} (hi : i < S.bl.length) {u v : Int} (hu : 0 ≤ u ∧ u ≤ S.np) (hv : 0 ≤ v ∧ v ≤ S.np) : LAt ((w.setCell ⟨q, i * 4 + 1, none⟩ (.int .i64 u)).setCell ⟨q, i * 4 + 1, none⟩ (.int .i64 v)) p q cap g C { S with bl := S.bl.set i { S.bl[i] with next := v } } := by
  have := (h.next_set hi hu).next_set (i := i) (by simpa using hi) (v := v) hv
  simpa using this
/-- The chip while a block is emptied. -/
def emptied (S : LS) (i : Nat) (hi : i < S.bl.length) (nx : Int) (l : List (List UInt8)) : LS := { S with bl := S.bl.set i { S.bl[i] with next := nx, pages := l } }
structure EMid (w W : World) (p q cap : Nat) (g : Nat → Nat) (C : Nat → Prop) (S : LS) (i : Nat) (hi : i < S.bl.length) (nx : Int) (l : List (List UInt8)) (k : Nat) : Prop where
  chip : LAt W p q cap g C (emptied S i hi nx l)
  boxB : Boxed W w.heap.size 58 (.pointer (some ⟨q, i * 4, none⟩))
  boxK : Boxed W (w.heap.size + 1) 3 (.int .i64 k)
  turned : Turned (fun b => b = q ∨ b = g i) w W
theorem emid_own {β : Type} {B : Nat} (hB : w.heap.size ≤ B) (i : Nat) (hi : i < S.bl.length) (nx : Int) (f : β → List (List UInt8)) (k : Nat) : OwnFrom B (fun s W => EMid w W p q cap g C S i hi nx (f s) k) := fun s X Y row hs hg hr =>
  ⟨at_own p q cap g C (fun s => emptied S i hi nx (f s)) s X Y row hs.chip hg (fun r e => (hr r e).2), boxed_own w.heap.size _ (fun _ : β => .pointer (some ⟨q, i * 4, none⟩)) s X Y row hs.boxB hg (fun r e => (hr r e).2), boxed_own (w.heap.size + 1) _ (fun _ : β => .int .i64 (k : Int)) s X Y row hs.boxK hg (fun r e => (hr r e).2), ownFrom_turned hB s X Y row hs.turned hg hr⟩
theorem EMid.facts {W : World} {i k j : Nat} {hi : i < S.bl.length} {nx : Int} {l : List (List UInt8)} (h : EMid w W p q cap g C S i hi nx l k) (hj : j < S.np) :
    W.cell? ⟨w.heap.size, 0, none⟩ = some (.pointer (some ⟨q, i * 4, none⟩)) ∧ W.cell? ⟨w.heap.size + 1, 0, none⟩ = some (.int .i64 k) ∧ W.cell? ⟨q, i * 4 + 3, none⟩ = some (.slice (some ⟨g i, 0, none⟩) S.np S.np) ∧ (∃ v, W.cell? ⟨g i, j, none⟩ = some v) ∧ W.frozen? ⟨g i, j, none⟩ = false := by
  have hb := h.chip.blocks i (by simpa [emptied] using hi)
  obtain ⟨cs, ct, hg⟩ := hb.plain
  obtain ⟨A, c, hpg, _⟩ := hb.pages j (by rw [hb.len]; exact hj)
  exact ⟨h.boxB.cell, h.boxK.cell, hb.row, ⟨_, hpg⟩, frozen10 hg j⟩
theorem EMid.set {W : World} {i k j : Nat} {hi : i < S.bl.length} {nx : Int} {l : List (List UInt8)} (h : EMid w W p q cap g C S i hi nx l k) (hw : g i < w.heap.size) : EMid w (W.setCell ⟨g i, j, none⟩ (.slice none 0 0)) p q cap g C S i hi nx (l.set j []) k where
  chip := by
    have hi' : i < (emptied S i hi nx l).bl.length := by simpa [emptied] using hi
    have := h.chip.page_set (D := C) (j := j) (c := 0) (A := none) (l := []) hi' (by simp) (by simp) (fun _ h => h) (fun b hb => ⟨h.chip.cp b hb, h.chip.cl b hb⟩) .nil
    simpa [emptied] using this
  boxB := (Below.heap_setCell W ⟨g i, j, none⟩ _ _ (fun e => by have : w.heap.size = g i := e; omega)).trans h.boxB
  boxK := (Below.heap_setCell W ⟨g i, j, none⟩ _ _ (fun e => by have : w.heap.size + 1 = g i := e; omega)).trans h.boxK
  turned := h.turned.setCell (fun _ => .inr rfl) _
theorem EMid.world {W W' : World} {i k : Nat} {hi : i < S.bl.length} {nx : Int} {l : List (List UInt8)} (h : EMid w W p q cap g C S i hi nx l k) (hb : Below W.heap.size W W') : EMid w W' p q cap g C S i hi nx l k where
  chip := h.chip.below hb
  boxB := (hb.block _ h.boxB.lt).trans h.boxB
  boxK := (hb.block _ h.boxK.lt).trans h.boxK
  turned := h.turned.trans (G := fun _ => False) (.of_below hb) (fun _ _ h => h.elim)
/-- At the way out. -/
def EmptyPost (p q cap : Nat) (g : Nat → Nat) (C : Nat → Prop) (S : LS) (i : Nat) (hi : i < S.bl.length) (k : Nat) (w : World) (e : Ending) (w' : World) : Prop :=
  e = .returned (.tuple #[]) ∧ LAt w' p q cap g C { S with bl := S.bl.set i (emptyB S.bl[i] k S.np) } ∧ Turned (fun b => b = q ∨ b = g i) w w'
theorem emid_out {W : World} {i k D m : Nat} {hi : i < S.bl.length} {nx : Int} {l : List (List UInt8)} (h : EMid w W p q cap g C S i hi nx l k) (hD : w.heap.size ≤ D) (hK : W.heap[D]? = some (.deferred (some []))) (hnx : nx = if S.np ≤ k then 0 else (S.np : Int)) (hl : l = clr S.bl[i].pages k) (tmps : Array Value) :
    LeavesInM Fence.wide m Try.prog Try.f24 tmps (EmptyPost p q cap g C S i hi k w) [{ target := Target.collected D, args := #[] }] .returning W := by
  refine ⟨by simp, .inl ⟨_, _, rfl, run_takeDeferred hK, ?_⟩⟩
  refine ⟨_, results_none rfl _ _ _, rfl, ?_, ?_⟩
  · have := (at_own p q cap g C (fun _ : Unit => emptied S i hi nx l)).putObj (s := ()) (.deferred none) h.chip hK rfl
    subst hnx hl
    exact this
  · exact (ownFrom_turned (β := Unit) (Nat.le_refl _)).putObj (s := ()) (.deferred none) h.turned hD hK rfl
/-- Two pointers' boxes, and the chip: what a walk keeps. -/
theorem two_boxes (w : World) (a b : Value) (s t : TypeId) : ∃ W0, (w.alloc (.cells #[a] s)).alloc (.cells #[b] t) = W0 ∧ Boxed W0 w.heap.size s a ∧ Boxed W0 (w.heap.size + 1) t b ∧ Below w.heap.size w W0 := by
  have h1 := Boxed.new w s a
  have h2 := Boxed.new (w.alloc (.cells #[a] s)) t b
  rw [World.size_alloc] at h2
  exact ⟨_, rfl, h1.alloc _, h2, ((Below.refl _ w).alloc (Nat.le_refl _) _).alloc (by simp) _⟩
/-- The loop's start. -/
theorem empty_start {W0 W1 : World} {i k : Nat} {nx : Int} (hi : i < S.bl.length) (h1 : LAt W1 p q cap g C { S with bl := S.bl.set i { S.bl[i] with next := nx } }) (bB : Boxed W1 w.heap.size 58 (.pointer (some ⟨q, i * 4, none⟩))) (bK : Boxed W1 (w.heap.size + 1) 3 (.int .i64 k)) (ht : Turned (fun b => b = q ∨ b = g i) w W1) (hs : W1.heap.size = W0.heap.size) (W2 : World) (hW2 : W2 = ((W1.alloc (.cells #[.int .i64 (S.np : Int)] 3)).alloc (.cells #[.int .i64 0] 3)).drew.drew) :
    Boxed W2 W0.heap.size 3 (.int .i64 (S.np : Int)) ∧ Boxed W2 (W0.heap.size + 1) 3 (.int .i64 0) ∧ EMid w W2 p q cap g C S i hi nx S.bl[i].pages k := by
  subst hW2
  rw [← hs]
  have b1 := Boxed.new W1 3 (.int .i64 (S.np : Int))
  have b2 := Boxed.new (W1.alloc (.cells #[.int .i64 (S.np : Int)] 3)) 3 (.int .i64 0)
  rw [World.size_alloc] at b2
  have hb : Below W1.heap.size W1 ((W1.alloc (.cells #[.int .i64 (S.np : Int)] 3)).alloc (.cells #[.int .i64 0] 3)).drew.drew := (((Below.refl _ W1).alloc (Nat.le_refl _) _).alloc (by simp) _).drew.drew
  exact ⟨b1.alloc _, b2, EMid.world ⟨h1, bB, bK, ht⟩ hb⟩
set_option maxRecDepth 100000 in
set_option maxHeartbeats 4000000 in
theorem empty_any (i k : Nat) (h : LAt w p q cap g C S) (hi : i < S.bl.length) :
    Calls Try.prog 24 #[.pointer (some ⟨p, 0, none⟩), .pointer (some ⟨q, i * 4, none⟩), .int .i64 k] w (EmptyPost p q cap g C S i hi k w) := by
  obtain ⟨W0, hW0, bB, bK, hB0⟩ := two_boxes w (.pointer (some ⟨q, i * 4, none⟩)) (.int .i64 k) 58 3
  have h0 := h.below hB0
  have hq := h.lt q (.inr (.inl rfl))
  have hg := h.lt (g i) (.inr (.inr (.inl ⟨i, hi, rfl⟩)))
  have hgq := (h.gp i hi).2
  have hnp := h.small.2.1
  have hnp2 := h.small.2.2
  have hlen := (h.blocks i hi).len
  obtain ⟨_, c1, _, _, _, _, _, _, _, _, _, _, _⟩ := cells13 h0.self
  obtain ⟨qcs, qt, hqp⟩ := h0.plain
  have fq := frozen10 hqp (i * 4 + 1)
  have rn := (h0.blocks i hi).next
  have hne := h.ne
  have hne' := h.ne.symm
  have cB := bB.cell
  have cK := bK.cell
  have t1 : ∀ v, Turned (fun b => b = q ∨ b = g i) w (W0.setCell ⟨q, i * 4 + 1, none⟩ v) := fun v => (Turned.of_below hB0).setCell (fun _ => .inl rfl) _
  have o1 : ∀ {W : World} {b : Nat} {t : TypeId} {u : Value} (v : Value), Boxed W b t u → b ≠ q → Boxed (W.setCell ⟨q, i * 4 + 1, none⟩ v) b t u := fun v hb hne => (Below.heap_setCell _ ⟨q, i * 4 + 1, none⟩ _ _ hne).trans hb
  refine callsIn_wide.1 (callsIn_of_wp_marks (n := 3) Try.func24 rfl trivial ?_ rfl)
  simp only [Try.ntmps24, List.size_toArray, List.length_cons, List.length_nil, Nat.reduceAdd, Nat.reduceSub, Array.replicate_succ, Array.replicate_zero, List.push_toArray, List.append_toArray, List.nil_append, List.cons_append]
  by_cases hkn : S.np ≤ k
  · gi_wp2
    gi_region
    gi_wp2
    gi_region
    gi_wp2_with (refine ⟨trivial, ?_⟩; (try refine ⟨wide_depth _, ?_⟩); gi_at_call 18; refine (callsIn_wide.2 (turn_any _ _ _)).mono ?_; rintro e w1 ⟨rfl, rfl⟩)
    refine wpIn_world ?_
    intro W2 hW2
    obtain ⟨bN, bF, hM⟩ : Boxed W2 W0.heap.size 3 (.int .i64 (S.np : Int)) ∧ Boxed W2 (W0.heap.size + 1) 3 (.int .i64 0) ∧ EMid w W2 p q cap g C S i hi 0 S.bl[i].pages k := by
      rw [hW2]
      exact empty_start hi (h0.next_set2 hi ⟨by omega, by omega⟩ ⟨by omega, by omega⟩) (o1 _ (o1 _ bB (by omega)) (by omega)) (o1 _ (o1 _ bK (by omega)) (by omega)) ((t1 _).setCell (fun _ => .inl rfl) _) (by simp) _ rfl
    have H2 := Lib.hid hM
    have HS := Lib.hid (show w.heap.size ≤ W2.heap.size from hM.turned.size)
    clear hW2 hM cB cK fq rn hqp c1
    apply wpIn_rangeFunc_ownG rfl (n := 3) (by omega) (gf := 26) (lb := #[.pointer (some ⟨W0.heap.size, 0, none⟩), .pointer (some ⟨W0.heap.size + 1, 0, none⟩)]) rfl trivial enters_turn
      (turn_fin_stops (N := S.np) (fun _ _ => True) (3 - 1) _ _ (by omega) hnp W2 bN bF) (fun _ _ => trivial) (fun _ _ _ _ _ _ _ _ => trivial) (Below.refl _ _) (fun _ => rfl)
      (fun pre W => EMid w W p q cap g C S i hi 0 (clrs S.bl[i].pages pre) k ∧ ∀ y ∈ pre, y.val < k)
      (fun c pre' W => EMid w W p q cap g C S i hi 0 (clrs S.bl[i].pages pre'.dropLast) k ∧ (c = .exit 0 ∧ (∀ y ∈ pre'.dropLast, y.val < k) ∧ ∃ x, pre' = pre'.dropLast ++ [x] ∧ k ≤ x.val))
      ?own ?ownx ?start
    case own => exact OwnFrom.and (emid_own HS.out i hi 0 (fun pre => clrs S.bl[i].pages pre) k) (ownFrom_pure _ _)
    case ownx => exact fun c => OwnFrom.and (emid_own HS.out i hi 0 (fun pre' : List (Fin S.np) => clrs S.bl[i].pages pre'.dropLast) k) (ownFrom_pure _ _)
    case start => exact ⟨H2.out, fun y hy => by cases hy⟩
    case hassign =>
      intro l x W K hK
      gi_wp2
      exact hK
    case hbody =>
      rintro l pre x W ⟨hM, hpre⟩ hlt
      obtain ⟨cb, ck, cr, ⟨v, cv⟩, cf⟩ := hM.facts x.isLt
      have hx := x.isLt
      have HM := Lib.hid hM
      clear hM
      by_cases hxk : x.val < k
      · have : ¬ (k : Int) ≤ (x.val : Int) := by omega
        gi_wp2
        refine ⟨(KeepsOthers.setCell _ _ _).from _, trivial, ?_, fun y hy => ?_⟩
        · rw [clrs_snoc]
          exact HM.out.set hg
        · rcases List.mem_append.1 hy with h | h
          · exact hpre y h
          · simp at h; subst h; exact hxk
      · have : (k : Int) ≤ (x.val : Int) := by omega
        gi_wp2
        refine ⟨KeepsFrom.refl _ _, ?_⟩
        simp only [List.dropLast_concat]
        exact ⟨HM.out, trivial, hpre, x, rfl, by omega⟩
    case hdone =>
      rintro D ys W hD rfl ⟨hM, hall⟩ hK
      gi_wp2
      have hlast : S.np - 1 < k := hall ⟨S.np - 1, by omega⟩ (by simp)
      exact emid_out hM (Nat.le_trans HS.out hD) hK (by rw [if_pos hkn]) (by rw [← fin_all, clrs_take _ hlen _ (Nat.le_refl _), ← hlen]; exact clr_over _ _ (by omega)) _
    case hstop =>
      rintro D c pre W hD hpre ⟨hM, rfl, hall, x, hx, hkx⟩ hK
      gi_wp2
      rw [hx] at hpre
      have hp := fin_snoc hpre
      have hxk : x.val = k := by
        rcases Nat.lt_or_ge k x.val with h | h
        · have : k < k := hall ⟨k, by omega⟩ (by rw [hp]; exact fin_mem_take h)
          omega
        · omega
      exact emid_out hM (Nat.le_trans HS.out hD) hK (by rw [if_pos hkn]) (by rw [hp, clrs_take _ hlen _ (by omega), hxk]) _
  · gi_wp2
    gi_region
    gi_wp2
    gi_region
    gi_wp2_with (refine ⟨trivial, ?_⟩; (try refine ⟨wide_depth _, ?_⟩); gi_at_call 18; refine (callsIn_wide.2 (turn_any _ _ _)).mono ?_; rintro e w1 ⟨rfl, rfl⟩)
    refine wpIn_world ?_
    intro W2 hW2
    obtain ⟨bN, bF, hM⟩ : Boxed W2 W0.heap.size 3 (.int .i64 (S.np : Int)) ∧ Boxed W2 (W0.heap.size + 1) 3 (.int .i64 0) ∧ EMid w W2 p q cap g C S i hi (S.np : Int) S.bl[i].pages k := by
      rw [hW2]
      exact empty_start hi (h0.next_set hi ⟨by omega, by omega⟩) (o1 _ bB (by omega)) (o1 _ bK (by omega)) (t1 _) (by simp) _ rfl
    have H2 := Lib.hid hM
    have HS := Lib.hid (show w.heap.size ≤ W2.heap.size from hM.turned.size)
    clear hW2 hM cB cK fq rn hqp c1
    apply wpIn_rangeFunc_ownG rfl (n := 3) (by omega) (gf := 26) (lb := #[.pointer (some ⟨W0.heap.size, 0, none⟩), .pointer (some ⟨W0.heap.size + 1, 0, none⟩)]) rfl trivial enters_turn
      (turn_fin_stops (N := S.np) (fun _ _ => True) (3 - 1) _ _ (by omega) hnp W2 bN bF) (fun _ _ => trivial) (fun _ _ _ _ _ _ _ _ => trivial) (Below.refl _ _) (fun _ => rfl)
      (fun pre W => EMid w W p q cap g C S i hi (S.np : Int) (clrs S.bl[i].pages pre) k ∧ ∀ y ∈ pre, y.val < k)
      (fun c pre' W => EMid w W p q cap g C S i hi (S.np : Int) (clrs S.bl[i].pages pre'.dropLast) k ∧ (c = .exit 0 ∧ (∀ y ∈ pre'.dropLast, y.val < k) ∧ ∃ x, pre' = pre'.dropLast ++ [x] ∧ k ≤ x.val))
      ?own ?ownx ?start
    case own => exact OwnFrom.and (emid_own HS.out i hi (S.np : Int) (fun pre => clrs S.bl[i].pages pre) k) (ownFrom_pure _ _)
    case ownx => exact fun c => OwnFrom.and (emid_own HS.out i hi (S.np : Int) (fun pre' : List (Fin S.np) => clrs S.bl[i].pages pre'.dropLast) k) (ownFrom_pure _ _)
    case start => exact ⟨H2.out, fun y hy => by cases hy⟩
    case hassign =>
      intro l x W K hK
      gi_wp2
      exact hK
    case hbody =>
      rintro l pre x W ⟨hM, hpre⟩ hlt
      obtain ⟨cb, ck, cr, ⟨v, cv⟩, cf⟩ := hM.facts x.isLt
      have hx := x.isLt
      have HM := Lib.hid hM
      clear hM
      by_cases hxk : x.val < k
      · have : ¬ (k : Int) ≤ (x.val : Int) := by omega
        gi_wp2
        refine ⟨(KeepsOthers.setCell _ _ _).from _, trivial, ?_, fun y hy => ?_⟩
        · rw [clrs_snoc]
          exact HM.out.set hg
        · rcases List.mem_append.1 hy with h | h
          · exact hpre y h
          · simp at h; subst h; exact hxk
      · have : (k : Int) ≤ (x.val : Int) := by omega
        gi_wp2
        refine ⟨KeepsFrom.refl _ _, ?_⟩
        simp only [List.dropLast_concat]
        exact ⟨HM.out, trivial, hpre, x, rfl, by omega⟩
    case hdone =>
      rintro D ys W hD rfl ⟨hM, hall⟩ hK
      gi_wp2
      have hlast : S.np - 1 < k := hall ⟨S.np - 1, by omega⟩ (by simp)
      omega
    case hstop =>
      rintro D c pre W hD hpre ⟨hM, rfl, hall, x, hx, hkx⟩ hK
      gi_wp2
      rw [hx] at hpre
      have hp := fin_snoc hpre
      have hxk : x.val = k := by
        rcases Nat.lt_or_ge k x.val with h | h
        · have : k < k := hall ⟨k, by omega⟩ (by rw [hp]; exact fin_mem_take h)
          omega
        · omega
      exact emid_out hM (Nat.le_trans HS.out hD) hK (by rw [if_neg hkn]) (by rw [hp, clrs_take _ hlen _ (by omega), hxk]) _
end
end Go.Proofs.Yteghegojhhoppaa
