/- look of package wear: the places that are looked at, and the counts there. -/
import Derived.Maps.OwnIn
import Derived.Test.YtjgpjmlnmjgdmaaWearMath3
import Derived.Test.YtjgpjmlnmjgdmaaTRegIn
namespace Go.Proofs.Ytjgpjmlnmjgdmaa
open Go.RowKit Go.Shelf

attribute [local go_sem] Oper.semAt_some

theorem info_ints : (Try.prog.info? 3).map (fun i => (i.zero, i.size, i.bytes)) = some (some (.int .i64 0), 1, 8) := by kernel_rfl
/-- A row of ints from B on. -/
abbrev IOw (W : World) (B : Nat) (v : Value) (l : List Int) : Prop := W.ownsRow B 3 1 v l.length (l.map (Value.int .i64))
theorem own_keep {W W' : World} {B : Nat} {t : TypeId} {sz n : Nat} {v : Value} {xs : List Value} (h : W.ownsRow B t sz v n xs) (hk : ∀ k o, B ≤ k → v.ownBlock = some k → W.heap[k]? = some o → o.isCells = true → W'.heap[k]? = W.heap[k]?) : W'.ownsRow B t sz v n xs := by
  refine ⟨h.1, h.2.imp id ?_⟩
  rintro ⟨g, cap, cur, hv, hb, hg, hr⟩
  exact ⟨g, cap, cur, hv, hb, (hk g _ hb (by rw [hv]; rfl) hg rfl).trans hg, hr⟩
theorem own_cells {W : World} {B : Nat} {t : TypeId} {sz n : Nat} {v : Value} {xs : List Value} (h : W.ownsRow B t sz v n xs) {k : Nat} {o : Obj} (hk : v.ownBlock = some k) (ho : W.heap[k]? = some o) : o.isCells = true := by
  rcases h.2 with ⟨e, _⟩ | ⟨g', cap', cur, e, _, hgb, _⟩
  · rw [e] at hk; simp [Value.ownBlock] at hk
  · rw [e] at hk
    obtain rfl : g' = k := by simpa [Value.ownBlock] using hk
    rw [hgb] at ho; cases ho; rfl

/-- look's walk: the boxes of the counts and of the two lists, the first list's row; v2 is the second one's value. -/
structure LkB (w W : World) (B0 i1 i2 : Nat) (cv v1 v2 : Value) (P : List Int) : Prop where
  boxC : Boxed W w.heap.size 22 cv
  box1 : Boxed W i1 22 v1
  box2 : Boxed W i2 22 v2
  row1 : IOw W B0 v1 P
  own2 : ∀ k, v2.ownBlock = some k → B0 ≤ k ∧ k < W.heap.size ∧ v1.ownBlock ≠ some k
  below : Below w.heap.size w W
  sz : B0 ≤ W.heap.size
  ne : w.heap.size < i1 ∧ w.heap.size < i2 ∧ i1 ≠ i2 ∧ i1 < B0 ∧ i2 < B0
def LkG (w W : World) (B0 i1 i2 : Nat) (cv v1 v2 : Value) (P L : List Int) : Prop := LkB w W B0 i1 i2 cv v1 v2 P ∧ IOw W B0 v2 L
section
variable {w W W' W0 : World} {B0 i1 i2 : Nat} {cv v1 v2 : Value} {P L : List Int}
theorem LkG.swap (h : LkG w W B0 i1 i2 cv v1 v2 P L) : LkG w W B0 i2 i1 cv v2 v1 L P :=
  ⟨⟨h.1.boxC, h.1.box2, h.1.box1, h.2, fun k hk => ⟨(h.1.row1.lt k hk).1, (h.1.row1.lt k hk).2, fun e => (h.1.own2 k e).2.2 hk⟩, h.1.below, h.1.sz, ⟨h.1.ne.2.1, h.1.ne.1, h.1.ne.2.2.1.symm, h.1.ne.2.2.2.2, h.1.ne.2.2.2.1⟩⟩, h.1.row1⟩
theorem LkB.move (h : LkB w W B0 i1 i2 cv v1 v2 P) (hs : W.heap.size ≤ W'.heap.size) (hb : Below w.heap.size w W') (hk : ∀ k o, w.heap.size ≤ k → v2.ownBlock ≠ some k → W.heap[k]? = some o → o.isCells = true → W'.heap[k]? = W.heap[k]?) : LkB w W' B0 i1 i2 cv v1 v2 P := by
  obtain ⟨n1, n2, n3, n4, n5⟩ := h.ne
  have hne : ∀ i, i < B0 → v2.ownBlock ≠ some i := fun i hi e => by have := (h.own2 i e).1; omega
  refine ⟨(hk _ _ (Nat.le_refl _) (hne _ (by omega)) h.boxC rfl).trans h.boxC, (hk _ _ (by omega) (hne _ n4) h.box1 rfl).trans h.box1, (hk _ _ (by omega) (hne _ n5) h.box2 rfl).trans h.box2, own_keep h.row1 fun k o hB hv ho hc => hk k o (by omega) (fun e => (h.own2 k e).2.2 hv) ho hc, fun k hk' => ?_, hb, by have := h.sz; omega, h.ne⟩
  obtain ⟨a1, a2, a3⟩ := h.own2 k hk'
  exact ⟨a1, by omega, a3⟩
theorem LkB.more (h : LkB w W B0 i1 i2 cv v1 v2 P) (hb : Below W.heap.size W W') : LkB w W' B0 i1 i2 cv v1 v2 P :=
  h.move hb.size (h.below.trans (hb.mono h.below.size)) fun k _ _ _ ho _ => hb.block k (lt_size ho)
theorem LkB.wrote (h : LkB w W B0 i1 i2 cv v1 v2 P) (hg : W.grownBy W' v2.ownBlock) : LkB w W' B0 i1 i2 cv v1 v2 P :=
  h.move hg.size (h.below.grown hg h.below.size fun r e => by have := (h.own2 r e).1; have := h.ne; omega) fun k _ _ hv ho _ => hg.block k (lt_size ho) fun e => hv e.symm
theorem LkB.grown {row : Option Nat} (h : LkB w W B0 i1 i2 cv v1 v2 P) (hg : W.grownBy W' row) (hrow : ∀ r, row = some r → w.heap.size ≤ r ∧ ∃ o : Obj, W.heap[r]? = some o ∧ o.isCells = false) : LkB w W' B0 i1 i2 cv v1 v2 P :=
  h.move hg.size (h.below.grown hg h.below.size fun r e => (hrow r e).1) fun k _ _ _ ho hc => hg.block k (lt_size ho) fun e => by
    obtain ⟨_, o', ho', hc'⟩ := hrow k e.symm
    rw [ho] at ho'; cases ho'; rw [hc] at hc'; cases hc'
theorem LkB.stored {v2' : Value} {L' : List Int} (h : LkB w W B0 i1 i2 cv v1 v2 P) (hr : IOw W B0 v2' L') (hap : ∀ k, v2'.ownBlock = some k → v1.ownBlock ≠ some k) : LkG w (W.setCell ⟨i2, 0, none⟩ v2') B0 i1 i2 cv v1 v2' P L' := by
  obtain ⟨n1, n2, n3, n4, n5⟩ := h.ne
  have far : ∀ k, k ≠ i2 → (W.setCell ⟨i2, 0, none⟩ v2').heap[k]? = W.heap[k]? := fun k hk => Below.heap_setCell W ⟨i2, 0, none⟩ _ k hk
  refine ⟨⟨(far _ (by omega)).trans h.boxC, (far _ n3).trans h.box1, h.box2.set v2', own_keep h.row1 fun k o hB _ _ _ => far k (by omega), fun k hk => ⟨(hr.lt k hk).1, by simpa using (hr.lt k hk).2, hap k hk⟩, h.below.setCell (p := ⟨i2, 0, none⟩) (by show w.heap.size ≤ i2; omega) _, by simpa using h.sz, h.ne⟩, own_keep hr fun k o hB _ _ _ => far k (by omega)⟩
theorem LkG.again (h : LkG w W B0 i1 i2 cv v1 v2 P L) : LkG w (W.setCell ⟨i2, 0, none⟩ v2) B0 i1 i2 cv v1 v2 P L := h.1.stored h.2 fun k hk => (h.1.own2 k hk).2.2
theorem LkG.again1 (h : LkG w W B0 i1 i2 cv v1 v2 P L) : LkG w (W.setCell ⟨i1, 0, none⟩ v1) B0 i1 i2 cv v1 v2 P L := h.swap.again.swap
theorem LkG.grown {row : Option Nat} (h : LkG w W B0 i1 i2 cv v1 v2 P L) (hg : W.grownBy W' row) (hrow : ∀ r, row = some r → w.heap.size ≤ r ∧ ∃ o : Obj, W.heap[r]? = some o ∧ o.isCells = false) : LkG w W' B0 i1 i2 cv v1 v2 P L :=
  ⟨h.1.grown hg hrow, (h.swap.1.grown hg hrow).row1⟩
theorem LkG.more (h : LkG w W B0 i1 i2 cv v1 v2 P L) (hb : Below W.heap.size W W') : LkG w W' B0 i1 i2 cv v1 v2 P L := ⟨h.1.more hb, (h.swap.1.more hb).row1⟩
theorem keeps_app {B : Nat} {v : Value} {l : List Int} (hr : IOw W B v l) (hg : W.grownBy W' v.ownBlock) : KeepsOthers W W' := KeepsOthers.of_grownBy hg fun _ _ ej hj => own_cells hr ej hj
end
/-- What look leaves: the places and the counts, each in a row of its own, in new memory. -/
def LookPost (zs : List (Int × Bool)) (w : World) (e : Ending) (W : World) : Prop :=
  ∃ v1 v2, e = .returned (.tuple #[v1, v2]) ∧ IOw W w.heap.size v1 (placesP zs) ∧ IOw W w.heap.size v2 (looksP zs) ∧ Below w.heap.size w W
/-- Which of the region's operations wait for which. -/
def waitsL : List (Nat × Nat) := [(3, 1), (3, 2), (4, 3), (5, 4), (6, 0), (6, 5), (7, 6)]
def ClosedL (d : Nat → Bool) : Prop := ∀ x ∈ waitsL, d x.1 = true → d x.2 = true
theorem ClosedL.also {d : Nat → Bool} {i : Nat} (h : ClosedL d) (hw : ∀ x ∈ waitsL, x.1 = i → d x.2 = true) : ClosedL (also d i) := fun x hx hd => by
  unfold Go.Proofs.Ytjgpjmlnmjgdmaa.also at hd ⊢
  by_cases h2 : x.2 = i
  · rw [if_pos h2]
  · rw [if_neg h2]
    by_cases h1 : x.1 = i
    · exact hw x hx h1
    · rw [if_neg h1] at hd
      exact h x hx hd
theorem ClosedL.seven {d : Nat → Bool} (h : ClosedL d) (h7 : d 7 = true) : d 0 = true ∧ d 1 = true ∧ d 2 = true ∧ d 3 = true ∧ d 4 = true ∧ d 5 = true ∧ d 6 = true := by
  have h6 := h (7, 6) (by simp [waitsL]) h7
  have h5 := h (6, 5) (by simp [waitsL]) h6
  have h4 := h (5, 4) (by simp [waitsL]) h5
  have h3 := h (4, 3) (by simp [waitsL]) h4
  exact ⟨h (6, 0) (by simp [waitsL]) h6, h (3, 1) (by simp [waitsL]) h3, h (3, 2) (by simp [waitsL]) h3, h3, h4, h5, h6⟩
theorem ClosedL.no7 {d : Nat → Bool} (h : ClosedL d) (hn : ¬ (d 0 = true ∧ d 1 = true ∧ d 2 = true ∧ d 3 = true ∧ d 4 = true ∧ d 5 = true ∧ d 6 = true)) : d 7 = false := by
  cases e : d 7 with
  | false => rfl
  | true => exact absurd (h.seven e) hn
end Go.Proofs.Ytjgpjmlnmjgdmaa
