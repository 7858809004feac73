/- The landed chip: one block of it is written. -/
import Derived.Test.YteghegojhhoppaaLState
namespace Go.Proofs.Yteghegojhhoppaa
open Go.RowKit

section
variable {p q cap : Nat} {g : Nat → Nat} {C D : Nat → Prop} {S : LS} {w w' : World}
/-- One block has turned: its cells, its pages. -/
theorem LAt.blk (h : LAt w p q cap g C S) {i : Nat} {b : Bk} (hp : w'.heap[p]? = w.heap[p]?) (hq : ∃ cs t, w'.heap[q]? = some (.cells cs t (0, 0)))
    (hfar : ∀ k, k ≠ i → ∀ m, m < 4 → w'.cell? ⟨q, k * 4 + m, none⟩ = w.cell? ⟨q, k * 4 + m, none⟩) (hg : ∀ k, k < S.bl.length → k ≠ i → w'.heap[g k]? = w.heap[g k]?)
    (hC : ∀ b, C b → w'.heap[b]? = w.heap[b]?) (hCD : ∀ b, C b → D b) (hD : ∀ b, D b → (b ≠ p ∧ b ≠ q ∧ ∀ k, k < S.bl.length → b ≠ g k) ∧ b < w'.heap.size) (hb : BkAt w' D q i (g i) S.np b) :
    LAt w' p q cap g D { S with bl := S.bl.set i b } where
  self := by rw [hp, h.self]; simp [LS.cells]
  plain := hq
  blocks := fun k hk => by
    have hk' : k < S.bl.length := by simpa using hk
    show BkAt w' D q k (g k) S.np ((S.bl.set i b)[k])
    rw [List.getElem_set]
    split
    · next e => subst e; exact hb
    · next e =>
      have ne : k ≠ i := fun e' => e e'.symm
      have o := h.blocks k hk'
      exact {
        bad := by have := hfar k ne 0 (by omega); rw [Nat.add_zero] at this; exact this.trans o.bad
        next := (hfar k ne 1 (by omega)).trans o.next
        count := (hfar k ne 2 (by omega)).trans o.count
        row := (hfar k ne 3 (by omega)).trans o.row
        len := o.len
        plain := by obtain ⟨cs, t, e⟩ := o.plain; exact ⟨cs, t, (hg k hk' ne).trans e⟩
        pages := fun j hj => by
          obtain ⟨A, c, h1, h2, h4, h3⟩ := o.pages j hj
          exact ⟨A, c, (World.cell?_of_block (a := ⟨g k, j, none⟩) (hg k hk' ne)).trans h1, h2, h4, h3.keep hC hCD⟩
        nextIn := o.nextIn }
  ne := h.ne
  gp := fun k hk => h.gp k (by simpa using hk)
  gg := fun k m hk hm => h.gg k m (by simpa using hk) (by simpa using hm)
  cp := fun b hb => ⟨(hD b hb).1.1, (hD b hb).1.2.1, fun k hk => (hD b hb).1.2.2 k (by simpa using hk)⟩
  cl := fun b hb => (hD b hb).2
  cap := by simpa using h.cap
  small := by simpa using h.small
  ints := h.ints
/-- A cell of block i's own is written: bad, next, or count. -/
theorem LAt.row_set (h : LAt w p q cap g C S) {i m : Nat} {b : Bk} {u : Value} (hi : i < S.bl.length) (hm : m < 3) (hpg : b.pages = S.bl[i].pages) (hn : 0 ≤ b.next ∧ b.next ≤ S.np)
    (h0 : if m = 0 then u = .bool b.bad else b.bad = S.bl[i].bad) (h1 : if m = 1 then u = .int .i64 b.next else b.next = S.bl[i].next) (h2 : if m = 2 then u = .int .i64 b.count else b.count = S.bl[i].count) :
    LAt (w.setCell ⟨q, i * 4 + m, none⟩ u) p q cap g C { S with bl := S.bl.set i b } := by
  have o := h.blocks i hi
  have far : ∀ k, k ≠ q → (w.setCell ⟨q, i * 4 + m, none⟩ u).heap[k]? = w.heap[k]? := fun k hk => Below.heap_setCell w ⟨q, i * 4 + m, none⟩ u k hk
  have oth : ∀ x, x ≠ i * 4 + m → (w.setCell ⟨q, i * 4 + m, none⟩ u).cell? ⟨q, x, none⟩ = w.cell? ⟨q, x, none⟩ := fun x hx => World.cell?_setCell_other _ _ _ _ (fun e => hx (by simpa using e.symm))
  refine h.blk (far p h.ne) ?_ (fun k hk x hx => oth _ (by omega)) (fun k hk _ => far _ (h.gp k hk).2) (fun b hb => far b (h.cp b hb).2.1) (fun _ h => h) (fun b hb => ⟨h.cp b hb, by simpa using h.cl b hb⟩) ?_
  · obtain ⟨cs, t, e⟩ := h.plain
    exact ⟨_, t, heap_setCell_same w q _ cs t u e⟩
  · exact {
      bad := by
        by_cases e : m = 0
        · subst e; rw [if_pos rfl] at h0; subst h0; exact World.cell?_setCell_same _ ⟨q, i * 4 + 0, none⟩ _ o.bad
        · rw [if_neg e] at h0; rw [h0, oth _ (by omega)]; exact o.bad
      next := by
        by_cases e : m = 1
        · subst e; rw [if_pos rfl] at h1; subst h1; exact World.cell?_setCell_same _ _ _ o.next
        · rw [if_neg e] at h1; rw [h1, oth _ (by omega)]; exact o.next
      count := by
        by_cases e : m = 2
        · subst e; rw [if_pos rfl] at h2; subst h2; exact World.cell?_setCell_same _ _ _ o.count
        · rw [if_neg e] at h2; rw [h2, oth _ (by omega)]; exact o.count
      row := by rw [oth _ (by omega)]; exact o.row
      len := by rw [hpg]; exact o.len
      plain := by obtain ⟨cs, t, e⟩ := o.plain; exact ⟨cs, t, (far _ (h.gp i hi).2).trans e⟩
      pages := fun j hj => by
        have hj' : j < S.bl[i].pages.length := by rw [← hpg]; exact hj
        have := (o.pages j hj').kept (w' := w.setCell ⟨q, i * 4 + m, none⟩ u) (far _ (h.gp i hi).2) (fun b hb => far b (h.cp b hb).2.1)
        simpa [hpg] using this
      nextIn := hn }
/-- Page j of block i is written. -/
theorem LAt.page_set (h : LAt w p q cap g C S) {i j c : Nat} {A : Option Addr} {l : List UInt8} (hi : i < S.bl.length) (hc : l.length ≤ c) (hl : l.length ≤ 2000)
    (hCD : ∀ b, C b → D b) (hD : ∀ b, D b → (b ≠ p ∧ b ≠ q ∧ ∀ k, k < S.bl.length → b ≠ g k) ∧ b < w.heap.size) (hb : CB w D A l) :
    LAt (w.setCell ⟨g i, j, none⟩ (.slice A l.length c)) p q cap g D { S with bl := S.bl.set i { S.bl[i] with pages := S.bl[i].pages.set j l } } := by
  have o := h.blocks i hi
  have far : ∀ k, k ≠ g i → (w.setCell ⟨g i, j, none⟩ (.slice A l.length c)).heap[k]? = w.heap[k]? := fun k hk => Below.heap_setCell w ⟨g i, j, none⟩ _ k hk
  have hq := far q (h.gp i hi).2.symm
  have hDk : ∀ b, D b → (w.setCell ⟨g i, j, none⟩ (.slice A l.length c)).heap[b]? = w.heap[b]? := fun b hb => far b ((hD b hb).1.2.2 i hi)
  refine h.blk (far p (h.gp i hi).1.symm) ?_ (fun k _ x _ => World.cell?_of_block (a := ⟨q, k * 4 + x, none⟩) hq) (fun k hk hne => far _ fun e => hne (h.gg k i hk hi e)) (fun b hb => hDk b (hCD b hb)) hCD (fun b hb => ⟨(hD b hb).1, by simpa using (hD b hb).2⟩) ?_
  · obtain ⟨cs, t, e⟩ := h.plain
    exact ⟨cs, t, hq.trans e⟩
  · exact {
      bad := (World.cell?_of_block (a := ⟨q, i * 4, none⟩) hq).trans o.bad
      next := (World.cell?_of_block (a := ⟨q, i * 4 + 1, none⟩) hq).trans o.next
      count := (World.cell?_of_block (a := ⟨q, i * 4 + 2, none⟩) hq).trans o.count
      row := (World.cell?_of_block (a := ⟨q, i * 4 + 3, none⟩) hq).trans o.row
      len := by simpa using o.len
      plain := by
        obtain ⟨cs, t, e⟩ := o.plain
        exact ⟨_, t, heap_setCell_same w (g i) j cs t _ e⟩
      pages := fun k hk => by
        have hk' : k < S.bl[i].pages.length := by simpa using hk
        show PageAt _ D ⟨g i, k, none⟩ ((S.bl[i].pages.set j l)[k])
        rw [List.getElem_set]
        split
        · next e =>
          subst e
          obtain ⟨A0, c0, h1, _⟩ := o.pages j hk'
          exact ⟨A, c, World.cell?_setCell_same _ _ _ h1, hc, hl, hb.keep hDk fun _ h => h⟩
        · next e =>
          obtain ⟨A0, c0, h1, h2, h4, h3⟩ := o.pages k hk'
          exact ⟨A0, c0, (World.cell?_setCell_other _ _ _ _ (fun e' => by injection e' with _ h2 _; exact e h2)).trans h1, h2, h4, h3.keep (fun b hb => hDk b (hCD b hb)) hCD⟩
      nextIn := o.nextIn }
end
end Go.Proofs.Yteghegojhhoppaa
