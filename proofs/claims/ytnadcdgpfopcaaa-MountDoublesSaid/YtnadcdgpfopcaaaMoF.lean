/- A scan: Step. -/
import Derived.Test.YtnadcdgpfopcaaaMoE
namespace Go.Proofs.Ytnadcdgpfopcaaa
open Go.RowKit Go.Shelf

attribute [local go_sem] Oper.semAt_some

theorem wpIn_worldm {F : Fence} {n : Nat} {P : Program} {c : Code} {Q : Exit → Act → World → Prop} {a : Act} {w : World} (h : ∀ W, W = w → c.wpIn F n P Q a W) : c.wpIn F n P Q a w := h w rfl
section
variable {w w' : World} {s c cap : Nat} {x y Y F : Nat → Prop} {v : Value} {A : Option Addr} {M : MS} {S S' : LS}
theorem Held.page_len (h : Held w c x S) (b pg : Int) : (rdL S b pg).1.length ≤ 2000 := by
  obtain ⟨q, cap, g, C, h1, -⟩ := h
  unfold rdL
  split
  · simp
  · split
    · simp
    · unfold pageL
      cases e : S.bl[b.toNat]? with
      | none => simp
      | some y =>
        obtain ⟨hi, rfl⟩ := List.getElem?_eq_some_iff.1 e
        show ((S.bl[b.toNat]).pages.getD pg.toNat []).length ≤ 2000
        rw [List.getD_eq_getElem?_getD]
        cases e2 : (S.bl[b.toNat]).pages[pg.toNat]? with
        | none => simp
        | some z =>
          obtain ⟨hj, rfl⟩ := List.getElem?_eq_some_iff.1 e2
          obtain ⟨A, cc, -, -, h4, -⟩ := (h1.blocks b.toNat hi).pages pg.toNat hj
          exact h4
theorem rdL_np (S : LS) (b pg : Int) : (rdL S b pg).2.2.np = S.np := by
  unfold rdL
  split
  · rfl
  · split <;> rfl
theorem rdL_dark (S : LS) (b pg : Int) : (rdL S b pg).2.2.dark = S.dark := by
  unfold rdL
  split
  · rfl
  · split <;> rfl
theorem note_S (M : MS) (sp : P2) (l : List UInt8) : (M.note sp l).S = M.S ∧ (M.note sp l).B = M.B ∧ (M.note sp l).P = M.P ∧ (M.note sp l).k = M.k ∧ (M.note sp l).fd.length ≤ M.fd.length + 1 := by
  unfold MS.note
  split
  · exact ⟨rfl, rfl, rfl, rfl, by omega⟩
  · split <;> exact ⟨rfl, rfl, rfl, rfl, by simp⟩
theorem visit_S (M : MS) (sp : P2) : (M.visit sp).S.bl = M.S.bl ∧ (M.visit sp).S.np = M.S.np ∧ (M.visit sp).B = M.B ∧ (M.visit sp).P = M.P ∧ (M.visit sp).k = M.k ∧ (M.visit sp).fd.length ≤ M.fd.length + 1 := by
  obtain ⟨h1, h2, h3, h4, h5⟩ := note_S { M with S := (rdL M.S sp.1 sp.2).2.2 } sp (rdL M.S sp.1 sp.2).1
  unfold MS.visit
  exact ⟨by rw [h1]; exact rdL_len _ _ _, by rw [h1]; exact rdL_np _ _ _, h2, h3, h4, h5⟩
theorem visits_snoc (M : MS) (l : List P2) (sp : P2) : M.visits (l ++ [sp]) = (M.visits l).visit sp := by simp [MS.visits]
theorem visits_S (l : List P2) : ∀ M : MS, (M.visits l).S.bl = M.S.bl ∧ (M.visits l).S.np = M.S.np ∧ (M.visits l).B = M.B ∧ (M.visits l).P = M.P ∧ (M.visits l).k = M.k ∧ (M.visits l).fd.length ≤ M.fd.length + l.length := by
  induction l with
  | nil => exact fun M => ⟨rfl, rfl, rfl, rfl, rfl, Nat.le_refl _⟩
  | cons a l ih =>
    intro M
    obtain ⟨a1, a2, a3, a4, a5, a6⟩ := ih (M.visit a)
    obtain ⟨b1, b2, b3, b4, b5, b6⟩ := visit_S M a
    refine ⟨a1.trans b1, a2.trans b2, a3.trans b3, a4.trans b4, a5.trans b5, ?_⟩
    have : (M.visits (a :: l)).fd.length ≤ (M.visit a).fd.length + l.length := a6
    simp only [List.length_cons]
    omega
theorem wrTo_len (S : LS) (P fr en k : Nat) : (wrTo S P fr en k).length ≤ min en (k * P) - fr := by
  induction k with
  | zero => simp [wrTo_zero]
  | succ k ih =>
    rw [wrTo_succ, List.length_append]
    have e : (k + 1) * P = k * P + P := by rw [Nat.add_mul, Nat.one_mul]
    rw [e]
    have h2 : (if (tellB S (k : Int)).next = 0 then ([] : List P2) else pgs P k fr en).length ≤ min en (k * P + P) - max fr (k * P) := by
      split
      · simp
      · rw [pgs_len]; omega
    generalize k * P = q at *
    omega
/-- Sizes of a scan, and how much it has found. -/
structure MGood (M : MS) : Prop where
  ok : MOk M
  fd : M.fd.length ≤ M.k
/-- The sizes behind a step. -/
theorem MGood.stepped (good : MGood M) (n : Int) : MGood (M.stepped n) := by
  have ok := good.ok
  obtain ⟨a1, a2, a3, a4, a5, a6⟩ := visits_S (wrTo M.S M.P M.k (M.end_ n) M.B) M
  have hl := wrTo_len M.S M.P M.k (M.end_ n) M.B
  have hk := ok.k
  have he : M.end_ n = M.k + min n.toNat (M.B * M.P - M.k) := rfl
  refine ⟨⟨?_, ?_, ?_, ?_, ?_⟩, ?_⟩
  · show ((M.visits _).S.bl).length = (M.visits _).B; rw [a1, a3]; exact ok.bl
  · show (M.visits _).S.np = (M.visits _).P; rw [a2, a4]; exact ok.np
  · show 1 ≤ (M.visits _).B ∧ (M.visits _).B ≤ 64; rw [a3]; exact ok.b64
  · show 1 ≤ (M.visits _).P ∧ (M.visits _).P ≤ 32; rw [a4]; exact ok.p32
  · show M.end_ n ≤ (M.visits _).B * (M.visits _).P; rw [a3, a4]; omega
  · show (M.visits _).fd.length ≤ M.end_ n
    have := good.fd
    omega
/-- What is no row of cells is none of a scan's. -/
theorem ScanAt.noncells (h : ScanAt w s c Y v A cap M) {r : Nat} {o : Obj} (hr : w.heap[r]? = some o) (ho : o.isCells = false) : r ≠ s ∧ v.ownBlock ≠ some r ∧ NotAt A M.rd r := by
  refine ⟨fun e => ?_, fun e => ?_, fun h0 ad e eb => ?_⟩
  · subst e
    rw [h.self] at hr
    cases hr
    cases ho
  · rcases h.own.2 with ⟨k, -⟩ | ⟨g, cp, cur, k, -, hg, -⟩
    · rw [k] at e; cases e
    · rw [k] at e
      have : g = r := by simpa [Value.ownBlock] using e
      subst this
      rw [hg] at hr
      cases hr
      cases ho
  · obtain ⟨ad', e', hC, hc⟩ := h.data h0
    rw [e] at e'
    cases e'
    obtain ⟨o', ho', hi⟩ := cells_of_cell (hc 0 h0)
    rw [block_add, eb, hr] at ho'
    cases ho'
    rw [ho] at hi
    cases hi
/-- In a round: the scan, what it leaves alone, what was turned since the first. -/
def SInv (w1 : World) (s c : Nat) (X Z : Nat → Prop) (M : MS) (W : World) : Prop :=
  ∃ Y v A cap, ScanAt W s c Y v A cap M ∧ (∀ b, (Z b ∨ (w1.heap.size ≤ b ∧ b < W.heap.size)) → Y b) ∧ (∀ b, X b → Far s Y v A M.rd b) ∧ Safe X w1 W
variable {w1 W W' : World} {X Z : Nat → Prop}
theorem SInv.grow {G : Nat → Prop} (h : SInv w1 s c X Z M W) (ht : Turned G W W') (hG : ∀ b, G b → w1.heap.size ≤ b ∧ b < W.heap.size ∧ ∃ o : Obj, W.heap[b]? = some o ∧ o.isCells = false) (hX : ∀ b, X b → b < w1.heap.size) : SInv w1 s c X Z M W' := by
  obtain ⟨Y, v, A, cap, h1, h2, h3, h4⟩ := h
  refine ⟨_, v, A, cap, h1.grow ht fun b hb => ?_, fun b hb => ?_, fun b hb => ⟨.inl (h3 b hb).1, (h3 b hb).2⟩, h4.then (Turned.mono' ht fun b hb hx => by have := (hG b hb).1; have := hX b hx; omega)⟩
  · obtain ⟨g1, g2, o, g3, g4⟩ := hG b hb
    exact ⟨h2 b (.inr ⟨g1, g2⟩), h1.noncells g3 g4⟩
  · rcases hb with hb | hb
    · exact .inl (h2 b (.inl hb))
    · rcases Nat.lt_or_ge b W.heap.size with k | k
      · exact .inl (h2 b (.inr ⟨hb.1, k⟩))
      · exact .inr ⟨k, hb.2⟩
theorem SInv.below (h : SInv w1 s c X Z M W) (hb : Below W.heap.size W W') (hX : ∀ b, X b → b < w1.heap.size) : SInv w1 s c X Z M W' :=
  h.grow (G := fun _ => False) (.of_below hb) (fun _ k => k.elim) hX
end
end Go.Proofs.Ytnadcdgpfopcaaa
