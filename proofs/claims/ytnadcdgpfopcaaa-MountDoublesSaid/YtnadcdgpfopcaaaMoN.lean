/- A range over a function whose rounds make maps and write them later: the law for an invariant that tells the loop's two own blocks by their places; of no program. -/
import Derived.Test.YtnadcdgpfopcaaaMoI
namespace Go.Proofs.Ytnadcdgpfopcaaa
open Go.RowKit

/-- What an iterator keeps to that lays nothing of its own: whatever the word is that its rounds hand on. -/
def SeqBare {α : Type} (F : Fence) (n : Nat) (P : Program) (g : Nat) (lb : Array Value) (encs : α → Array Value) (Kp : World → World → Prop) (S Sp : List α → Prop) (N : Nat) (w : World) : Prop :=
  ∀ (l : Nat) (J Jx : List α → World → Prop) (V : World), Below w.heap.size w V →
    (∀ pre x W, J pre W → pre.length < N → YieldAt F (n - 1) P l (encs x) W (RoundEnds Kp J Jx pre x W)) → J [] V →
    CallsIn F n P g (#[.func (.yield l) #[] #[]] ++ lb) V fun e W' => (∃ v, e = .returned v) ∧ ((∃ xs, S xs ∧ J xs W') ∨ (∃ pre, Sp pre ∧ Jx pre W'))
/-- How a round is left: the loop's own two blocks stand, and the next word holds. -/
def heldPost {α : Type} (b : Nat) (Kp : World → World → Prop) (I : List α → World → Prop) (xs : List α) (W : World) : Exit → Act → World → Prop
  | .normal, _, W' => W'.heap[b]? = W.heap[b]? ∧ W'.heap[b + 1]? = W.heap[b + 1]? ∧ Kp W W' ∧ I xs W'
  | _, _, _ => False
theorem wpIn_rangeFunc_held {α : Type} {F : Fence} {n : Nat} {P : Program} {g : Operand} {ps : Array Tmp} {assign body : Code} {Q : Exit → Act → World → Prop} {a : Act} {w : World}
    (hro : F.round = none) (h1 : 1 ≤ n) {gf : Nat} {lb : Array Value} (hg : a.eval g = .func (.func gf) #[] lb) (hFg : F.fn gf) (eg : ∀ args w, (callFunc gf args).run P w = .ok (.enter gf args) w)
    {encs : α → Array Value} {Kp : World → World → Prop} {S Sp : List α → Prop} {N : Nat} {w0 : World} (hseq : SeqBare F (n - 1) P gf lb encs Kp S Sp N w0)
    (hKt : ∀ {A B C : World}, Kp A B → Kp B C → Kp A C) (hb0 : Below w0.heap.size w0 w) (hps : ∀ x, (encs x).size = ps.size)
    (hKg : ∀ (W W' : World) (row : Option Nat), w.heap.size ≤ W.heap.size → W.grownBy W' row → (∀ r, row = some r → r = w.heap.size ∨ r = w.heap.size + 1) → Kp W W')
    (cells : α → Obj) (I : List α → World → Prop)
    (hI : ∀ s (W W' : World) (row : Option Nat), I s W → W.grownBy W' row → (∀ r, row = some r → r = w.heap.size ∨ r = w.heap.size + 1) → I s W')
    (h0 : I [] w) (a₁ : α → Nat → Act)
    (hassign : ∀ (l : Nat) (x : α) (W : World) (K : Act → World → Prop), (∀ q, W.heap.size = q → K (a₁ x q) (W.alloc (cells x))) →
      assign.wpIn (F.inRound l) (n - 1 - 1) P (Exit.then K (fun _ _ _ => False)) { tmps := (ps.zip (encs x)).foldl (fun t (p, v) => t.setIfInBounds p v) a.tmps, defers := [] } W)
    (hbody : ∀ (l : Nat) (pre : List α) (x : α) (q : Nat) (V W : World), I pre V → V.grownBy W (some (w.heap.size + 1)) → V.heap.size ≤ q → pre.length < N → W.heap[q]? = some (cells x) → w.heap.size + 1 < V.heap.size → body.wpIn (F.inRound l) (n - 1 - 1) P (heldPost w.heap.size Kp I (pre ++ [x]) W) (a₁ x q) W)
    (hdone : ∀ (xs : List α) (W : World), S xs → I xs W → W.heap[w.heap.size]? = some (.deferred (some [])) → Q .normal { a with defers := { target := .collected w.heap.size, args := #[] } :: a.defers } W) :
    (Code.rangeFunc g ps assign body).wpIn F n P Q a w := by
  obtain ⟨D, hD⟩ : ∃ D, D = w.heap.size := ⟨_, rfl⟩
  rw [← hD] at hKg hI hbody hdone
  refine wpIn_rangeFunc fun fn hfn => ?_
  rw [hro]
  obtain ⟨rc, hrc⟩ : ∃ rc : LoopState → Option Code → Loop, rc = fun st pe => { state := st, pending := pe, fn, tmps := a.tmps, params := ps, assign, body, defers := w.heap.size } := ⟨_, rfl⟩
  obtain ⟨V, hV⟩ : ∃ V, V = (w.alloc (.deferred (some []))).alloc (.loop (rc .ready none)) := ⟨_, rfl⟩
  have hVL : V.heap[D + 1]? = some (.loop (rc .ready none)) := by
    have h := World.alloc_heap_new (w.alloc (.deferred (some []))) (.loop (rc .ready none))
    rw [World.size_alloc] at h
    rw [hV, hD]; exact h
  have hVD : V.heap[D]? = some (.deferred (some [])) := by
    rw [hV, hD]; exact (Below.heap_alloc _ _ _ (by simp)).trans (World.alloc_heap_new w _)
  have hbV : Below w.heap.size w V := by rw [hV]; exact ((Below.refl _ w).alloc (Nat.le_refl _) _).alloc (by simp) _
  have hgV : w.grownBy V none := ⟨hbV.os, hbV.tape, hbV.output, hbV.size, fun k hk _ => hbV.block k hk⟩
  refine ⟨D + 1, [{ target := .collected D, args := #[] }], V, { target := .fn (.func gf) lb, args := #[.func (.yield (D + 1)) #[] #[]] }, V, gf, #[.func (.yield (D + 1)) #[] #[]] ++ lb, V, ?_, ?_, ?_, ?_, fun _ => h1, ?_⟩
  · rw [hV, hrc, hD]; exact run_enterLoop_outer _ _ _ _ _
  · simp only [resolve, hg]
    simp [go_sem]
  · intro f' hf'
    simp [Target.leads] at hf'
    rw [← hf']; exact hFg
  · simp [invoke, go_sem, eg]
  · refine (hseq (D + 1) (fun pre W => I pre W ∧ W.heap[D + 1]? = some (.loop (rc .ready none)) ∧ W.heap[D]? = some (.deferred (some []))) (fun _ _ => False) V (hb0.trans (hbV.mono hb0.size))
      ?_ ⟨hI [] w V none h0 hgV fun _ e => (by cases e), hVL, hVD⟩).mono ?_
    · rintro pre x W ⟨i1, i2, i3⟩ hlen
      have hlt : D + 1 < W.heap.size := (Array.getElem?_eq_some_iff.1 i2).1
      have hy := run_yield (P := P) (args := encs x) i2 (by rw [hrc]; exact hps x)
      rw [hrc] at hy
      refine ⟨fn, _, assign, body, hy, roundIn_of_wpIn hfn (hassign _ x W _ fun q hq => ?_)⟩
      clear hy
      obtain ⟨X, hX⟩ : ∃ X, X = W.alloc (cells x) := ⟨_, rfl⟩
      have hXq : X.heap[q]? = some (cells x) := by rw [hX, ← hq]; exact World.alloc_heap_new W _
      have hXs : X.heap.size = W.heap.size + 1 := by rw [hX]; simp
      have hXl : X.heap[D + 1]? = some (.loop (rc .ready none)) := by rw [hX]; exact (Below.heap_alloc _ _ _ hlt).trans i2
      have hXd : X.heap[D]? = some (.deferred (some [])) := by rw [hX]; exact (Below.heap_alloc _ _ _ (by omega)).trans i3
      have hgX : W.grownBy X none := by rw [hX]; exact World.grownBy_alloc W _ none
      have kX : Kp W X := hKg W X none (by omega) hgX fun _ e => (by cases e)
      rw [← hX]
      refine ⟨_, run_beginRound hXl (by rw [hrc]), ?_⟩
      obtain ⟨Y, hY⟩ : ∃ Y, Y = X.putObj (D + 1) (.loop { rc .ready none with state := .busy }) := ⟨_, rfl⟩
      have hgY : X.grownBy Y (some (D + 1)) := by rw [hY]; exact grownBy_putObj' X (D + 1) _
      have hYl : Y.heap[D + 1]? = some (.loop { rc .ready none with state := .busy }) := by rw [hY]; exact World.putObj_heap_same (by omega)
      have hYd : Y.heap[D]? = some (.deferred (some [])) := by rw [hY]; exact (World.putObj_heap_other (by omega)).trans hXd
      have hYq : Y.heap[q]? = some (cells x) := by rw [hY]; exact (World.putObj_heap_other (by omega)).trans hXq
      have hYs : Y.heap.size = X.heap.size := by rw [hY]; simp
      have kY : Kp X Y := hKg X Y _ (by omega) hgY fun r e => by cases e; exact .inr rfl
      rw [← hY]
      have hWY : W.grownBy Y (some (D + 1)) := ⟨hgY.os.trans hgX.os, hgY.tape.trans hgX.tape, hgY.output.trans hgX.output, by omega, fun k hk hne => (hgY.block k (by omega) hne).trans (hgX.block k hk (by simp))⟩
      refine wpIn_mono (hbody _ pre x q W Y i1 hWY (by omega) hlen hYq hlt) fun e a3 Z hp => ?_
      cases e with
      | normal =>
        obtain ⟨e1, e2, kZ, iZ⟩ := hp
        have hZl := e2.trans hYl
        have hZd := e1.trans hYd
        have hr := run_endRound (P := P) none hZl
        have hZs := (Array.getElem?_eq_some_iff.1 hZl).1
        refine ⟨_, _, hr, .inl ⟨rfl, ⟨hI _ Z _ (some (D + 1)) iZ (grownBy_putObj' Z (D + 1) _) fun r e => by cases e; exact .inr rfl, ?_, (World.putObj_heap_other (by omega)).trans hZd⟩, hKt kX (hKt kY (hKt kZ (hKg Z _ (some (D + 1)) (by omega) (grownBy_putObj' Z (D + 1) _) fun r e => by cases e; exact .inr rfl)))⟩⟩
        rw [World.putObj_heap_same hZs, hrc]
        rfl
      | ret => exact hp.elim
      | exit id => exact hp.elim
      | goto t => exact hp.elim
      | panic ch => exact hp.elim
      | outgrown => exact hp.elim
    · rintro e W2 ⟨⟨v, rfl⟩, (⟨xs, hS, i1, i2, i3⟩ | ⟨_, _, h⟩)⟩
      · have hr := run_endLoop (P := P) i2 (by rw [hrc]; simp)
        refine ⟨none, _, by rw [hrc] at hr; exact hr, ?_⟩
        have hf := hdone xs (W2.putObj (D + 1) (.loop { rc .ready none with state := .exhausted })) hS (hI xs W2 _ (some (D + 1)) i1 (grownBy_putObj' W2 (D + 1) _) fun r e => by cases e; exact .inr rfl) ((World.putObj_heap_other (by omega)).trans i3)
        rw [hrc] at hf
        exact hf
      · exact h.elim
end Go.Proofs.Ytnadcdgpfopcaaa
