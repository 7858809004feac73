/- A node stored into a box, as one step of a list of operations. -/
import Derived.Test.YtohiabkjbieflaaNdX
namespace Go.Proofs.Ytohiabkjbieflaa
open Go.RowKit Go.Lib

theorem BoxAt.set0 {w : World} {p : Nat} {k l z : Int} {S T : Value} (h : BoxAt w p k l z S T) (x : Int) : BoxAt (w.setCell ⟨p, 0, none⟩ (.int .i64 x)) p x l z S T := by
  unfold BoxAt; rw [heap_setCell_same _ p 0 _ _ _ h]; rfl
set_option maxHeartbeats 1000000 in
theorem wpList_store_box {ops : Array Oper} {Q : Exit → Act → World → Prop} {rest : List Oper} {o : Oper} {a : Act} {w : World} (i j : Nat) (p : Nat) {k0 l0 z0 k l z : Int} {S0 T0 : Value} {A B : Option Addr} {m n c d : Nat} (hgd : o.guard = none) (ho : o.op = .store 25 (.tmp i) (.tmp j)) (hds : o.dst = none)
    (hi : a.eval (.tmp i) = .pointer (some ⟨p, 0, none⟩)) (hj : a.eval (.tmp j) = .agg #[.int .i64 k, .int .i64 l, .int .i64 z, .slice A m c, .slice B n d]) (hb : BoxAt w p k0 l0 z0 S0 T0)
    (h : ∀ w', BoxAt w' p k l z (.slice A m c) (.slice B n d) → (∀ b, b ≠ p → w'.heap[b]? = w.heap[b]?) → w'.heap.size = w.heap.size → w'.os = w.os → w'.tape = w.tape → w'.output = w.output → wpList Try.prog ops Q rest a w') : wpList Try.prog ops Q (o :: rest) a w := by
  refine wpList_plain hgd fun _ hK => ?_
  unfold Oper.wp execOp
  simp only [ho, hi, hj]
  have fr := hb.frozen
  obtain ⟨c0, c1, c2, c3, c4⟩ := hb.cells
  simp [go_sem, c0, c1, c2, c3, c4, fr 0, fr 1, fr 2, fr 3, fr 4]
  have hx := (((((hb.set0 k).set1 l).set2 z).set3 (.slice A m c)).set4 (.slice B n d))
  obtain ⟨W, hW⟩ : ∃ W, W = ((((w.setCell ⟨p, 0, none⟩ (.int .i64 k)).setCell ⟨p, 1, none⟩ (.int .i64 l)).setCell ⟨p, 2, none⟩ (.int .i64 z)).setCell ⟨p, 3, none⟩ (.slice A m c)).setCell ⟨p, 4, none⟩ (.slice B n d) := ⟨_, rfl⟩
  rw [← hW] at hx
  have := h W hx (fun b hb => by rw [hW, Below.heap_setCell _ _ _ _ hb, Below.heap_setCell _ _ _ _ hb, Below.heap_setCell _ _ _ _ hb, Below.heap_setCell _ _ _ _ hb, Below.heap_setCell _ _ _ _ hb]) (by rw [hW]; simp) (by rw [hW]; rfl) (by rw [hW]; rfl) (by rw [hW]; rfl)
  rw [← hW, hds]
  exact hK _ _ this
end Go.Proofs.Ytohiabkjbieflaa
