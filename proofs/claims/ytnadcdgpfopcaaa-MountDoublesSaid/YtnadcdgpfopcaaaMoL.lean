/- A scan: tables, their beginning: a row of tables of which nothing is put. -/
import Derived.Test.YtnadcdgpfopcaaaMoK
namespace Go.Proofs.Ytnadcdgpfopcaaa
open Go.RowKit Go.Maps Go.Shelf

attribute [local go_sem] Oper.semAt_some

section
variable {w w' W w1 : World} {G B j q : Nat} {x y : Nat → Prop} {Ts : Nat → List Fd} {p : Nat → Nat} {O : Nat → Nat → Prop}
theorem info_tabp : (Try.prog.info? 113).map (fun i => (i.zero, i.size, i.bytes)) = some (some (.pointer none), 1, 8) := by kernel_rfl
theorem make_tabs (n : Nat) (h : n ≤ 64) (w : World) : (Instr.makeSlice 95 (.int .i64 n) (.int .i64 n)).run Try.prog w = .ok (.slice (some ⟨w.heap.size, 0, none⟩) n n) (w.alloc (.cells (madeCells #[Value.pointer none] n) 113)) := by
  obtain ⟨i, hi, hz, hs, hb⟩ := info_parts info_tabp
  have := run_make (P := Try.prog) w 95 113 i _ Try.underlying95 hi hz .i64 .i64 n n (by omega) (Int.le_refl _) (by rw [hb]; omega) (by omega)
  simp only [Int.toNat_natCast, hs, Nat.mul_one] at this
  exact this
theorem Tabs.empty (w : World) (G : Nat) (x : Nat → Prop) (hG : G < w.heap.size) (hx : ∀ b, x b → b < w.heap.size) : Tabs w G 0 x (fun _ => []) (fun _ => 0) (fun _ _ => False) :=
  ⟨fun _ h => by omega, fun _ h => by omega, fun _ _ _ h => by omega, fun _ _ h => by omega, hG, hx⟩
/-- One table more. -/
theorem Tabs.add (h : Tabs w G j x (fun _ => []) p O) (hb : Below w.heap.size w w1) (ht : Tab w1 q (fun b => b < w.heap.size) []) {cs : Array Value} {t : TypeId} (hc : w1.heap[G]? = some (.cells cs t (0, 0))) (hj : j < cs.size) (X : World) (hX : X = w1.setCell ⟨G, j, none⟩ (.pointer (some ⟨q, 0, none⟩))) :
    (∃ p' O', Tabs X G (j + 1) x (fun _ => []) p' O') ∧ X.heap[G]? = some (.cells (cs.setIfInBounds j (.pointer (some ⟨q, 0, none⟩))) t (0, 0)) ∧ (∀ b, b ≠ G → X.heap[b]? = w1.heap[b]?) ∧ X.heap.size = w1.heap.size := by
  have hs : X.heap.size = w1.heap.size := by rw [hX]; simp
  have far : ∀ b, b ≠ G → X.heap[b]? = w1.heap[b]? := fun b hb => by rw [hX]; exact Below.heap_setCell w1 ⟨G, j, none⟩ _ b hb
  have hXG : X.heap[G]? = some (.cells (cs.setIfInBounds j (.pointer (some ⟨q, 0, none⟩))) t (0, 0)) := by rw [hX, heap_setCell_same w1 G j _ _ _ hc]
  have hsz := hb.size
  have tt : Turned (fun b => b = G) w1 X := ⟨by rw [hX]; rfl, by rw [hX]; rfl, by rw [hX]; rfl, by omega, fun i _ k => far i k⟩
  refine ⟨⟨fun k => if k = j then q else p k, fun k b => if k = j then New w w1 b else O k b, ⟨fun b hb2 => ?_, fun b hb2 => ?_, fun a b k ha hb2 h1 h2 => ?_, fun b k hb2 ho => ?_, by have := h.lt; omega, fun b k => by have := h.there b k; omega⟩⟩, hXG, far, hs⟩
  · by_cases e : b = j
    · rw [if_pos e, e]
      simp [World.cell?, hXG, hj]
    · rw [if_neg e]
      have h1 := (hb.cell (p := ⟨G, b, none⟩) h.lt).trans (h.row b (by omega))
      have hne : ¬ j = b := fun k => e k.symm
      simp [World.cell?, hc] at h1
      simp [World.cell?, hXG, hne]
      exact h1
  · by_cases e : b = j
    · rw [e]
      simp only [if_true]
      have h1 := ht.turned (w' := X) (by
        exact tt.mono' fun i e => by rw [e]; exact h.lt)
      exact h1.less fun k hk => by
        rcases Nat.lt_or_ge k w.heap.size with k1 | k1
        · exact k1
        · exact absurd ⟨k1, by omega⟩ hk.2
    · simp only [if_neg e]
      have h0 := ((h.tab b (by omega)).more hb)
      have h1 := h0.turned (w' := X) (tt.mono' fun i e2 => .inl ⟨by rw [e2]; exact h.lt, fun ho => (h.own b i (by omega) ho).2.1 (by rw [e2])⟩)
      exact h1.less fun k hk => by
        rcases Nat.lt_or_ge k w.heap.size with k1 | k1
        · exact .inl ⟨k1, hk.2⟩
        · exact .inr ⟨k1, by omega⟩
  · by_cases ea : a = j <;> by_cases eb : b = j
    · omega
    · simp only [if_pos ea, if_neg eb] at h1 h2
      have := (h.own b k (by omega) h2).1
      have := h1.1
      omega
    · simp only [if_neg ea, if_pos eb] at h1 h2
      have := (h.own a k (by omega) h1).1
      have := h2.1
      omega
    · simp only [if_neg ea, if_neg eb] at h1 h2
      exact h.apart a b k (by omega) (by omega) h1 h2
  · by_cases e : b = j
    · simp only [if_pos e] at ho
      refine ⟨by have := ho.2; omega, by have := h.lt; have := ho.1; omega, fun hx => by have := h.there k hx; have := ho.1; omega⟩
    · simp only [if_neg e] at ho
      obtain ⟨a1, a2, a3⟩ := h.own b k (by omega) ho
      exact ⟨by omega, a2, a3⟩
end
end Go.Proofs.Ytnadcdgpfopcaaa
