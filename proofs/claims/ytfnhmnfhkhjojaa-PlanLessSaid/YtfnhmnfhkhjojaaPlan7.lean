/- PlanLess: the law's walk (drawn regions written by plan7.py). -/
import Derived.Deep.RegionHeld3
import Derived.Test.YtfnhmnfhkhjojaaPlan5
namespace Go.Proofs.Ytfnhmnfhkhjojaa
open Go.RowKit

theorem frozen10 {w : World} {p : Nat} {cs : Array Value} {t : TypeId} (h : w.heap[p]? = some (.cells cs t (0, 0))) (j : Nat) : w.frozen? ⟨p, j, none⟩ = false := by
  simp [World.frozen?, h]
theorem keep5 {W w' : World} {q : Nat} {a b c d e : Value} {t : TypeId} (h : W.heap[q]? = some (.cells #[a, b, c, d, e] t (0, 0))) (hq : q < W.heap.size) (hb : Below W.heap.size W w') :
    w'.cell? ⟨q, 0, none⟩ = some a ∧ w'.cell? ⟨q, 1, none⟩ = some b ∧ w'.cell? ⟨q, 2, none⟩ = some c ∧ w'.cell? ⟨q, 3, none⟩ = some d ∧ w'.cell? ⟨q, 4, none⟩ = some e := cells5 ((hb.block q hq).trans h)
/-- Four configs beside the box, each its own block. -/
structure Four (w : World) (q0 q1 q2 q3 q4 : Nat) (c0 c1 c2 c3 c4 : Array Value) : Prop where
  b0 : w.heap[q0]? = some (.cells c0 23 (0, 0))
  b1 : w.heap[q1]? = some (.cells c1 23 (0, 0))
  b2 : w.heap[q2]? = some (.cells c2 23 (0, 0))
  b3 : w.heap[q3]? = some (.cells c3 23 (0, 0))
  b4 : w.heap[q4]? = some (.cells c4 23 (0, 0))
  ne : q0 < q1 ∧ q0 < q2 ∧ q0 < q3 ∧ q0 < q4 ∧ q1 ≠ q2 ∧ q1 ≠ q3 ∧ q1 ≠ q4 ∧ q2 ≠ q3 ∧ q2 ≠ q4 ∧ q3 ≠ q4
section
variable {w : World} {q0 q1 q2 q3 q4 : Nat} {c0 c1 c2 c3 c4 : Array Value}
theorem Four.set1 (h : Four w q0 q1 q2 q3 q4 c0 c1 c2 c3 c4) (i : Nat) (v : Value) : Four (w.setCell ⟨q1, i, none⟩ v) q0 q1 q2 q3 q4 c0 (c1.setIfInBounds i v) c2 c3 c4 := by
  have hn := h.ne
  exact ⟨(Below.heap_setCell w _ v _ (by show q0 ≠ q1; omega)).trans h.b0, heap_setCell_same w q1 i _ _ v h.b1, (Below.heap_setCell w _ v _ (by show q2 ≠ q1; omega)).trans h.b2, (Below.heap_setCell w _ v _ (by show q3 ≠ q1; omega)).trans h.b3, (Below.heap_setCell w _ v _ (by show q4 ≠ q1; omega)).trans h.b4, hn⟩
theorem Four.set2 (h : Four w q0 q1 q2 q3 q4 c0 c1 c2 c3 c4) (i : Nat) (v : Value) : Four (w.setCell ⟨q2, i, none⟩ v) q0 q1 q2 q3 q4 c0 c1 (c2.setIfInBounds i v) c3 c4 := by
  have hn := h.ne
  exact ⟨(Below.heap_setCell w _ v _ (by show q0 ≠ q2; omega)).trans h.b0, (Below.heap_setCell w _ v _ (by show q1 ≠ q2; omega)).trans h.b1, heap_setCell_same w q2 i _ _ v h.b2, (Below.heap_setCell w _ v _ (by show q3 ≠ q2; omega)).trans h.b3, (Below.heap_setCell w _ v _ (by show q4 ≠ q2; omega)).trans h.b4, hn⟩
theorem Four.set3 (h : Four w q0 q1 q2 q3 q4 c0 c1 c2 c3 c4) (i : Nat) (v : Value) : Four (w.setCell ⟨q3, i, none⟩ v) q0 q1 q2 q3 q4 c0 c1 c2 (c3.setIfInBounds i v) c4 := by
  have hn := h.ne
  exact ⟨(Below.heap_setCell w _ v _ (by show q0 ≠ q3; omega)).trans h.b0, (Below.heap_setCell w _ v _ (by show q1 ≠ q3; omega)).trans h.b1, (Below.heap_setCell w _ v _ (by show q2 ≠ q3; omega)).trans h.b2, heap_setCell_same w q3 i _ _ v h.b3, (Below.heap_setCell w _ v _ (by show q4 ≠ q3; omega)).trans h.b4, hn⟩
theorem Four.set4 (h : Four w q0 q1 q2 q3 q4 c0 c1 c2 c3 c4) (i : Nat) (v : Value) : Four (w.setCell ⟨q4, i, none⟩ v) q0 q1 q2 q3 q4 c0 c1 c2 c3 (c4.setIfInBounds i v) := by
  have hn := h.ne
  exact ⟨(Below.heap_setCell w _ v _ (by show q0 ≠ q4; omega)).trans h.b0, (Below.heap_setCell w _ v _ (by show q1 ≠ q4; omega)).trans h.b1, (Below.heap_setCell w _ v _ (by show q2 ≠ q4; omega)).trans h.b2, (Below.heap_setCell w _ v _ (by show q3 ≠ q4; omega)).trans h.b3, heap_setCell_same w q4 i _ _ v h.b4, hn⟩
end
theorem four_allocs (W : World) (c : Array Value) (t : TypeId) :
    ((((W.alloc (.cells c t)).alloc (.cells c t)).alloc (.cells c t)).alloc (.cells c t)).drew.heap[W.heap.size]? = some (.cells c t (0, 0)) ∧
    ((((W.alloc (.cells c t)).alloc (.cells c t)).alloc (.cells c t)).alloc (.cells c t)).drew.heap[W.heap.size + 1]? = some (.cells c t (0, 0)) ∧
    ((((W.alloc (.cells c t)).alloc (.cells c t)).alloc (.cells c t)).alloc (.cells c t)).drew.heap[W.heap.size + 1 + 1]? = some (.cells c t (0, 0)) ∧
    ((((W.alloc (.cells c t)).alloc (.cells c t)).alloc (.cells c t)).alloc (.cells c t)).drew.heap[W.heap.size + 1 + 1 + 1]? = some (.cells c t (0, 0)) := by
  have e1 : (W.alloc (.cells c t)).heap.size = W.heap.size + 1 := by simp
  have e2 : ((W.alloc (.cells c t)).alloc (.cells c t)).heap.size = W.heap.size + 1 + 1 := by simp
  have e3 : (((W.alloc (.cells c t)).alloc (.cells c t)).alloc (.cells c t)).heap.size = W.heap.size + 1 + 1 + 1 := by simp
  refine ⟨?_, ?_, ?_, ?_⟩
  · exact (Below.heap_alloc _ _ _ (by simp <;> omega)).trans ((Below.heap_alloc _ _ _ (by simp <;> omega)).trans ((Below.heap_alloc _ _ _ (by simp)).trans (heap_alloc_new W _)))
  · exact (Below.heap_alloc _ _ _ (by simp <;> omega)).trans ((Below.heap_alloc _ _ _ (by simp)).trans (e1 ▸ heap_alloc_new (W.alloc (.cells c t)) _))
  · exact (Below.heap_alloc _ _ _ (by simp)).trans (e2 ▸ heap_alloc_new ((W.alloc (.cells c t)).alloc (.cells c t)) _)
  · exact e3 ▸ heap_alloc_new (((W.alloc (.cells c t)).alloc (.cells c t)).alloc (.cells c t)) _
theorem fits_of {B P S D U bad : Int} (hM : MayP B P S D U) (hb : 0 ≤ bad) (h0 : 0 < B - bad - S - 1) (h1 : D + 8 ≤ (B - bad - S - 1) * P) : FitsP B P S D U bad := by
  have hS := hM.2.2.1
  refine ⟨hM, ⟨hb, by omega⟩, ?_⟩
  rw [needP_yes hM, show roomP B P S D U bad = if 0 < B - bad - S - 1 then (B - bad - S - 1) * P else 0 from if_pos ⟨hM, hb, by omega⟩, if_pos h0]
  exact h1
/-- One block more, one page more, one spare block less, one page less of data: what fitted fits. -/
theorem fits_more {B P S D U bad : Int} (b p s d : Int) (hb : B ≤ b) (hp : P ≤ p) (hs : s ≤ S) (hd : d ≤ D) (hM : MayP b p s d U) (h : FitsP B P S D U bad) : FitsP b p s d U bad := by
  obtain ⟨h0, _, h1⟩ := fits_room h
  have hP := h.1.2.1
  have h2 : (B - bad - S - 1) * P ≤ (b - bad - s - 1) * p := Int.mul_le_mul (by omega) hp (by omega) (by omega)
  exact fits_of hM h.2.1.1 (by omega) (by omega)
theorem room_less (B S P bad : Int) (hx : 0 < B - bad - S - 1) : (if 0 < B - (bad + 1) - S - 1 then (B - (bad + 1) - S - 1) * P else 0) = (B - bad - S - 1) * P - P := by
  have e : (B - (bad + 1) - S - 1) * P = (B - bad - S - 1) * P - P := by
    rw [show B - (bad + 1) - S - 1 = (B - bad - S - 1) - 1 by omega, Int.sub_mul, Int.one_mul]
  split
  · exact e
  · rw [show B - bad - S - 1 = 1 by omega, Int.one_mul]; omega
theorem elem_at {wr : World} {gx : Nat} {B P S D U bad : Int} (hx : wr.heap[gx]? = some (.cells #[.int .i64 (B + 1), .int .i64 P, .int .i64 S, .int .i64 D, .int .i64 U, .int .i64 B, .int .i64 (P + 1), .int .i64 S, .int .i64 D, .int .i64 U, .int .i64 B, .int .i64 P, .int .i64 (S - 1), .int .i64 D, .int .i64 U, .int .i64 B, .int .i64 P, .int .i64 S, .int .i64 (D - 1), .int .i64 U] 23 (0, 0))) (_hM : MayP B P S D U) (_hb : 0 ≤ bad) (j : Nat) (hj : j < 4) :
    ∃ b' p' s' d' : Int, (wr.cell? ⟨gx, j * 5, none⟩ = some (.int .i64 b') ∧ wr.cell? ⟨gx, j * 5 + 1, none⟩ = some (.int .i64 p') ∧ wr.cell? ⟨gx, j * 5 + 2, none⟩ = some (.int .i64 s') ∧ wr.cell? ⟨gx, j * 5 + 3, none⟩ = some (.int .i64 d') ∧ wr.cell? ⟨gx, j * 5 + 4, none⟩ = some (.int .i64 U)) ∧ (MayP b' p' s' d' U → FitsP B P S D U bad → FitsP b' p' s' d' U bad) := by
  match j, hj with
  | 0, _ => exact ⟨B + 1, P, S, D, by simp [World.cell?, hx], fits_more _ _ _ _ (by omega) (by omega) (by omega) (by omega)⟩
  | 1, _ => exact ⟨B, P + 1, S, D, by simp [World.cell?, hx], fits_more _ _ _ _ (by omega) (by omega) (by omega) (by omega)⟩
  | 2, _ => exact ⟨B, P, S - 1, D, by simp [World.cell?, hx], fits_more _ _ _ _ (by omega) (by omega) (by omega) (by omega)⟩
  | 3, _ => exact ⟨B, P, S, D - 1, by simp [World.cell?, hx], fits_more _ _ _ _ (by omega) (by omega) (by omega) (by omega)⟩
set_option maxRecDepth 100000 in
set_option maxHeartbeats 4000000 in
theorem less_any (B P S D U bad : Int) (w : World) (hbd : (Lit.int .i64 bad).wf = true) :
    Calls Try.prog 4 #[.agg #[.int .i64 B, .int .i64 P, .int .i64 S, .int .i64 D, .int .i64 U], .int .i64 bad] w (Holds w) := by
  have HB0 := Lib.hid ((Below.refl w.heap.size w).alloc (Nat.le_refl _) (.cells #[.int .i64 B, .int .i64 P, .int .i64 S, .int .i64 D, .int .i64 U] 23))
  have BX0 := Lib.hid (heap_alloc_new w (.cells #[.int .i64 B, .int .i64 P, .int .i64 S, .int .i64 D, .int .i64 U] 23))
  have HBD := Lib.hid hbd
  have hbr := wf_le hbd
  clear hbd
  by_cases hM : MayP B P S D U
  · have HM := Lib.hid hM
    have hB := hM.1
    have hP := hM.2.1
    have hS := hM.2.2.1
    have hD := hM.2.2.2.1
    clear hM
    by_cases hlo : 0 ≤ bad
    · by_cases hhi : bad ≤ 64
      · go_enter Try.func4, Try.ntmps4
        go_upto_region 3 with (go_at_call 9; refine (mayr_any _ _ _ _ _ _).mono ?_; rintro e w1 ⟨rfl, hb⟩; rw [decide_eq_true HM.out]; have BX := Lib.hid ((hb.block w.heap.size (by simp)).trans BX0.out); have HB := Lib.hid (HB0.out.trans (hb.mono (by simp))); clear hb)
        obtain ⟨W, rfl⟩ : ∃ W : World, W = w1 := ⟨_, rfl⟩
        have hWs : w.heap.size < W.heap.size := lt_size BX.out
        go_cut [5, 6, 7, 8] (fun v5 v6 v7 v8 wx => ∃ q1 q2 q3 q4, v5 = .pointer (some ⟨q1, 0, none⟩) ∧ v6 = .pointer (some ⟨q2, 0, none⟩) ∧ v7 = .pointer (some ⟨q3, 0, none⟩) ∧ v8 = .pointer (some ⟨q4, 0, none⟩) ∧ Four wx w.heap.size q1 q2 q3 q4 #[.int .i64 B, .int .i64 P, .int .i64 S, .int .i64 D, .int .i64 U] #[.int .i64 B, .int .i64 P, .int .i64 S, .int .i64 D, .int .i64 U] #[.int .i64 B, .int .i64 P, .int .i64 S, .int .i64 D, .int .i64 U] #[.int .i64 B, .int .i64 P, .int .i64 S, .int .i64 D, .int .i64 U] #[.int .i64 B, .int .i64 P, .int .i64 S, .int .i64 D, .int .i64 U] ∧ Below w.heap.size w wx)
        case first => as_aux_lemma =>
          --DONE{
          obtain ⟨A0, A1, A2, A3⟩ := four_allocs W #[.int .i64 B, .int .i64 P, .int .i64 S, .int .i64 D, .int .i64 U] 23
          have E0 := Lib.hid A0
          have E1 := Lib.hid A1
          have E2 := Lib.hid A2
          have E3 := Lib.hid A3
          obtain ⟨k0, k1, k2, k3, k4⟩ := cells5 BX.out
          clear A0 A1 A2 A3
          go_region_held3 (fun w' => w'.cell? ⟨w.heap.size, 0, none⟩ = some (.int .i64 B) ∧ w'.cell? ⟨w.heap.size, 1, none⟩ = some (.int .i64 P) ∧ w'.cell? ⟨w.heap.size, 2, none⟩ = some (.int .i64 S) ∧ w'.cell? ⟨w.heap.size, 3, none⟩ = some (.int .i64 D) ∧ w'.cell? ⟨w.heap.size, 4, none⟩ = some (.int .i64 U))
            ((refine keep5 BX.out hWs ?_; repeat (first | exact Below.refl _ _ | refine Below.drew ?_ | refine Below.alloc ?_ (by simp <;> omega) _ | refine Below.setCell ?_ (by simp <;> omega) _)))
            (first
              | fail)
          all_goals
            go_wp2_with fail
            go_meet
            refine ⟨_, _, _, _, rfl, rfl, rfl, rfl, ⟨?_, ?_, ?_, ?_, ?_, ?_⟩, ((((HB.out.alloc (by omega) _).alloc (by simp <;> omega) _).alloc (by simp <;> omega) _).alloc (by simp <;> omega) _).drew⟩
            · exact (((((Below.refl W.heap.size W).alloc (Nat.le_refl _) _).alloc (by simp) _).alloc (by simp <;> omega) _).alloc (by simp <;> omega) _).drew.block _ hWs |>.trans BX.out
            all_goals first | exact E0.out | exact E1.out | exact E2.out | exact E3.out | omega
          --}DONE
        case rest =>
          obtain ⟨q1, q2, q3, q4, rfl, rfl, rfl, rfl, hfo, hbc⟩ := hcut
          obtain ⟨W3, rfl⟩ : ∃ W3 : World, W3 = wc := ⟨_, rfl⟩
          clear BX HB hWs
          have HNe := Lib.hid hfo.ne
          have HF3 := Lib.hid hfo
          have HW3 := Lib.hid hbc
          clear hfo hbc
          obtain ⟨a0, _, _, _, _⟩ := cells5 HF3.out.b1
          have fz := frozen10 HF3.out.b1 0
          go_upto_region 5 with fail
          have HF4 : Hid (Four (W3.setCell ⟨q1, 0, none⟩ (.int .i64 (B + 1))) w.heap.size q1 q2 q3 q4 #[.int .i64 B, .int .i64 P, .int .i64 S, .int .i64 D, .int .i64 U] #[.int .i64 (B + 1), .int .i64 P, .int .i64 S, .int .i64 D, .int .i64 U] #[.int .i64 B, .int .i64 P, .int .i64 S, .int .i64 D, .int .i64 U] #[.int .i64 B, .int .i64 P, .int .i64 S, .int .i64 D, .int .i64 U] #[.int .i64 B, .int .i64 P, .int .i64 S, .int .i64 D, .int .i64 U]) := Lib.hid (HF3.out.set1 0 (.int .i64 (B + 1)))
          have HW4 := Lib.hid (HW3.out.setCell (p := ⟨q1, 0, none⟩) (by have := HNe.out; show w.heap.size ≤ q1; omega) (.int .i64 (B + 1)))
          generalize W3.setCell ⟨q1, 0, none⟩ (.int .i64 (B + 1)) = W4 at HF4 HW4 ⊢
          clear HF3 HW3 a0 fz
          obtain ⟨_, a1, _, _, _⟩ := cells5 HF4.out.b2
          have fz := frozen10 HF4.out.b2 1
          go_upto_region 6 with fail
          have HF5 : Hid (Four (W4.setCell ⟨q2, 1, none⟩ (.int .i64 (P + 1))) w.heap.size q1 q2 q3 q4 #[.int .i64 B, .int .i64 P, .int .i64 S, .int .i64 D, .int .i64 U] #[.int .i64 (B + 1), .int .i64 P, .int .i64 S, .int .i64 D, .int .i64 U] #[.int .i64 B, .int .i64 (P + 1), .int .i64 S, .int .i64 D, .int .i64 U] #[.int .i64 B, .int .i64 P, .int .i64 S, .int .i64 D, .int .i64 U] #[.int .i64 B, .int .i64 P, .int .i64 S, .int .i64 D, .int .i64 U]) := Lib.hid (HF4.out.set2 1 (.int .i64 (P + 1)))
          have HW5 := Lib.hid (HW4.out.setCell (p := ⟨q2, 1, none⟩) (by have := HNe.out; show w.heap.size ≤ q2; omega) (.int .i64 (P + 1)))
          generalize W4.setCell ⟨q2, 1, none⟩ (.int .i64 (P + 1)) = W5 at HF5 HW5 ⊢
          clear HF4 HW4 a1 fz
          obtain ⟨_, _, a2, _, _⟩ := cells5 HF5.out.b3
          have fz := frozen10 HF5.out.b3 2
          go_upto_region 7 with fail
          have HF6 : Hid (Four (W5.setCell ⟨q3, 2, none⟩ (.int .i64 (S - 1))) w.heap.size q1 q2 q3 q4 #[.int .i64 B, .int .i64 P, .int .i64 S, .int .i64 D, .int .i64 U] #[.int .i64 (B + 1), .int .i64 P, .int .i64 S, .int .i64 D, .int .i64 U] #[.int .i64 B, .int .i64 (P + 1), .int .i64 S, .int .i64 D, .int .i64 U] #[.int .i64 B, .int .i64 P, .int .i64 (S - 1), .int .i64 D, .int .i64 U] #[.int .i64 B, .int .i64 P, .int .i64 S, .int .i64 D, .int .i64 U]) := Lib.hid (HF5.out.set3 2 (.int .i64 (S - 1)))
          have HW6 := Lib.hid (HW5.out.setCell (p := ⟨q3, 2, none⟩) (by have := HNe.out; show w.heap.size ≤ q3; omega) (.int .i64 (S - 1)))
          generalize W5.setCell ⟨q3, 2, none⟩ (.int .i64 (S - 1)) = W6 at HF6 HW6 ⊢
          clear HF5 HW5 a2 fz
          obtain ⟨_, _, _, a3, _⟩ := cells5 HF6.out.b4
          have fz := frozen10 HF6.out.b4 3
          go_upto_region 8 with fail
          have HF7 : Hid (Four (W6.setCell ⟨q4, 3, none⟩ (.int .i64 (D - 1))) w.heap.size q1 q2 q3 q4 #[.int .i64 B, .int .i64 P, .int .i64 S, .int .i64 D, .int .i64 U] #[.int .i64 (B + 1), .int .i64 P, .int .i64 S, .int .i64 D, .int .i64 U] #[.int .i64 B, .int .i64 (P + 1), .int .i64 S, .int .i64 D, .int .i64 U] #[.int .i64 B, .int .i64 P, .int .i64 (S - 1), .int .i64 D, .int .i64 U] #[.int .i64 B, .int .i64 P, .int .i64 S, .int .i64 (D - 1), .int .i64 U]) := Lib.hid (HF6.out.set4 3 (.int .i64 (D - 1)))
          have HW7 := Lib.hid (HW6.out.setCell (p := ⟨q4, 3, none⟩) (by have := HNe.out; show w.heap.size ≤ q4; omega) (.int .i64 (D - 1)))
          generalize W6.setCell ⟨q4, 3, none⟩ (.int .i64 (D - 1)) = W7 at HF7 HW7 ⊢
          clear HF6 HW6 a3 fz
          obtain ⟨a0, a1, a2, a3, a4⟩ := cells5 HF7.out.b1
          obtain ⟨b0, b1, b2, b3, b4⟩ := cells5 HF7.out.b2
          obtain ⟨d0, d1, d2, d3, d4⟩ := cells5 HF7.out.b3
          obtain ⟨e0, e1, e2, e3, e4⟩ := cells5 HF7.out.b4
          go_wp2_with fail
          have HX8 := Lib.hid (heap_alloc_new W7 (.cells #[.int .i64 (B + 1), .int .i64 P, .int .i64 S, .int .i64 D, .int .i64 U, .int .i64 B, .int .i64 (P + 1), .int .i64 S, .int .i64 D, .int .i64 U, .int .i64 B, .int .i64 P, .int .i64 (S - 1), .int .i64 D, .int .i64 U, .int .i64 B, .int .i64 P, .int .i64 S, .int .i64 (D - 1), .int .i64 U] 23))
          have HB8 := Lib.hid ((Below.heap_alloc W7 (.cells #[.int .i64 (B + 1), .int .i64 P, .int .i64 S, .int .i64 D, .int .i64 U, .int .i64 B, .int .i64 (P + 1), .int .i64 S, .int .i64 D, .int .i64 U, .int .i64 B, .int .i64 P, .int .i64 (S - 1), .int .i64 D, .int .i64 U, .int .i64 B, .int .i64 P, .int .i64 S, .int .i64 (D - 1), .int .i64 U] 23) w.heap.size (lt_size HF7.out.b0)).trans HF7.out.b0)
          have HW8 := Lib.hid (HW7.out.alloc HW7.out.size (.cells #[.int .i64 (B + 1), .int .i64 P, .int .i64 S, .int .i64 D, .int .i64 U, .int .i64 B, .int .i64 (P + 1), .int .i64 S, .int .i64 D, .int .i64 U, .int .i64 B, .int .i64 P, .int .i64 (S - 1), .int .i64 D, .int .i64 U, .int .i64 B, .int .i64 P, .int .i64 S, .int .i64 (D - 1), .int .i64 U] 23))
          obtain ⟨gx, hgx⟩ : ∃ gx, gx = W7.heap.size := ⟨_, rfl⟩
          have hgw : w.heap.size ≤ gx := by rw [hgx]; exact HW7.out.size
          rw [← hgx] at HX8 ⊢
          generalize W7.alloc (.cells #[.int .i64 (B + 1), .int .i64 P, .int .i64 S, .int .i64 D, .int .i64 U, .int .i64 B, .int .i64 (P + 1), .int .i64 S, .int .i64 D, .int .i64 U, .int .i64 B, .int .i64 P, .int .i64 (S - 1), .int .i64 D, .int .i64 U, .int .i64 B, .int .i64 P, .int .i64 S, .int .i64 (D - 1), .int .i64 U] 23) = W8 at HX8 HB8 HW8 ⊢
          clear HF7 HW7 a0 a1 a2 a3 a4 b0 b1 b2 b3 b4 d0 d1 d2 d3 d4 e0 e1 e2 e3 e4 hgx
          go_loopw [59] (fun v59 wr => ∃ j : Nat, j ≤ 4 ∧ v59 = .int .i64 j ∧ wr.heap[gx]? = some (.cells #[.int .i64 (B + 1), .int .i64 P, .int .i64 S, .int .i64 D, .int .i64 U, .int .i64 B, .int .i64 (P + 1), .int .i64 S, .int .i64 D, .int .i64 U, .int .i64 B, .int .i64 P, .int .i64 (S - 1), .int .i64 D, .int .i64 U, .int .i64 B, .int .i64 P, .int .i64 S, .int .i64 (D - 1), .int .i64 U] 23 (0, 0)) ∧ wr.heap[w.heap.size]? = some (.cells #[.int .i64 B, .int .i64 P, .int .i64 S, .int .i64 D, .int .i64 U] 23 (0, 0)) ∧ Below w.heap.size w wr) (fun v59 _ => 4 - (intOf v59).toNat)
          case atStart => exact ⟨0, by omega, rfl, HX8.out, HB8.out, HW8.out⟩
          case round =>
            obtain ⟨j, hj, rfl, hx, hb, hw⟩ := hrel
            have HX := Lib.hid hx
            have HBX := Lib.hid hb
            have HW := Lib.hid hw
            clear hx hb hw HX8 HB8 HW8
            by_cases hj4 : j < 4
            · obtain ⟨b', p', s', d', hcs, hmono⟩ := elem_at HX.out HM.out hlo j hj4
              obtain ⟨l0, l1, l2, l3, l4⟩ := hcs
              have HMono := Lib.hid hmono
              have HBY := Lib.hid ((Below.heap_alloc wr (.cells #[.int .i64 b', .int .i64 p', .int .i64 s', .int .i64 d', .int .i64 U] 23) w.heap.size (lt_size HBX.out)).trans HBX.out)
              have HXY := Lib.hid ((Below.heap_alloc wr (.cells #[.int .i64 b', .int .i64 p', .int .i64 s', .int .i64 d', .int .i64 U] 23) gx (lt_size HX.out)).trans HX.out)
              have HNY := Lib.hid (heap_alloc_new wr (.cells #[.int .i64 b', .int .i64 p', .int .i64 s', .int .i64 d', .int .i64 U] 23))
              have HWY := Lib.hid (HW.out.alloc HW.out.size (.cells #[.int .i64 b', .int .i64 p', .int .i64 s', .int .i64 d', .int .i64 U] 23))
              clear hmono
              by_cases hM' : MayP b' p' s' d' U
              · have HM' := Lib.hid hM'
                clear hM'
                by_cases hF : FitsP B P S D U bad
                · have HF := Lib.hid hF
                  have HF' := Lib.hid (HMono.out HM'.out hF)
                  clear hF
                  go_wp2_with (first | (go_at_call 8; refine (mayp_any _ _ _ _ _ _).mono ?_; rintro e w1 ⟨rfl, h1⟩; rw [decide_eq_true HM'.out]; have hb1 := Lib.hid h1; clear h1 l0 l1 l2 l3 l4; obtain ⟨y0, y1, y2, y3, y4⟩ := cells5 ((hb1.out.block _ (lt_size HBY.out)).trans HBY.out)) | (go_at_call 14; (with_reducible refine (fitsp_any B P S D U bad w1 HBD.out).mono ?_); rintro e w2 ⟨rfl, h1⟩; rw [decide_eq_true HF.out]; have hb2 := Lib.hid (hb1.out.trans (h1.mono hb1.out.size)); clear h1 y0 y1 y2 y3 y4; obtain ⟨z0, z1, z2, z3, z4⟩ := cells5 ((hb2.out.block wr.heap.size (lt_size HNY.out)).trans HNY.out)) | (go_at_call 14; (with_reducible refine (fitsp_any b' p' s' d' U bad w2 HBD.out).mono ?_); rintro e w3 ⟨rfl, h1⟩; rw [decide_eq_true HF'.out]; have hb3 := Lib.hid (hb2.out.trans (h1.mono hb2.out.size)); clear h1 z0 z1 z2 z3 z4))
                  go_roundw
                  case rel => exact ⟨j + 1, by omega, by go_num, (hb3.out.block _ (lt_size HXY.out)).trans HXY.out, (hb3.out.block _ (lt_size HBY.out)).trans HBY.out, HWY.out.trans (hb3.out.mono HWY.out.size)⟩
                  case measure => simp [intOf]; omega
                · have HF := Lib.hid hF
                  clear hF
                  go_wp2_with (first | (go_at_call 8; refine (mayp_any _ _ _ _ _ _).mono ?_; rintro e w1 ⟨rfl, h1⟩; rw [decide_eq_true HM'.out]; have hb1 := Lib.hid h1; clear h1 l0 l1 l2 l3 l4; obtain ⟨y0, y1, y2, y3, y4⟩ := cells5 ((hb1.out.block _ (lt_size HBY.out)).trans HBY.out)) | (go_at_call 14; (with_reducible refine (fitsp_any B P S D U bad w1 HBD.out).mono ?_); rintro e w2 ⟨rfl, h1⟩; rw [decide_eq_false HF.out]; have hb2 := Lib.hid (hb1.out.trans (h1.mono hb1.out.size)); clear h1 y0 y1 y2 y3 y4; obtain ⟨z0, z1, z2, z3, z4⟩ := cells5 ((hb2.out.block wr.heap.size (lt_size HNY.out)).trans HNY.out)))
                  go_roundw
                  case rel => exact ⟨j + 1, by omega, by go_num, (hb2.out.block _ (lt_size HXY.out)).trans HXY.out, (hb2.out.block _ (lt_size HBY.out)).trans HBY.out, HWY.out.trans (hb2.out.mono HWY.out.size)⟩
                  case measure => simp [intOf]; omega
              · have HM' := Lib.hid hM'
                clear hM'
                go_wp2_with (first | (go_at_call 8; refine (mayp_any _ _ _ _ _ _).mono ?_; rintro e w1 ⟨rfl, h1⟩; rw [decide_eq_false HM'.out]; have hb1 := Lib.hid h1; clear h1 l0 l1 l2 l3 l4; obtain ⟨y0, y1, y2, y3, y4⟩ := cells5 ((hb1.out.block _ (lt_size HBY.out)).trans HBY.out)))
                go_roundw
                case rel => exact ⟨j + 1, by omega, by go_num, (hb1.out.block _ (lt_size HXY.out)).trans HXY.out, (hb1.out.block _ (lt_size HBY.out)).trans HBY.out, HWY.out.trans (hb1.out.mono HWY.out.size)⟩
                case measure => simp [intOf]; omega
            · obtain rfl : j = 4 := by omega
              clear hj4 hj
              have EN := Lib.hid (needP_yes HM.out)
              by_cases hx : 0 < B - bad - S - 1
              · have hp0 : 0 < (B - bad - S - 1) * P := Int.mul_pos hx (by omega)
                have hp1 : (B - bad - S - 1) * P ≤ 64 * 32 := Int.mul_le_mul (by omega) (by omega) (by omega) (by omega)
                have ER : Hid (roomP B P S D U bad = (B - bad - S - 1) * P) := Lib.hid ((if_pos ⟨HM.out, hlo, by omega⟩ : roomP B P S D U bad = if 0 < B - bad - S - 1 then (B - bad - S - 1) * P else 0).trans (if_pos hx))
                have ER1 : Hid (roomP B P S D U (bad + 1) = (B - bad - S - 1) * P - P) := Lib.hid ((if_pos ⟨HM.out, by omega, by omega⟩ : roomP B P S D U (bad + 1) = if 0 < B - (bad + 1) - S - 1 then (B - (bad + 1) - S - 1) * P else 0).trans (room_less _ _ _ _ hx))
                by_cases hF : FitsP B P S D U bad
                · have HF := Lib.hid hF
                  have hne := (fits_room hF).2.2
                  clear hF
                  obtain ⟨k0, k1, k2, k3, k4⟩ := cells5 HBX.out
                  go_upto_region 15 with (go_at_call 12; refine (roomp_any _ _ _ _ _ _ _ HBD.out).mono ?_; rintro e w2 ⟨rfl, h1⟩; rw [ER.out]; have BX := Lib.hid ((h1.block _ (lt_size HBX.out)).trans HBX.out); have HWW := Lib.hid (HW.out.trans (h1.mono HW.out.size)); clear h1 k0 k1 k2 k3 k4)
                  obtain ⟨W, rfl⟩ : ∃ W : World, W = w2 := ⟨_, rfl⟩
                  refine region_inv (fun j v _ => v = (match j with | 0 => .int .i64 ((B - bad - S - 1) * P) | 1 => .bool true | 2 => .bool true | 3 => .int .i64 bad | 4 => .pointer (some ⟨w.heap.size, 0, none⟩) | 5 => .int .i64 B | 6 => .bool true | 7 => .bool true | 8 => .bool true | 9 => .agg #[.int .i64 B, .int .i64 P, .int .i64 S, .int .i64 D, .int .i64 U] | 10 => .int .i64 bad | 11 => .int .i64 (bad + 1) | 12 => .int .i64 ((B - bad - S - 1) * P - P) | 13 => .int .i64 ((B - bad - S - 1) * P) | 14 => .pointer (some ⟨w.heap.size, 1, none⟩) | 15 => .int .i64 P | 16 => .int .i64 ((B - bad - S - 1) * P - P) | 17 => .bool false | 18 => .bool false | _ => undef)) (fun w' => Below W.heap.size W w') (fun _ _ => True) (by kernel_rfl) (by kernel_rfl) (by kernel_rfl) (fun _ _ _ _ h _ => h) (Below.refl _ _).drew ?_ ?_
                  · refine OpsOk.cons ?o0 (OpsOk.cons ?o1 (OpsOk.cons ?o2 (OpsOk.cons ?o3 (OpsOk.cons ?o4 (OpsOk.cons ?o5 (OpsOk.cons ?o6 (OpsOk.cons ?o7 (OpsOk.cons ?o8 (OpsOk.cons ?o9 (OpsOk.cons ?o10 (OpsOk.cons ?o11 (OpsOk.cons ?o12 (OpsOk.cons ?o13 (OpsOk.cons ?o14 (OpsOk.cons ?o15 (OpsOk.cons ?o16 (OpsOk.cons ?o17 (OpsOk.cons ?o18 OpsOk.nil))))))))))))))))))
                    case o0 =>
                      intro a w1 Kx hG need old hsz hK
                      have e0 : a.tmps[11]?.getD undef = .int .i64 ((B - bad - S - 1) * P) := by rw [← Array.getD_eq_getD_getElem?]; exact old 11 (by kernel_rfl)
                      refine op_value (v := .int .i64 ((B - bad - S - 1) * P)) (wanted_none rfl) ?_ (hK _ w1 rfl hG trivial)
                      simp [execOp, go_sem, e0]
                    case o1 =>
                      intro a w1 Kx hG need old hsz hK
                      have e0 : a.tmps[80]?.getD undef = .int .i64 ((B - bad - S - 1) * P) := by rw [← Array.getD_eq_getD_getElem?]; exact need 0 80 (by kernel_rfl) (by kernel_rfl)
                      refine op_value (v := .bool true) (wanted_none rfl) ?_ (hK _ w1 rfl hG trivial)
                      simp [execOp, go_sem, e0] <;> first | omega | (rw [i64w_id _ (by omega)] <;> omega)
                    case o2 =>
                      intro a w1 Kx hG need old hsz hK
                      have e0 : a.tmps[81]?.getD undef = .bool true := by rw [← Array.getD_eq_getD_getElem?]; exact need 1 81 (by kernel_rfl) (by kernel_rfl)
                      refine op_value (v := .bool true) (wanted_none rfl) ?_ (hK _ w1 rfl hG trivial)
                      simp [execOp, go_sem, e0]
                    case o3 =>
                      intro a w1 Kx hG need old hsz hK
                      have e0 : a.tmps[1]?.getD undef = .int .i64 bad := by rw [← Array.getD_eq_getD_getElem?]; exact old 1 (by kernel_rfl)
                      refine op_value (v := .int .i64 bad) (wanted_of (j := 2) rfl (need 2 82 (by kernel_rfl) (by kernel_rfl))) ?_ (hK _ w1 rfl hG trivial)
                      simp [execOp, go_sem, e0]
                    case o4 =>
                      intro a w1 Kx hG need old hsz hK
                      have e0 : a.tmps[2]?.getD undef = .pointer (some ⟨w.heap.size, 0, none⟩) := by rw [← Array.getD_eq_getD_getElem?]; exact old 2 (by kernel_rfl)
                      refine op_value (v := .pointer (some ⟨w.heap.size, 0, none⟩)) (wanted_of (j := 2) rfl (need 2 82 (by kernel_rfl) (by kernel_rfl))) ?_ (hK _ w1 rfl hG trivial)
                      simp [execOp, go_sem, e0]
                    case o5 =>
                      intro a w1 Kx hG need old hsz hK
                      have e0 : a.tmps[84]?.getD undef = .pointer (some ⟨w.heap.size, 0, none⟩) := by rw [← Array.getD_eq_getD_getElem?]; exact need 4 84 (by kernel_rfl) (by kernel_rfl)
                      have k0 := (cells5 ((hG.block w.heap.size (lt_size BX.out)).trans BX.out)).1
                      refine op_value (v := .int .i64 B) (wanted_of (j := 2) rfl (need 2 82 (by kernel_rfl) (by kernel_rfl))) ?_ (hK _ w1 rfl hG trivial)
                      simp [execOp, go_sem, e0, k0]
                    case o6 =>
                      intro a w1 Kx hG need old hsz hK
                      have e0 : a.tmps[83]?.getD undef = .int .i64 bad := by rw [← Array.getD_eq_getD_getElem?]; exact need 3 83 (by kernel_rfl) (by kernel_rfl)
                      have e1 : a.tmps[85]?.getD undef = .int .i64 B := by rw [← Array.getD_eq_getD_getElem?]; exact need 5 85 (by kernel_rfl) (by kernel_rfl)
                      refine op_value (v := .bool true) (wanted_of (j := 2) rfl (need 2 82 (by kernel_rfl) (by kernel_rfl))) ?_ (hK _ w1 rfl hG trivial)
                      simp [execOp, go_sem, e0, e1] <;> first | omega | (rw [i64w_id _ (by omega)] <;> omega)
                    case o7 =>
                      intro a w1 Kx hG need old hsz hK
                      have e0 : a.tmps[82]?.getD undef = .bool true := by rw [← Array.getD_eq_getD_getElem?]; exact need 2 82 (by kernel_rfl) (by kernel_rfl)
                      have e1 : a.tmps[86]?.getD undef = .bool true := by rw [← Array.getD_eq_getD_getElem?]; exact need 6 86 (by kernel_rfl) (by kernel_rfl)
                      refine op_value (v := .bool true) (wanted_none rfl) ?_ (hK _ w1 rfl hG trivial)
                      simp [execOp, go_sem, asBool, e0, e1]
                    case o8 =>
                      intro a w1 Kx hG need old hsz hK
                      have e0 : a.tmps[87]?.getD undef = .bool true := by rw [← Array.getD_eq_getD_getElem?]; exact need 7 87 (by kernel_rfl) (by kernel_rfl)
                      refine op_value (v := .bool true) (wanted_none rfl) ?_ (hK _ w1 rfl hG trivial)
                      simp [execOp, go_sem, e0]
                    case o9 =>
                      intro a w1 Kx hG need old hsz hK
                      have e0 : a.tmps[2]?.getD undef = .pointer (some ⟨w.heap.size, 0, none⟩) := by rw [← Array.getD_eq_getD_getElem?]; exact old 2 (by kernel_rfl)
                      obtain ⟨k0, k1, k2, k3, k4⟩ := cells5 ((hG.block w.heap.size (lt_size BX.out)).trans BX.out)
                      refine op_value (v := .agg #[.int .i64 B, .int .i64 P, .int .i64 S, .int .i64 D, .int .i64 U]) (wanted_of (j := 8) rfl (need 8 88 (by kernel_rfl) (by kernel_rfl))) ?_ (hK _ w1 rfl hG trivial)
                      simp [execOp, go_sem, e0, k0, k1, k2, k3, k4]
                    case o10 =>
                      intro a w1 Kx hG need old hsz hK
                      have e0 : a.tmps[1]?.getD undef = .int .i64 bad := by rw [← Array.getD_eq_getD_getElem?]; exact old 1 (by kernel_rfl)
                      refine op_value (v := .int .i64 bad) (wanted_of (j := 8) rfl (need 8 88 (by kernel_rfl) (by kernel_rfl))) ?_ (hK _ w1 rfl hG trivial)
                      simp [execOp, go_sem, e0]
                    case o11 =>
                      intro a w1 Kx hG need old hsz hK
                      have e0 : a.tmps[90]?.getD undef = .int .i64 bad := by rw [← Array.getD_eq_getD_getElem?]; exact need 10 90 (by kernel_rfl) (by kernel_rfl)
                      refine op_value (v := .int .i64 (bad + 1)) (wanted_of (j := 8) rfl (need 8 88 (by kernel_rfl) (by kernel_rfl))) ?_ (hK _ w1 rfl hG trivial)
                      simp [execOp, go_sem, e0] <;> first | omega | (rw [i64w_id _ (by omega)] <;> omega)
                    case o12 =>
                      intro a w1 Kx hG need old hsz hK
                      have e0 : a.tmps[89]?.getD undef = .agg #[.int .i64 B, .int .i64 P, .int .i64 S, .int .i64 D, .int .i64 U] := by rw [← Array.getD_eq_getD_getElem?]; exact need 9 89 (by kernel_rfl) (by kernel_rfl)
                      have e1 : a.tmps[91]?.getD undef = .int .i64 (bad + 1) := by rw [← Array.getD_eq_getD_getElem?]; exact need 11 91 (by kernel_rfl) (by kernel_rfl)
                      refine op_call (wanted_of (j := 8) rfl (need 8 88 (by kernel_rfl) (by kernel_rfl))) (f := 12) (args := #[.agg #[.int .i64 B, .int .i64 P, .int .i64 S, .int .i64 D, .int .i64 U], .int .i64 (bad + 1)]) ?run ((roomp_any B P S D U (bad + 1) w1 (wf_of (by omega))).mono ?post)
                      case run => simp [go_sem, e0, e1]
                      case post =>
                        rintro e w2 ⟨rfl, hb2⟩
                        rw [ER1.out]
                        exact ⟨_, rfl, hK _ w2 rfl (hG.trans (hb2.mono hG.size)) trivial⟩
                    case o13 =>
                      intro a w1 Kx hG need old hsz hK
                      have e0 : a.tmps[11]?.getD undef = .int .i64 ((B - bad - S - 1) * P) := by rw [← Array.getD_eq_getD_getElem?]; exact old 11 (by kernel_rfl)
                      refine op_value (v := .int .i64 ((B - bad - S - 1) * P)) (wanted_of (j := 8) rfl (need 8 88 (by kernel_rfl) (by kernel_rfl))) ?_ (hK _ w1 rfl hG trivial)
                      simp [execOp, go_sem, e0]
                    case o14 =>
                      intro a w1 Kx hG need old hsz hK
                      have e0 : a.tmps[2]?.getD undef = .pointer (some ⟨w.heap.size, 0, none⟩) := by rw [← Array.getD_eq_getD_getElem?]; exact old 2 (by kernel_rfl)
                      refine op_value (v := .pointer (some ⟨w.heap.size, 1, none⟩)) (wanted_of (j := 8) rfl (need 8 88 (by kernel_rfl) (by kernel_rfl))) ?_ (hK _ w1 rfl hG trivial)
                      simp [execOp, go_sem, e0]
                    case o15 =>
                      intro a w1 Kx hG need old hsz hK
                      have e0 : a.tmps[94]?.getD undef = .pointer (some ⟨w.heap.size, 1, none⟩) := by rw [← Array.getD_eq_getD_getElem?]; exact need 14 94 (by kernel_rfl) (by kernel_rfl)
                      have k0 := (cells5 ((hG.block w.heap.size (lt_size BX.out)).trans BX.out)).2.1
                      refine op_value (v := .int .i64 P) (wanted_of (j := 8) rfl (need 8 88 (by kernel_rfl) (by kernel_rfl))) ?_ (hK _ w1 rfl hG trivial)
                      simp [execOp, go_sem, e0, k0]
                    case o16 =>
                      intro a w1 Kx hG need old hsz hK
                      have e0 : a.tmps[93]?.getD undef = .int .i64 ((B - bad - S - 1) * P) := by rw [← Array.getD_eq_getD_getElem?]; exact need 13 93 (by kernel_rfl) (by kernel_rfl)
                      have e1 : a.tmps[95]?.getD undef = .int .i64 P := by rw [← Array.getD_eq_getD_getElem?]; exact need 15 95 (by kernel_rfl) (by kernel_rfl)
                      refine op_value (v := .int .i64 ((B - bad - S - 1) * P - P)) (wanted_of (j := 8) rfl (need 8 88 (by kernel_rfl) (by kernel_rfl))) ?_ (hK _ w1 rfl hG trivial)
                      simp [execOp, go_sem, e0, e1] <;> first | omega | (rw [i64w_id _ (by omega)] <;> omega)
                    case o17 =>
                      intro a w1 Kx hG need old hsz hK
                      have e0 : a.tmps[92]?.getD undef = .int .i64 ((B - bad - S - 1) * P - P) := by rw [← Array.getD_eq_getD_getElem?]; exact need 12 92 (by kernel_rfl) (by kernel_rfl)
                      have e1 : a.tmps[96]?.getD undef = .int .i64 ((B - bad - S - 1) * P - P) := by rw [← Array.getD_eq_getD_getElem?]; exact need 16 96 (by kernel_rfl) (by kernel_rfl)
                      refine op_value (v := .bool false) (wanted_of (j := 8) rfl (need 8 88 (by kernel_rfl) (by kernel_rfl))) ?_ (hK _ w1 rfl hG trivial)
                      simp [execOp, go_sem, e0, e1]
                    case o18 =>
                      intro a w1 Kx hG need old hsz hK
                      have e0 : a.tmps[88]?.getD undef = .bool true := by rw [← Array.getD_eq_getD_getElem?]; exact need 8 88 (by kernel_rfl) (by kernel_rfl)
                      have e1 : a.tmps[97]?.getD undef = .bool false := by rw [← Array.getD_eq_getD_getElem?]; exact need 17 97 (by kernel_rfl) (by kernel_rfl)
                      refine op_value (v := .bool false) (wanted_none rfl) ?_ (hK _ w1 rfl hG trivial)
                      simp [execOp, go_sem, asBool, e0, e1]
                  · intro a W2 hG hde hsz hφ hold
                    have s1 : a.tmps.getD 1 undef = .int .i64 bad := hold 1 (by kernel_rfl)
                    have s2 : a.tmps.getD 2 undef = .pointer (some ⟨w.heap.size, 0, none⟩) := hold 2 (by kernel_rfl)
                    have s98 : a.tmps.getD 98 undef = .bool false := hφ 18 98 (by kernel_rfl)
                    go_wp2_with fail
                    refine wp_cond_false (show a.eval (.tmp 98) = .bool false from s98) ?_
                    go_upto_region 17 with fail
                    clear hold hφ
                    have HB2 := Lib.hid (HWW.out.trans (hG.mono HWW.out.size))
                    have hWs2 : Hid (w.heap.size ≤ W2.heap.size) := HB2.out.size
                    replace BX := Lib.hid ((hG.block w.heap.size (lt_size BX.out)).trans BX.out)
                    clear hG
                    refine region_inv (fun j v _ => v = (match j with | 0 => .agg #[.int .i64 B, .int .i64 P, .int .i64 S, .int .i64 D, .int .i64 U] | 1 => .int .i64 (D + 8) | 2 => .pointer (some ⟨w.heap.size, 3, none⟩) | 3 => .int .i64 D | 4 => .bool true | 5 => .bool true | 6 => .agg #[.int .i64 B, .int .i64 P, .int .i64 S, .int .i64 D, .int .i64 U] | 7 => .int .i64 bad | 8 => .bool true | 9 => .bool false | 10 => .bool false | 11 => .agg #[.int .i64 B, .int .i64 P, .int .i64 S, .int .i64 D, .int .i64 U] | 12 => .int .i64 bad | 13 => .int .i64 ((B - bad - S - 1) * P) | 14 => .agg #[.int .i64 B, .int .i64 P, .int .i64 S, .int .i64 D, .int .i64 U] | 15 => .int .i64 (D + 8) | 16 => .bool true | 17 => .bool true | 18 => .bool true | 19 => .bool true | 20 => .bool true | 21 => .bool true | 22 => .bool true | _ => undef)) (fun w' => Below W2.heap.size W2 w') (fun _ _ => True) (by kernel_rfl) (by kernel_rfl) ?hsl (fun _ _ _ _ h _ => h) (Below.refl _ _).drew ?_ ?_
                    case hsl => (first | rw [hsz] | (show slotsOk _ tm.size = true; rw [hsz])); kernel_rfl
                    · refine OpsOk.cons ?o0 (OpsOk.cons ?o1 (OpsOk.cons ?o2 (OpsOk.cons ?o3 (OpsOk.cons ?o4 (OpsOk.cons ?o5 (OpsOk.cons ?o6 (OpsOk.cons ?o7 (OpsOk.cons ?o8 (OpsOk.cons ?o9 (OpsOk.cons ?o10 (OpsOk.cons ?o11 (OpsOk.cons ?o12 (OpsOk.cons ?o13 (OpsOk.cons ?o14 (OpsOk.cons ?o15 (OpsOk.cons ?o16 (OpsOk.cons ?o17 (OpsOk.cons ?o18 (OpsOk.cons ?o19 (OpsOk.cons ?o20 (OpsOk.cons ?o21 (OpsOk.cons ?o22 OpsOk.nil))))))))))))))))))))))
                      case o0 =>
                        intro a w1 Kx hG need old hsz hK
                        have e0 : a.tmps[2]?.getD undef = .pointer (some ⟨w.heap.size, 0, none⟩) := by rw [← Array.getD_eq_getD_getElem?]; exact (old 2 (by kernel_rfl)).trans s2
                        obtain ⟨k0, k1, k2, k3, k4⟩ := cells5 ((hG.block w.heap.size (lt_size BX.out)).trans BX.out)
                        refine op_value (v := .agg #[.int .i64 B, .int .i64 P, .int .i64 S, .int .i64 D, .int .i64 U]) (wanted_none rfl) ?_ (hK _ w1 rfl hG trivial)
                        simp [execOp, go_sem, e0, k0, k1, k2, k3, k4]
                      case o1 =>
                        intro a w1 Kx hG need old hsz hK
                        have e0 : a.tmps[99]?.getD undef = .agg #[.int .i64 B, .int .i64 P, .int .i64 S, .int .i64 D, .int .i64 U] := by rw [← Array.getD_eq_getD_getElem?]; exact need 0 99 (by kernel_rfl) (by kernel_rfl)
                        refine op_call (wanted_none rfl) (f := 10) (args := #[.agg #[.int .i64 B, .int .i64 P, .int .i64 S, .int .i64 D, .int .i64 U]]) ?run ((needp_any B P S D U w1).mono ?post)
                        case run => simp [go_sem, e0]
                        case post =>
                          rintro e w2 ⟨rfl, hb2⟩
                          rw [EN.out]
                          exact ⟨_, rfl, hK _ w2 rfl (hG.trans (hb2.mono hG.size)) trivial⟩
                      case o2 =>
                        intro a w1 Kx hG need old hsz hK
                        have e0 : a.tmps[2]?.getD undef = .pointer (some ⟨w.heap.size, 0, none⟩) := by rw [← Array.getD_eq_getD_getElem?]; exact (old 2 (by kernel_rfl)).trans s2
                        refine op_value (v := .pointer (some ⟨w.heap.size, 3, none⟩)) (wanted_none rfl) ?_ (hK _ w1 rfl hG trivial)
                        simp [execOp, go_sem, e0]
                      case o3 =>
                        intro a w1 Kx hG need old hsz hK
                        have e0 : a.tmps[101]?.getD undef = .pointer (some ⟨w.heap.size, 3, none⟩) := by rw [← Array.getD_eq_getD_getElem?]; exact need 2 101 (by kernel_rfl) (by kernel_rfl)
                        have k0 := (cells5 ((hG.block w.heap.size (lt_size BX.out)).trans BX.out)).2.2.2.1
                        refine op_value (v := .int .i64 D) (wanted_none rfl) ?_ (hK _ w1 rfl hG trivial)
                        simp [execOp, go_sem, e0, k0]
                      case o4 =>
                        intro a w1 Kx hG need old hsz hK
                        have e0 : a.tmps[100]?.getD undef = .int .i64 (D + 8) := by rw [← Array.getD_eq_getD_getElem?]; exact need 1 100 (by kernel_rfl) (by kernel_rfl)
                        have e1 : a.tmps[102]?.getD undef = .int .i64 D := by rw [← Array.getD_eq_getD_getElem?]; exact need 3 102 (by kernel_rfl) (by kernel_rfl)
                        refine op_value (v := .bool true) (wanted_none rfl) ?_ (hK _ w1 rfl hG trivial)
                        simp [execOp, go_sem, e0, e1] <;> first | omega | (rw [i64w_id _ (by omega)] <;> omega)
                      case o5 =>
                        intro a w1 Kx hG need old hsz hK
                        have e0 : a.tmps[103]?.getD undef = .bool true := by rw [← Array.getD_eq_getD_getElem?]; exact need 4 103 (by kernel_rfl) (by kernel_rfl)
                        refine op_value (v := .bool true) (wanted_none rfl) ?_ (hK _ w1 rfl hG trivial)
                        simp [execOp, go_sem, e0]
                      case o6 =>
                        intro a w1 Kx hG need old hsz hK
                        have e0 : a.tmps[2]?.getD undef = .pointer (some ⟨w.heap.size, 0, none⟩) := by rw [← Array.getD_eq_getD_getElem?]; exact (old 2 (by kernel_rfl)).trans s2
                        obtain ⟨k0, k1, k2, k3, k4⟩ := cells5 ((hG.block w.heap.size (lt_size BX.out)).trans BX.out)
                        refine op_value (v := .agg #[.int .i64 B, .int .i64 P, .int .i64 S, .int .i64 D, .int .i64 U]) (wanted_of (j := 5) rfl (need 5 104 (by kernel_rfl) (by kernel_rfl))) ?_ (hK _ w1 rfl hG trivial)
                        simp [execOp, go_sem, e0, k0, k1, k2, k3, k4]
                      case o7 =>
                        intro a w1 Kx hG need old hsz hK
                        have e0 : a.tmps[1]?.getD undef = .int .i64 bad := by rw [← Array.getD_eq_getD_getElem?]; exact (old 1 (by kernel_rfl)).trans s1
                        refine op_value (v := .int .i64 bad) (wanted_of (j := 5) rfl (need 5 104 (by kernel_rfl) (by kernel_rfl))) ?_ (hK _ w1 rfl hG trivial)
                        simp [execOp, go_sem, e0]
                      case o8 =>
                        intro a w1 Kx hG need old hsz hK
                        have e0 : a.tmps[105]?.getD undef = .agg #[.int .i64 B, .int .i64 P, .int .i64 S, .int .i64 D, .int .i64 U] := by rw [← Array.getD_eq_getD_getElem?]; exact need 6 105 (by kernel_rfl) (by kernel_rfl)
                        have e1 : a.tmps[106]?.getD undef = .int .i64 bad := by rw [← Array.getD_eq_getD_getElem?]; exact need 7 106 (by kernel_rfl) (by kernel_rfl)
                        refine op_call (wanted_of (j := 5) rfl (need 5 104 (by kernel_rfl) (by kernel_rfl))) (f := 14) (args := #[.agg #[.int .i64 B, .int .i64 P, .int .i64 S, .int .i64 D, .int .i64 U], .int .i64 bad]) ?run ((fitsp_any B P S D U bad w1 HBD.out).mono ?post)
                        case run => simp [go_sem, e0, e1]
                        case post =>
                          rintro e w2 ⟨rfl, hb2⟩
                          rw [decide_eq_true HF.out]
                          exact ⟨_, rfl, hK _ w2 rfl (hG.trans (hb2.mono hG.size)) trivial⟩
                      case o9 =>
                        intro a w1 Kx hG need old hsz hK
                        have e0 : a.tmps[107]?.getD undef = .bool true := by rw [← Array.getD_eq_getD_getElem?]; exact need 8 107 (by kernel_rfl) (by kernel_rfl)
                        refine op_value (v := .bool false) (wanted_of (j := 5) rfl (need 5 104 (by kernel_rfl) (by kernel_rfl))) ?_ (hK _ w1 rfl hG trivial)
                        simp [execOp, go_sem, e0]
                      case o10 =>
                        intro a w1 Kx hG need old hsz hK
                        have e0 : a.tmps[108]?.getD undef = .bool false := by rw [← Array.getD_eq_getD_getElem?]; exact need 9 108 (by kernel_rfl) (by kernel_rfl)
                        refine op_value (v := .bool false) (wanted_of (j := 5) rfl (need 5 104 (by kernel_rfl) (by kernel_rfl))) ?_ (hK _ w1 rfl hG trivial)
                        simp [execOp, go_sem, e0]
                      case o11 =>
                        intro a w1 Kx hG need old hsz hK
                        have e0 : a.tmps[2]?.getD undef = .pointer (some ⟨w.heap.size, 0, none⟩) := by rw [← Array.getD_eq_getD_getElem?]; exact (old 2 (by kernel_rfl)).trans s2
                        obtain ⟨k0, k1, k2, k3, k4⟩ := cells5 ((hG.block w.heap.size (lt_size BX.out)).trans BX.out)
                        refine op_value (v := .agg #[.int .i64 B, .int .i64 P, .int .i64 S, .int .i64 D, .int .i64 U]) (wanted_of (j := 10) rfl (need 10 109 (by kernel_rfl) (by kernel_rfl))) ?_ (hK _ w1 rfl hG trivial)
                        simp [execOp, go_sem, e0, k0, k1, k2, k3, k4]
                      case o12 =>
                        intro a w1 Kx hG need old hsz hK
                        have e0 : a.tmps[1]?.getD undef = .int .i64 bad := by rw [← Array.getD_eq_getD_getElem?]; exact (old 1 (by kernel_rfl)).trans s1
                        refine op_value (v := .int .i64 bad) (wanted_of (j := 10) rfl (need 10 109 (by kernel_rfl) (by kernel_rfl))) ?_ (hK _ w1 rfl hG trivial)
                        simp [execOp, go_sem, e0]
                      case o13 =>
                        intro a w1 Kx hG need old hsz hK
                        have e0 : a.tmps[110]?.getD undef = .agg #[.int .i64 B, .int .i64 P, .int .i64 S, .int .i64 D, .int .i64 U] := by rw [← Array.getD_eq_getD_getElem?]; exact need 11 110 (by kernel_rfl) (by kernel_rfl)
                        have e1 : a.tmps[111]?.getD undef = .int .i64 bad := by rw [← Array.getD_eq_getD_getElem?]; exact need 12 111 (by kernel_rfl) (by kernel_rfl)
                        refine op_call (wanted_of (j := 10) rfl (need 10 109 (by kernel_rfl) (by kernel_rfl))) (f := 12) (args := #[.agg #[.int .i64 B, .int .i64 P, .int .i64 S, .int .i64 D, .int .i64 U], .int .i64 bad]) ?run ((roomp_any B P S D U bad w1 HBD.out).mono ?post)
                        case run => simp [go_sem, e0, e1]
                        case post =>
                          rintro e w2 ⟨rfl, hb2⟩
                          rw [ER.out]
                          exact ⟨_, rfl, hK _ w2 rfl (hG.trans (hb2.mono hG.size)) trivial⟩
                      case o14 =>
                        intro a w1 Kx hG need old hsz hK
                        have e0 : a.tmps[2]?.getD undef = .pointer (some ⟨w.heap.size, 0, none⟩) := by rw [← Array.getD_eq_getD_getElem?]; exact (old 2 (by kernel_rfl)).trans s2
                        obtain ⟨k0, k1, k2, k3, k4⟩ := cells5 ((hG.block w.heap.size (lt_size BX.out)).trans BX.out)
                        refine op_value (v := .agg #[.int .i64 B, .int .i64 P, .int .i64 S, .int .i64 D, .int .i64 U]) (wanted_of (j := 10) rfl (need 10 109 (by kernel_rfl) (by kernel_rfl))) ?_ (hK _ w1 rfl hG trivial)
                        simp [execOp, go_sem, e0, k0, k1, k2, k3, k4]
                      case o15 =>
                        intro a w1 Kx hG need old hsz hK
                        have e0 : a.tmps[113]?.getD undef = .agg #[.int .i64 B, .int .i64 P, .int .i64 S, .int .i64 D, .int .i64 U] := by rw [← Array.getD_eq_getD_getElem?]; exact need 14 113 (by kernel_rfl) (by kernel_rfl)
                        refine op_call (wanted_of (j := 10) rfl (need 10 109 (by kernel_rfl) (by kernel_rfl))) (f := 10) (args := #[.agg #[.int .i64 B, .int .i64 P, .int .i64 S, .int .i64 D, .int .i64 U]]) ?run ((needp_any B P S D U w1).mono ?post)
                        case run => simp [go_sem, e0]
                        case post =>
                          rintro e w2 ⟨rfl, hb2⟩
                          rw [EN.out]
                          exact ⟨_, rfl, hK _ w2 rfl (hG.trans (hb2.mono hG.size)) trivial⟩
                      case o16 =>
                        intro a w1 Kx hG need old hsz hK
                        have e0 : a.tmps[112]?.getD undef = .int .i64 ((B - bad - S - 1) * P) := by rw [← Array.getD_eq_getD_getElem?]; exact need 13 112 (by kernel_rfl) (by kernel_rfl)
                        have e1 : a.tmps[114]?.getD undef = .int .i64 (D + 8) := by rw [← Array.getD_eq_getD_getElem?]; exact need 15 114 (by kernel_rfl) (by kernel_rfl)
                        refine op_value (v := .bool true) (wanted_of (j := 10) rfl (need 10 109 (by kernel_rfl) (by kernel_rfl))) ?_ (hK _ w1 rfl hG trivial)
                        simp [execOp, go_sem, e0, e1] <;> first | omega | (rw [i64w_id _ (by omega)] <;> omega)
                      case o17 =>
                        intro a w1 Kx hG need old hsz hK
                        have e0 : a.tmps[109]?.getD undef = .bool false := by rw [← Array.getD_eq_getD_getElem?]; exact need 10 109 (by kernel_rfl) (by kernel_rfl)
                        have e1 : a.tmps[115]?.getD undef = .bool true := by rw [← Array.getD_eq_getD_getElem?]; exact need 16 115 (by kernel_rfl) (by kernel_rfl)
                        refine op_value (v := .bool true) (wanted_of (j := 5) rfl (need 5 104 (by kernel_rfl) (by kernel_rfl))) ?_ (hK _ w1 rfl hG trivial)
                        simp [execOp, go_sem, asBool, e0, e1]
                      case o18 =>
                        intro a w1 Kx hG need old hsz hK
                        have e0 : a.tmps[104]?.getD undef = .bool true := by rw [← Array.getD_eq_getD_getElem?]; exact need 5 104 (by kernel_rfl) (by kernel_rfl)
                        have e1 : a.tmps[116]?.getD undef = .bool true := by rw [← Array.getD_eq_getD_getElem?]; exact need 17 116 (by kernel_rfl) (by kernel_rfl)
                        refine op_value (v := .bool true) (wanted_none rfl) ?_ (hK _ w1 rfl hG trivial)
                        simp [execOp, go_sem, asBool, e0, e1]
                      case o19 =>
                        intro a w1 Kx hG need old hsz hK
                        have e0 : a.tmps[117]?.getD undef = .bool true := by rw [← Array.getD_eq_getD_getElem?]; exact need 18 117 (by kernel_rfl) (by kernel_rfl)
                        refine op_value (v := .bool true) (wanted_none rfl) ?_ (hK _ w1 rfl hG trivial)
                        simp [execOp, go_sem, e0]
                      case o20 =>
                        intro a w1 Kx hG need old hsz hK
                        refine op_call (wanted_of (j := 19) rfl (need 19 118 (by kernel_rfl) (by kernel_rfl))) (f := 18) (args := #[]) ?run ((awake_any w1).mono ?post)
                        case run => simp [go_sem]
                        case post =>
                          rintro e w2 ⟨rfl, hb2⟩
                          exact ⟨_, rfl, hK _ w2 rfl (hG.trans (hb2.mono hG.size)) trivial⟩
                      case o21 =>
                        intro a w1 Kx hG need old hsz hK
                        have e0 : a.tmps[118]?.getD undef = .bool true := by rw [← Array.getD_eq_getD_getElem?]; exact need 19 118 (by kernel_rfl) (by kernel_rfl)
                        have e1 : a.tmps[119]?.getD undef = .bool true := by rw [← Array.getD_eq_getD_getElem?]; exact need 20 119 (by kernel_rfl) (by kernel_rfl)
                        refine op_value (v := .bool true) (wanted_none rfl) ?_ (hK _ w1 rfl hG trivial)
                        simp [execOp, go_sem, asBool, e0, e1]
                      case o22 =>
                        intro a w1 Kx hG need old hsz hK
                        have e0 : a.tmps[120]?.getD undef = .bool true := by rw [← Array.getD_eq_getD_getElem?]; exact need 21 120 (by kernel_rfl) (by kernel_rfl)
                        refine op_value (v := .bool true) (wanted_none rfl) ?_ (hK _ w1 rfl hG trivial)
                        simp [execOp, go_sem, e0]
                    · intro a' w' hG hde' hsz' hφ hold
                      have hr : a'.tmps.getD 4 undef = .bool true := hφ 22 4 (by kernel_rfl)
                      go_wp2
                      refine bodyPost_ret (v := .bool true) ?_ (hde'.trans hde) ⟨rfl, HB2.out.trans (hG.mono hWs2.out)⟩
                      rw [results_tmp (t := 4) rfl, hr]
                · have HF := Lib.hid hF
                  clear hF
                  obtain ⟨k0, k1, k2, k3, k4⟩ := cells5 HBX.out
                  go_upto_region 15 with (go_at_call 12; refine (roomp_any _ _ _ _ _ _ _ HBD.out).mono ?_; rintro e w2 ⟨rfl, h1⟩; rw [ER.out]; have BX := Lib.hid ((h1.block _ (lt_size HBX.out)).trans HBX.out); have HWW := Lib.hid (HW.out.trans (h1.mono HW.out.size)); clear h1 k0 k1 k2 k3 k4)
                  obtain ⟨W, rfl⟩ : ∃ W : World, W = w2 := ⟨_, rfl⟩
                  refine region_inv (fun j v _ => v = (match j with | 0 => .int .i64 ((B - bad - S - 1) * P) | 1 => .bool true | 2 => .bool true | 3 => .int .i64 bad | 4 => .pointer (some ⟨w.heap.size, 0, none⟩) | 5 => .int .i64 B | 6 => .bool true | 7 => .bool true | 8 => .bool true | 9 => .agg #[.int .i64 B, .int .i64 P, .int .i64 S, .int .i64 D, .int .i64 U] | 10 => .int .i64 bad | 11 => .int .i64 (bad + 1) | 12 => .int .i64 ((B - bad - S - 1) * P - P) | 13 => .int .i64 ((B - bad - S - 1) * P) | 14 => .pointer (some ⟨w.heap.size, 1, none⟩) | 15 => .int .i64 P | 16 => .int .i64 ((B - bad - S - 1) * P - P) | 17 => .bool false | 18 => .bool false | _ => undef)) (fun w' => Below W.heap.size W w') (fun _ _ => True) (by kernel_rfl) (by kernel_rfl) (by kernel_rfl) (fun _ _ _ _ h _ => h) (Below.refl _ _).drew ?_ ?_
                  · refine OpsOk.cons ?o0 (OpsOk.cons ?o1 (OpsOk.cons ?o2 (OpsOk.cons ?o3 (OpsOk.cons ?o4 (OpsOk.cons ?o5 (OpsOk.cons ?o6 (OpsOk.cons ?o7 (OpsOk.cons ?o8 (OpsOk.cons ?o9 (OpsOk.cons ?o10 (OpsOk.cons ?o11 (OpsOk.cons ?o12 (OpsOk.cons ?o13 (OpsOk.cons ?o14 (OpsOk.cons ?o15 (OpsOk.cons ?o16 (OpsOk.cons ?o17 (OpsOk.cons ?o18 OpsOk.nil))))))))))))))))))
                    case o0 =>
                      intro a w1 Kx hG need old hsz hK
                      have e0 : a.tmps[11]?.getD undef = .int .i64 ((B - bad - S - 1) * P) := by rw [← Array.getD_eq_getD_getElem?]; exact old 11 (by kernel_rfl)
                      refine op_value (v := .int .i64 ((B - bad - S - 1) * P)) (wanted_none rfl) ?_ (hK _ w1 rfl hG trivial)
                      simp [execOp, go_sem, e0]
                    case o1 =>
                      intro a w1 Kx hG need old hsz hK
                      have e0 : a.tmps[80]?.getD undef = .int .i64 ((B - bad - S - 1) * P) := by rw [← Array.getD_eq_getD_getElem?]; exact need 0 80 (by kernel_rfl) (by kernel_rfl)
                      refine op_value (v := .bool true) (wanted_none rfl) ?_ (hK _ w1 rfl hG trivial)
                      simp [execOp, go_sem, e0] <;> first | omega | (rw [i64w_id _ (by omega)] <;> omega)
                    case o2 =>
                      intro a w1 Kx hG need old hsz hK
                      have e0 : a.tmps[81]?.getD undef = .bool true := by rw [← Array.getD_eq_getD_getElem?]; exact need 1 81 (by kernel_rfl) (by kernel_rfl)
                      refine op_value (v := .bool true) (wanted_none rfl) ?_ (hK _ w1 rfl hG trivial)
                      simp [execOp, go_sem, e0]
                    case o3 =>
                      intro a w1 Kx hG need old hsz hK
                      have e0 : a.tmps[1]?.getD undef = .int .i64 bad := by rw [← Array.getD_eq_getD_getElem?]; exact old 1 (by kernel_rfl)
                      refine op_value (v := .int .i64 bad) (wanted_of (j := 2) rfl (need 2 82 (by kernel_rfl) (by kernel_rfl))) ?_ (hK _ w1 rfl hG trivial)
                      simp [execOp, go_sem, e0]
                    case o4 =>
                      intro a w1 Kx hG need old hsz hK
                      have e0 : a.tmps[2]?.getD undef = .pointer (some ⟨w.heap.size, 0, none⟩) := by rw [← Array.getD_eq_getD_getElem?]; exact old 2 (by kernel_rfl)
                      refine op_value (v := .pointer (some ⟨w.heap.size, 0, none⟩)) (wanted_of (j := 2) rfl (need 2 82 (by kernel_rfl) (by kernel_rfl))) ?_ (hK _ w1 rfl hG trivial)
                      simp [execOp, go_sem, e0]
                    case o5 =>
                      intro a w1 Kx hG need old hsz hK
                      have e0 : a.tmps[84]?.getD undef = .pointer (some ⟨w.heap.size, 0, none⟩) := by rw [← Array.getD_eq_getD_getElem?]; exact need 4 84 (by kernel_rfl) (by kernel_rfl)
                      have k0 := (cells5 ((hG.block w.heap.size (lt_size BX.out)).trans BX.out)).1
                      refine op_value (v := .int .i64 B) (wanted_of (j := 2) rfl (need 2 82 (by kernel_rfl) (by kernel_rfl))) ?_ (hK _ w1 rfl hG trivial)
                      simp [execOp, go_sem, e0, k0]
                    case o6 =>
                      intro a w1 Kx hG need old hsz hK
                      have e0 : a.tmps[83]?.getD undef = .int .i64 bad := by rw [← Array.getD_eq_getD_getElem?]; exact need 3 83 (by kernel_rfl) (by kernel_rfl)
                      have e1 : a.tmps[85]?.getD undef = .int .i64 B := by rw [← Array.getD_eq_getD_getElem?]; exact need 5 85 (by kernel_rfl) (by kernel_rfl)
                      refine op_value (v := .bool true) (wanted_of (j := 2) rfl (need 2 82 (by kernel_rfl) (by kernel_rfl))) ?_ (hK _ w1 rfl hG trivial)
                      simp [execOp, go_sem, e0, e1] <;> first | omega | (rw [i64w_id _ (by omega)] <;> omega)
                    case o7 =>
                      intro a w1 Kx hG need old hsz hK
                      have e0 : a.tmps[82]?.getD undef = .bool true := by rw [← Array.getD_eq_getD_getElem?]; exact need 2 82 (by kernel_rfl) (by kernel_rfl)
                      have e1 : a.tmps[86]?.getD undef = .bool true := by rw [← Array.getD_eq_getD_getElem?]; exact need 6 86 (by kernel_rfl) (by kernel_rfl)
                      refine op_value (v := .bool true) (wanted_none rfl) ?_ (hK _ w1 rfl hG trivial)
                      simp [execOp, go_sem, asBool, e0, e1]
                    case o8 =>
                      intro a w1 Kx hG need old hsz hK
                      have e0 : a.tmps[87]?.getD undef = .bool true := by rw [← Array.getD_eq_getD_getElem?]; exact need 7 87 (by kernel_rfl) (by kernel_rfl)
                      refine op_value (v := .bool true) (wanted_none rfl) ?_ (hK _ w1 rfl hG trivial)
                      simp [execOp, go_sem, e0]
                    case o9 =>
                      intro a w1 Kx hG need old hsz hK
                      have e0 : a.tmps[2]?.getD undef = .pointer (some ⟨w.heap.size, 0, none⟩) := by rw [← Array.getD_eq_getD_getElem?]; exact old 2 (by kernel_rfl)
                      obtain ⟨k0, k1, k2, k3, k4⟩ := cells5 ((hG.block w.heap.size (lt_size BX.out)).trans BX.out)
                      refine op_value (v := .agg #[.int .i64 B, .int .i64 P, .int .i64 S, .int .i64 D, .int .i64 U]) (wanted_of (j := 8) rfl (need 8 88 (by kernel_rfl) (by kernel_rfl))) ?_ (hK _ w1 rfl hG trivial)
                      simp [execOp, go_sem, e0, k0, k1, k2, k3, k4]
                    case o10 =>
                      intro a w1 Kx hG need old hsz hK
                      have e0 : a.tmps[1]?.getD undef = .int .i64 bad := by rw [← Array.getD_eq_getD_getElem?]; exact old 1 (by kernel_rfl)
                      refine op_value (v := .int .i64 bad) (wanted_of (j := 8) rfl (need 8 88 (by kernel_rfl) (by kernel_rfl))) ?_ (hK _ w1 rfl hG trivial)
                      simp [execOp, go_sem, e0]
                    case o11 =>
                      intro a w1 Kx hG need old hsz hK
                      have e0 : a.tmps[90]?.getD undef = .int .i64 bad := by rw [← Array.getD_eq_getD_getElem?]; exact need 10 90 (by kernel_rfl) (by kernel_rfl)
                      refine op_value (v := .int .i64 (bad + 1)) (wanted_of (j := 8) rfl (need 8 88 (by kernel_rfl) (by kernel_rfl))) ?_ (hK _ w1 rfl hG trivial)
                      simp [execOp, go_sem, e0] <;> first | omega | (rw [i64w_id _ (by omega)] <;> omega)
                    case o12 =>
                      intro a w1 Kx hG need old hsz hK
                      have e0 : a.tmps[89]?.getD undef = .agg #[.int .i64 B, .int .i64 P, .int .i64 S, .int .i64 D, .int .i64 U] := by rw [← Array.getD_eq_getD_getElem?]; exact need 9 89 (by kernel_rfl) (by kernel_rfl)
                      have e1 : a.tmps[91]?.getD undef = .int .i64 (bad + 1) := by rw [← Array.getD_eq_getD_getElem?]; exact need 11 91 (by kernel_rfl) (by kernel_rfl)
                      refine op_call (wanted_of (j := 8) rfl (need 8 88 (by kernel_rfl) (by kernel_rfl))) (f := 12) (args := #[.agg #[.int .i64 B, .int .i64 P, .int .i64 S, .int .i64 D, .int .i64 U], .int .i64 (bad + 1)]) ?run ((roomp_any B P S D U (bad + 1) w1 (wf_of (by omega))).mono ?post)
                      case run => simp [go_sem, e0, e1]
                      case post =>
                        rintro e w2 ⟨rfl, hb2⟩
                        rw [ER1.out]
                        exact ⟨_, rfl, hK _ w2 rfl (hG.trans (hb2.mono hG.size)) trivial⟩
                    case o13 =>
                      intro a w1 Kx hG need old hsz hK
                      have e0 : a.tmps[11]?.getD undef = .int .i64 ((B - bad - S - 1) * P) := by rw [← Array.getD_eq_getD_getElem?]; exact old 11 (by kernel_rfl)
                      refine op_value (v := .int .i64 ((B - bad - S - 1) * P)) (wanted_of (j := 8) rfl (need 8 88 (by kernel_rfl) (by kernel_rfl))) ?_ (hK _ w1 rfl hG trivial)
                      simp [execOp, go_sem, e0]
                    case o14 =>
                      intro a w1 Kx hG need old hsz hK
                      have e0 : a.tmps[2]?.getD undef = .pointer (some ⟨w.heap.size, 0, none⟩) := by rw [← Array.getD_eq_getD_getElem?]; exact old 2 (by kernel_rfl)
                      refine op_value (v := .pointer (some ⟨w.heap.size, 1, none⟩)) (wanted_of (j := 8) rfl (need 8 88 (by kernel_rfl) (by kernel_rfl))) ?_ (hK _ w1 rfl hG trivial)
                      simp [execOp, go_sem, e0]
                    case o15 =>
                      intro a w1 Kx hG need old hsz hK
                      have e0 : a.tmps[94]?.getD undef = .pointer (some ⟨w.heap.size, 1, none⟩) := by rw [← Array.getD_eq_getD_getElem?]; exact need 14 94 (by kernel_rfl) (by kernel_rfl)
                      have k0 := (cells5 ((hG.block w.heap.size (lt_size BX.out)).trans BX.out)).2.1
                      refine op_value (v := .int .i64 P) (wanted_of (j := 8) rfl (need 8 88 (by kernel_rfl) (by kernel_rfl))) ?_ (hK _ w1 rfl hG trivial)
                      simp [execOp, go_sem, e0, k0]
                    case o16 =>
                      intro a w1 Kx hG need old hsz hK
                      have e0 : a.tmps[93]?.getD undef = .int .i64 ((B - bad - S - 1) * P) := by rw [← Array.getD_eq_getD_getElem?]; exact need 13 93 (by kernel_rfl) (by kernel_rfl)
                      have e1 : a.tmps[95]?.getD undef = .int .i64 P := by rw [← Array.getD_eq_getD_getElem?]; exact need 15 95 (by kernel_rfl) (by kernel_rfl)
                      refine op_value (v := .int .i64 ((B - bad - S - 1) * P - P)) (wanted_of (j := 8) rfl (need 8 88 (by kernel_rfl) (by kernel_rfl))) ?_ (hK _ w1 rfl hG trivial)
                      simp [execOp, go_sem, e0, e1] <;> first | omega | (rw [i64w_id _ (by omega)] <;> omega)
                    case o17 =>
                      intro a w1 Kx hG need old hsz hK
                      have e0 : a.tmps[92]?.getD undef = .int .i64 ((B - bad - S - 1) * P - P) := by rw [← Array.getD_eq_getD_getElem?]; exact need 12 92 (by kernel_rfl) (by kernel_rfl)
                      have e1 : a.tmps[96]?.getD undef = .int .i64 ((B - bad - S - 1) * P - P) := by rw [← Array.getD_eq_getD_getElem?]; exact need 16 96 (by kernel_rfl) (by kernel_rfl)
                      refine op_value (v := .bool false) (wanted_of (j := 8) rfl (need 8 88 (by kernel_rfl) (by kernel_rfl))) ?_ (hK _ w1 rfl hG trivial)
                      simp [execOp, go_sem, e0, e1]
                    case o18 =>
                      intro a w1 Kx hG need old hsz hK
                      have e0 : a.tmps[88]?.getD undef = .bool true := by rw [← Array.getD_eq_getD_getElem?]; exact need 8 88 (by kernel_rfl) (by kernel_rfl)
                      have e1 : a.tmps[97]?.getD undef = .bool false := by rw [← Array.getD_eq_getD_getElem?]; exact need 17 97 (by kernel_rfl) (by kernel_rfl)
                      refine op_value (v := .bool false) (wanted_none rfl) ?_ (hK _ w1 rfl hG trivial)
                      simp [execOp, go_sem, asBool, e0, e1]
                  · intro a W2 hG hde hsz hφ hold
                    have s1 : a.tmps.getD 1 undef = .int .i64 bad := hold 1 (by kernel_rfl)
                    have s2 : a.tmps.getD 2 undef = .pointer (some ⟨w.heap.size, 0, none⟩) := hold 2 (by kernel_rfl)
                    have s98 : a.tmps.getD 98 undef = .bool false := hφ 18 98 (by kernel_rfl)
                    go_wp2_with fail
                    refine wp_cond_false (show a.eval (.tmp 98) = .bool false from s98) ?_
                    go_upto_region 17 with fail
                    clear hold hφ
                    have HB2 := Lib.hid (HWW.out.trans (hG.mono HWW.out.size))
                    have hWs2 : Hid (w.heap.size ≤ W2.heap.size) := HB2.out.size
                    replace BX := Lib.hid ((hG.block w.heap.size (lt_size BX.out)).trans BX.out)
                    clear hG
                    refine region_inv (fun j v _ => v = (match j with | 0 => .agg #[.int .i64 B, .int .i64 P, .int .i64 S, .int .i64 D, .int .i64 U] | 1 => .int .i64 (D + 8) | 2 => .pointer (some ⟨w.heap.size, 3, none⟩) | 3 => .int .i64 D | 4 => .bool true | 5 => .bool true | 6 => .agg #[.int .i64 B, .int .i64 P, .int .i64 S, .int .i64 D, .int .i64 U] | 7 => .int .i64 bad | 8 => .bool false | 9 => .bool true | 10 => .bool true | 11 => undef | 12 => undef | 13 => undef | 14 => undef | 15 => undef | 16 => undef | 17 => .bool true | 18 => .bool true | 19 => .bool true | 20 => .bool true | 21 => .bool true | 22 => .bool true | _ => undef)) (fun w' => Below W2.heap.size W2 w') (fun _ _ => True) (by kernel_rfl) (by kernel_rfl) ?hsl (fun _ _ _ _ h _ => h) (Below.refl _ _).drew ?_ ?_
                    case hsl => (first | rw [hsz] | (show slotsOk _ tm.size = true; rw [hsz])); kernel_rfl
                    · refine OpsOk.cons ?o0 (OpsOk.cons ?o1 (OpsOk.cons ?o2 (OpsOk.cons ?o3 (OpsOk.cons ?o4 (OpsOk.cons ?o5 (OpsOk.cons ?o6 (OpsOk.cons ?o7 (OpsOk.cons ?o8 (OpsOk.cons ?o9 (OpsOk.cons ?o10 (OpsOk.cons ?o11 (OpsOk.cons ?o12 (OpsOk.cons ?o13 (OpsOk.cons ?o14 (OpsOk.cons ?o15 (OpsOk.cons ?o16 (OpsOk.cons ?o17 (OpsOk.cons ?o18 (OpsOk.cons ?o19 (OpsOk.cons ?o20 (OpsOk.cons ?o21 (OpsOk.cons ?o22 OpsOk.nil))))))))))))))))))))))
                      case o0 =>
                        intro a w1 Kx hG need old hsz hK
                        have e0 : a.tmps[2]?.getD undef = .pointer (some ⟨w.heap.size, 0, none⟩) := by rw [← Array.getD_eq_getD_getElem?]; exact (old 2 (by kernel_rfl)).trans s2
                        obtain ⟨k0, k1, k2, k3, k4⟩ := cells5 ((hG.block w.heap.size (lt_size BX.out)).trans BX.out)
                        refine op_value (v := .agg #[.int .i64 B, .int .i64 P, .int .i64 S, .int .i64 D, .int .i64 U]) (wanted_none rfl) ?_ (hK _ w1 rfl hG trivial)
                        simp [execOp, go_sem, e0, k0, k1, k2, k3, k4]
                      case o1 =>
                        intro a w1 Kx hG need old hsz hK
                        have e0 : a.tmps[99]?.getD undef = .agg #[.int .i64 B, .int .i64 P, .int .i64 S, .int .i64 D, .int .i64 U] := by rw [← Array.getD_eq_getD_getElem?]; exact need 0 99 (by kernel_rfl) (by kernel_rfl)
                        refine op_call (wanted_none rfl) (f := 10) (args := #[.agg #[.int .i64 B, .int .i64 P, .int .i64 S, .int .i64 D, .int .i64 U]]) ?run ((needp_any B P S D U w1).mono ?post)
                        case run => simp [go_sem, e0]
                        case post =>
                          rintro e w2 ⟨rfl, hb2⟩
                          rw [EN.out]
                          exact ⟨_, rfl, hK _ w2 rfl (hG.trans (hb2.mono hG.size)) trivial⟩
                      case o2 =>
                        intro a w1 Kx hG need old hsz hK
                        have e0 : a.tmps[2]?.getD undef = .pointer (some ⟨w.heap.size, 0, none⟩) := by rw [← Array.getD_eq_getD_getElem?]; exact (old 2 (by kernel_rfl)).trans s2
                        refine op_value (v := .pointer (some ⟨w.heap.size, 3, none⟩)) (wanted_none rfl) ?_ (hK _ w1 rfl hG trivial)
                        simp [execOp, go_sem, e0]
                      case o3 =>
                        intro a w1 Kx hG need old hsz hK
                        have e0 : a.tmps[101]?.getD undef = .pointer (some ⟨w.heap.size, 3, none⟩) := by rw [← Array.getD_eq_getD_getElem?]; exact need 2 101 (by kernel_rfl) (by kernel_rfl)
                        have k0 := (cells5 ((hG.block w.heap.size (lt_size BX.out)).trans BX.out)).2.2.2.1
                        refine op_value (v := .int .i64 D) (wanted_none rfl) ?_ (hK _ w1 rfl hG trivial)
                        simp [execOp, go_sem, e0, k0]
                      case o4 =>
                        intro a w1 Kx hG need old hsz hK
                        have e0 : a.tmps[100]?.getD undef = .int .i64 (D + 8) := by rw [← Array.getD_eq_getD_getElem?]; exact need 1 100 (by kernel_rfl) (by kernel_rfl)
                        have e1 : a.tmps[102]?.getD undef = .int .i64 D := by rw [← Array.getD_eq_getD_getElem?]; exact need 3 102 (by kernel_rfl) (by kernel_rfl)
                        refine op_value (v := .bool true) (wanted_none rfl) ?_ (hK _ w1 rfl hG trivial)
                        simp [execOp, go_sem, e0, e1] <;> first | omega | (rw [i64w_id _ (by omega)] <;> omega)
                      case o5 =>
                        intro a w1 Kx hG need old hsz hK
                        have e0 : a.tmps[103]?.getD undef = .bool true := by rw [← Array.getD_eq_getD_getElem?]; exact need 4 103 (by kernel_rfl) (by kernel_rfl)
                        refine op_value (v := .bool true) (wanted_none rfl) ?_ (hK _ w1 rfl hG trivial)
                        simp [execOp, go_sem, e0]
                      case o6 =>
                        intro a w1 Kx hG need old hsz hK
                        have e0 : a.tmps[2]?.getD undef = .pointer (some ⟨w.heap.size, 0, none⟩) := by rw [← Array.getD_eq_getD_getElem?]; exact (old 2 (by kernel_rfl)).trans s2
                        obtain ⟨k0, k1, k2, k3, k4⟩ := cells5 ((hG.block w.heap.size (lt_size BX.out)).trans BX.out)
                        refine op_value (v := .agg #[.int .i64 B, .int .i64 P, .int .i64 S, .int .i64 D, .int .i64 U]) (wanted_of (j := 5) rfl (need 5 104 (by kernel_rfl) (by kernel_rfl))) ?_ (hK _ w1 rfl hG trivial)
                        simp [execOp, go_sem, e0, k0, k1, k2, k3, k4]
                      case o7 =>
                        intro a w1 Kx hG need old hsz hK
                        have e0 : a.tmps[1]?.getD undef = .int .i64 bad := by rw [← Array.getD_eq_getD_getElem?]; exact (old 1 (by kernel_rfl)).trans s1
                        refine op_value (v := .int .i64 bad) (wanted_of (j := 5) rfl (need 5 104 (by kernel_rfl) (by kernel_rfl))) ?_ (hK _ w1 rfl hG trivial)
                        simp [execOp, go_sem, e0]
                      case o8 =>
                        intro a w1 Kx hG need old hsz hK
                        have e0 : a.tmps[105]?.getD undef = .agg #[.int .i64 B, .int .i64 P, .int .i64 S, .int .i64 D, .int .i64 U] := by rw [← Array.getD_eq_getD_getElem?]; exact need 6 105 (by kernel_rfl) (by kernel_rfl)
                        have e1 : a.tmps[106]?.getD undef = .int .i64 bad := by rw [← Array.getD_eq_getD_getElem?]; exact need 7 106 (by kernel_rfl) (by kernel_rfl)
                        refine op_call (wanted_of (j := 5) rfl (need 5 104 (by kernel_rfl) (by kernel_rfl))) (f := 14) (args := #[.agg #[.int .i64 B, .int .i64 P, .int .i64 S, .int .i64 D, .int .i64 U], .int .i64 bad]) ?run ((fitsp_any B P S D U bad w1 HBD.out).mono ?post)
                        case run => simp [go_sem, e0, e1]
                        case post =>
                          rintro e w2 ⟨rfl, hb2⟩
                          rw [decide_eq_false HF.out]
                          exact ⟨_, rfl, hK _ w2 rfl (hG.trans (hb2.mono hG.size)) trivial⟩
                      case o9 =>
                        intro a w1 Kx hG need old hsz hK
                        have e0 : a.tmps[107]?.getD undef = .bool false := by rw [← Array.getD_eq_getD_getElem?]; exact need 8 107 (by kernel_rfl) (by kernel_rfl)
                        refine op_value (v := .bool true) (wanted_of (j := 5) rfl (need 5 104 (by kernel_rfl) (by kernel_rfl))) ?_ (hK _ w1 rfl hG trivial)
                        simp [execOp, go_sem, e0]
                      case o10 =>
                        intro a w1 Kx hG need old hsz hK
                        have e0 : a.tmps[108]?.getD undef = .bool true := by rw [← Array.getD_eq_getD_getElem?]; exact need 9 108 (by kernel_rfl) (by kernel_rfl)
                        refine op_value (v := .bool true) (wanted_of (j := 5) rfl (need 5 104 (by kernel_rfl) (by kernel_rfl))) ?_ (hK _ w1 rfl hG trivial)
                        simp [execOp, go_sem, e0]
                      case o11 =>
                        intro a w1 Kx hG need old hsz hK
                        exact skip_op (j := 10) rfl (need 10 109 (by kernel_rfl) (by kernel_rfl)) (by decide) (hK _ w1 rfl hG trivial)
                      case o12 =>
                        intro a w1 Kx hG need old hsz hK
                        exact skip_op (j := 10) rfl (need 10 109 (by kernel_rfl) (by kernel_rfl)) (by decide) (hK _ w1 rfl hG trivial)
                      case o13 =>
                        intro a w1 Kx hG need old hsz hK
                        exact skip_op (j := 10) rfl (need 10 109 (by kernel_rfl) (by kernel_rfl)) (by decide) (hK _ w1 rfl hG trivial)
                      case o14 =>
                        intro a w1 Kx hG need old hsz hK
                        exact skip_op (j := 10) rfl (need 10 109 (by kernel_rfl) (by kernel_rfl)) (by decide) (hK _ w1 rfl hG trivial)
                      case o15 =>
                        intro a w1 Kx hG need old hsz hK
                        exact skip_op (j := 10) rfl (need 10 109 (by kernel_rfl) (by kernel_rfl)) (by decide) (hK _ w1 rfl hG trivial)
                      case o16 =>
                        intro a w1 Kx hG need old hsz hK
                        exact skip_op (j := 10) rfl (need 10 109 (by kernel_rfl) (by kernel_rfl)) (by decide) (hK _ w1 rfl hG trivial)
                      case o17 =>
                        intro a w1 Kx hG need old hsz hK
                        have e0 : a.tmps[109]?.getD undef = .bool true := by rw [← Array.getD_eq_getD_getElem?]; exact need 10 109 (by kernel_rfl) (by kernel_rfl)
                        refine op_value (v := .bool true) (wanted_of (j := 5) rfl (need 5 104 (by kernel_rfl) (by kernel_rfl))) ?_ (hK _ w1 rfl hG trivial)
                        simp [execOp, go_sem, asBool, e0]
                      case o18 =>
                        intro a w1 Kx hG need old hsz hK
                        have e0 : a.tmps[104]?.getD undef = .bool true := by rw [← Array.getD_eq_getD_getElem?]; exact need 5 104 (by kernel_rfl) (by kernel_rfl)
                        have e1 : a.tmps[116]?.getD undef = .bool true := by rw [← Array.getD_eq_getD_getElem?]; exact need 17 116 (by kernel_rfl) (by kernel_rfl)
                        refine op_value (v := .bool true) (wanted_none rfl) ?_ (hK _ w1 rfl hG trivial)
                        simp [execOp, go_sem, asBool, e0, e1]
                      case o19 =>
                        intro a w1 Kx hG need old hsz hK
                        have e0 : a.tmps[117]?.getD undef = .bool true := by rw [← Array.getD_eq_getD_getElem?]; exact need 18 117 (by kernel_rfl) (by kernel_rfl)
                        refine op_value (v := .bool true) (wanted_none rfl) ?_ (hK _ w1 rfl hG trivial)
                        simp [execOp, go_sem, e0]
                      case o20 =>
                        intro a w1 Kx hG need old hsz hK
                        refine op_call (wanted_of (j := 19) rfl (need 19 118 (by kernel_rfl) (by kernel_rfl))) (f := 18) (args := #[]) ?run ((awake_any w1).mono ?post)
                        case run => simp [go_sem]
                        case post =>
                          rintro e w2 ⟨rfl, hb2⟩
                          exact ⟨_, rfl, hK _ w2 rfl (hG.trans (hb2.mono hG.size)) trivial⟩
                      case o21 =>
                        intro a w1 Kx hG need old hsz hK
                        have e0 : a.tmps[118]?.getD undef = .bool true := by rw [← Array.getD_eq_getD_getElem?]; exact need 19 118 (by kernel_rfl) (by kernel_rfl)
                        have e1 : a.tmps[119]?.getD undef = .bool true := by rw [← Array.getD_eq_getD_getElem?]; exact need 20 119 (by kernel_rfl) (by kernel_rfl)
                        refine op_value (v := .bool true) (wanted_none rfl) ?_ (hK _ w1 rfl hG trivial)
                        simp [execOp, go_sem, asBool, e0, e1]
                      case o22 =>
                        intro a w1 Kx hG need old hsz hK
                        have e0 : a.tmps[120]?.getD undef = .bool true := by rw [← Array.getD_eq_getD_getElem?]; exact need 21 120 (by kernel_rfl) (by kernel_rfl)
                        refine op_value (v := .bool true) (wanted_none rfl) ?_ (hK _ w1 rfl hG trivial)
                        simp [execOp, go_sem, e0]
                    · intro a' w' hG hde' hsz' hφ hold
                      have hr : a'.tmps.getD 4 undef = .bool true := hφ 22 4 (by kernel_rfl)
                      go_wp2
                      refine bodyPost_ret (v := .bool true) ?_ (hde'.trans hde) ⟨rfl, HB2.out.trans (hG.mono hWs2.out)⟩
                      rw [results_tmp (t := 4) rfl, hr]
              · have ER : Hid (roomP B P S D U bad = 0) := Lib.hid (by
                  unfold roomP
                  split
                  · first | exact if_neg hx | rfl
                  · rfl)
                have HF := Lib.hid (show ¬ FitsP B P S D U bad from fun h => hx (fits_room h).1)
                obtain ⟨k0, k1, k2, k3, k4⟩ := cells5 HBX.out
                go_upto_region 15 with (go_at_call 12; refine (roomp_any _ _ _ _ _ _ _ HBD.out).mono ?_; rintro e w2 ⟨rfl, h1⟩; rw [ER.out]; have BX := Lib.hid ((h1.block _ (lt_size HBX.out)).trans HBX.out); have HWW := Lib.hid (HW.out.trans (h1.mono HW.out.size)); clear h1 k0 k1 k2 k3 k4)
                obtain ⟨W, rfl⟩ : ∃ W : World, W = w2 := ⟨_, rfl⟩
                refine region_inv (fun j v _ => v = (match j with | 0 => .int .i64 0 | 1 => .bool false | 2 => .bool false | 3 => undef | 4 => undef | 5 => undef | 6 => undef | 7 => .bool false | 8 => .bool false | 9 => undef | 10 => undef | 11 => undef | 12 => undef | 13 => undef | 14 => undef | 15 => undef | 16 => undef | 17 => undef | 18 => .bool false | _ => undef)) (fun w' => Below W.heap.size W w') (fun _ _ => True) (by kernel_rfl) (by kernel_rfl) (by kernel_rfl) (fun _ _ _ _ h _ => h) (Below.refl _ _).drew ?_ ?_
                · refine OpsOk.cons ?o0 (OpsOk.cons ?o1 (OpsOk.cons ?o2 (OpsOk.cons ?o3 (OpsOk.cons ?o4 (OpsOk.cons ?o5 (OpsOk.cons ?o6 (OpsOk.cons ?o7 (OpsOk.cons ?o8 (OpsOk.cons ?o9 (OpsOk.cons ?o10 (OpsOk.cons ?o11 (OpsOk.cons ?o12 (OpsOk.cons ?o13 (OpsOk.cons ?o14 (OpsOk.cons ?o15 (OpsOk.cons ?o16 (OpsOk.cons ?o17 (OpsOk.cons ?o18 OpsOk.nil))))))))))))))))))
                  case o0 =>
                    intro a w1 Kx hG need old hsz hK
                    have e0 : a.tmps[11]?.getD undef = .int .i64 0 := by rw [← Array.getD_eq_getD_getElem?]; exact old 11 (by kernel_rfl)
                    refine op_value (v := .int .i64 0) (wanted_none rfl) ?_ (hK _ w1 rfl hG trivial)
                    simp [execOp, go_sem, e0]
                  case o1 =>
                    intro a w1 Kx hG need old hsz hK
                    have e0 : a.tmps[80]?.getD undef = .int .i64 0 := by rw [← Array.getD_eq_getD_getElem?]; exact need 0 80 (by kernel_rfl) (by kernel_rfl)
                    refine op_value (v := .bool false) (wanted_none rfl) ?_ (hK _ w1 rfl hG trivial)
                    simp [execOp, go_sem, e0]
                  case o2 =>
                    intro a w1 Kx hG need old hsz hK
                    have e0 : a.tmps[81]?.getD undef = .bool false := by rw [← Array.getD_eq_getD_getElem?]; exact need 1 81 (by kernel_rfl) (by kernel_rfl)
                    refine op_value (v := .bool false) (wanted_none rfl) ?_ (hK _ w1 rfl hG trivial)
                    simp [execOp, go_sem, e0]
                  case o3 =>
                    intro a w1 Kx hG need old hsz hK
                    exact skip_op (j := 2) rfl (need 2 82 (by kernel_rfl) (by kernel_rfl)) (by decide) (hK _ w1 rfl hG trivial)
                  case o4 =>
                    intro a w1 Kx hG need old hsz hK
                    exact skip_op (j := 2) rfl (need 2 82 (by kernel_rfl) (by kernel_rfl)) (by decide) (hK _ w1 rfl hG trivial)
                  case o5 =>
                    intro a w1 Kx hG need old hsz hK
                    exact skip_op (j := 2) rfl (need 2 82 (by kernel_rfl) (by kernel_rfl)) (by decide) (hK _ w1 rfl hG trivial)
                  case o6 =>
                    intro a w1 Kx hG need old hsz hK
                    exact skip_op (j := 2) rfl (need 2 82 (by kernel_rfl) (by kernel_rfl)) (by decide) (hK _ w1 rfl hG trivial)
                  case o7 =>
                    intro a w1 Kx hG need old hsz hK
                    have e0 : a.tmps[82]?.getD undef = .bool false := by rw [← Array.getD_eq_getD_getElem?]; exact need 2 82 (by kernel_rfl) (by kernel_rfl)
                    refine op_value (v := .bool false) (wanted_none rfl) ?_ (hK _ w1 rfl hG trivial)
                    simp [execOp, go_sem, asBool, e0]
                  case o8 =>
                    intro a w1 Kx hG need old hsz hK
                    have e0 : a.tmps[87]?.getD undef = .bool false := by rw [← Array.getD_eq_getD_getElem?]; exact need 7 87 (by kernel_rfl) (by kernel_rfl)
                    refine op_value (v := .bool false) (wanted_none rfl) ?_ (hK _ w1 rfl hG trivial)
                    simp [execOp, go_sem, e0]
                  case o9 =>
                    intro a w1 Kx hG need old hsz hK
                    exact skip_op (j := 8) rfl (need 8 88 (by kernel_rfl) (by kernel_rfl)) (by decide) (hK _ w1 rfl hG trivial)
                  case o10 =>
                    intro a w1 Kx hG need old hsz hK
                    exact skip_op (j := 8) rfl (need 8 88 (by kernel_rfl) (by kernel_rfl)) (by decide) (hK _ w1 rfl hG trivial)
                  case o11 =>
                    intro a w1 Kx hG need old hsz hK
                    exact skip_op (j := 8) rfl (need 8 88 (by kernel_rfl) (by kernel_rfl)) (by decide) (hK _ w1 rfl hG trivial)
                  case o12 =>
                    intro a w1 Kx hG need old hsz hK
                    exact skip_op (j := 8) rfl (need 8 88 (by kernel_rfl) (by kernel_rfl)) (by decide) (hK _ w1 rfl hG trivial)
                  case o13 =>
                    intro a w1 Kx hG need old hsz hK
                    exact skip_op (j := 8) rfl (need 8 88 (by kernel_rfl) (by kernel_rfl)) (by decide) (hK _ w1 rfl hG trivial)
                  case o14 =>
                    intro a w1 Kx hG need old hsz hK
                    exact skip_op (j := 8) rfl (need 8 88 (by kernel_rfl) (by kernel_rfl)) (by decide) (hK _ w1 rfl hG trivial)
                  case o15 =>
                    intro a w1 Kx hG need old hsz hK
                    exact skip_op (j := 8) rfl (need 8 88 (by kernel_rfl) (by kernel_rfl)) (by decide) (hK _ w1 rfl hG trivial)
                  case o16 =>
                    intro a w1 Kx hG need old hsz hK
                    exact skip_op (j := 8) rfl (need 8 88 (by kernel_rfl) (by kernel_rfl)) (by decide) (hK _ w1 rfl hG trivial)
                  case o17 =>
                    intro a w1 Kx hG need old hsz hK
                    exact skip_op (j := 8) rfl (need 8 88 (by kernel_rfl) (by kernel_rfl)) (by decide) (hK _ w1 rfl hG trivial)
                  case o18 =>
                    intro a w1 Kx hG need old hsz hK
                    have e0 : a.tmps[88]?.getD undef = .bool false := by rw [← Array.getD_eq_getD_getElem?]; exact need 8 88 (by kernel_rfl) (by kernel_rfl)
                    refine op_value (v := .bool false) (wanted_none rfl) ?_ (hK _ w1 rfl hG trivial)
                    simp [execOp, go_sem, asBool, e0]
                · intro a W2 hG hde hsz hφ hold
                  have s1 : a.tmps.getD 1 undef = .int .i64 bad := hold 1 (by kernel_rfl)
                  have s2 : a.tmps.getD 2 undef = .pointer (some ⟨w.heap.size, 0, none⟩) := hold 2 (by kernel_rfl)
                  have s98 : a.tmps.getD 98 undef = .bool false := hφ 18 98 (by kernel_rfl)
                  go_wp2_with fail
                  refine wp_cond_false (show a.eval (.tmp 98) = .bool false from s98) ?_
                  go_upto_region 17 with fail
                  clear hold hφ
                  have HB2 := Lib.hid (HWW.out.trans (hG.mono HWW.out.size))
                  have hWs2 : Hid (w.heap.size ≤ W2.heap.size) := HB2.out.size
                  replace BX := Lib.hid ((hG.block w.heap.size (lt_size BX.out)).trans BX.out)
                  clear hG
                  refine region_inv (fun j v _ => v = (match j with | 0 => .agg #[.int .i64 B, .int .i64 P, .int .i64 S, .int .i64 D, .int .i64 U] | 1 => .int .i64 (D + 8) | 2 => .pointer (some ⟨w.heap.size, 3, none⟩) | 3 => .int .i64 D | 4 => .bool true | 5 => .bool true | 6 => .agg #[.int .i64 B, .int .i64 P, .int .i64 S, .int .i64 D, .int .i64 U] | 7 => .int .i64 bad | 8 => .bool false | 9 => .bool true | 10 => .bool true | 11 => undef | 12 => undef | 13 => undef | 14 => undef | 15 => undef | 16 => undef | 17 => .bool true | 18 => .bool true | 19 => .bool true | 20 => .bool true | 21 => .bool true | 22 => .bool true | _ => undef)) (fun w' => Below W2.heap.size W2 w') (fun _ _ => True) (by kernel_rfl) (by kernel_rfl) ?hsl (fun _ _ _ _ h _ => h) (Below.refl _ _).drew ?_ ?_
                  case hsl => (first | rw [hsz] | (show slotsOk _ tm.size = true; rw [hsz])); kernel_rfl
                  · refine OpsOk.cons ?o0 (OpsOk.cons ?o1 (OpsOk.cons ?o2 (OpsOk.cons ?o3 (OpsOk.cons ?o4 (OpsOk.cons ?o5 (OpsOk.cons ?o6 (OpsOk.cons ?o7 (OpsOk.cons ?o8 (OpsOk.cons ?o9 (OpsOk.cons ?o10 (OpsOk.cons ?o11 (OpsOk.cons ?o12 (OpsOk.cons ?o13 (OpsOk.cons ?o14 (OpsOk.cons ?o15 (OpsOk.cons ?o16 (OpsOk.cons ?o17 (OpsOk.cons ?o18 (OpsOk.cons ?o19 (OpsOk.cons ?o20 (OpsOk.cons ?o21 (OpsOk.cons ?o22 OpsOk.nil))))))))))))))))))))))
                    case o0 =>
                      intro a w1 Kx hG need old hsz hK
                      have e0 : a.tmps[2]?.getD undef = .pointer (some ⟨w.heap.size, 0, none⟩) := by rw [← Array.getD_eq_getD_getElem?]; exact (old 2 (by kernel_rfl)).trans s2
                      obtain ⟨k0, k1, k2, k3, k4⟩ := cells5 ((hG.block w.heap.size (lt_size BX.out)).trans BX.out)
                      refine op_value (v := .agg #[.int .i64 B, .int .i64 P, .int .i64 S, .int .i64 D, .int .i64 U]) (wanted_none rfl) ?_ (hK _ w1 rfl hG trivial)
                      simp [execOp, go_sem, e0, k0, k1, k2, k3, k4]
                    case o1 =>
                      intro a w1 Kx hG need old hsz hK
                      have e0 : a.tmps[99]?.getD undef = .agg #[.int .i64 B, .int .i64 P, .int .i64 S, .int .i64 D, .int .i64 U] := by rw [← Array.getD_eq_getD_getElem?]; exact need 0 99 (by kernel_rfl) (by kernel_rfl)
                      refine op_call (wanted_none rfl) (f := 10) (args := #[.agg #[.int .i64 B, .int .i64 P, .int .i64 S, .int .i64 D, .int .i64 U]]) ?run ((needp_any B P S D U w1).mono ?post)
                      case run => simp [go_sem, e0]
                      case post =>
                        rintro e w2 ⟨rfl, hb2⟩
                        rw [EN.out]
                        exact ⟨_, rfl, hK _ w2 rfl (hG.trans (hb2.mono hG.size)) trivial⟩
                    case o2 =>
                      intro a w1 Kx hG need old hsz hK
                      have e0 : a.tmps[2]?.getD undef = .pointer (some ⟨w.heap.size, 0, none⟩) := by rw [← Array.getD_eq_getD_getElem?]; exact (old 2 (by kernel_rfl)).trans s2
                      refine op_value (v := .pointer (some ⟨w.heap.size, 3, none⟩)) (wanted_none rfl) ?_ (hK _ w1 rfl hG trivial)
                      simp [execOp, go_sem, e0]
                    case o3 =>
                      intro a w1 Kx hG need old hsz hK
                      have e0 : a.tmps[101]?.getD undef = .pointer (some ⟨w.heap.size, 3, none⟩) := by rw [← Array.getD_eq_getD_getElem?]; exact need 2 101 (by kernel_rfl) (by kernel_rfl)
                      have k0 := (cells5 ((hG.block w.heap.size (lt_size BX.out)).trans BX.out)).2.2.2.1
                      refine op_value (v := .int .i64 D) (wanted_none rfl) ?_ (hK _ w1 rfl hG trivial)
                      simp [execOp, go_sem, e0, k0]
                    case o4 =>
                      intro a w1 Kx hG need old hsz hK
                      have e0 : a.tmps[100]?.getD undef = .int .i64 (D + 8) := by rw [← Array.getD_eq_getD_getElem?]; exact need 1 100 (by kernel_rfl) (by kernel_rfl)
                      have e1 : a.tmps[102]?.getD undef = .int .i64 D := by rw [← Array.getD_eq_getD_getElem?]; exact need 3 102 (by kernel_rfl) (by kernel_rfl)
                      refine op_value (v := .bool true) (wanted_none rfl) ?_ (hK _ w1 rfl hG trivial)
                      simp [execOp, go_sem, e0, e1] <;> first | omega | (rw [i64w_id _ (by omega)] <;> omega)
                    case o5 =>
                      intro a w1 Kx hG need old hsz hK
                      have e0 : a.tmps[103]?.getD undef = .bool true := by rw [← Array.getD_eq_getD_getElem?]; exact need 4 103 (by kernel_rfl) (by kernel_rfl)
                      refine op_value (v := .bool true) (wanted_none rfl) ?_ (hK _ w1 rfl hG trivial)
                      simp [execOp, go_sem, e0]
                    case o6 =>
                      intro a w1 Kx hG need old hsz hK
                      have e0 : a.tmps[2]?.getD undef = .pointer (some ⟨w.heap.size, 0, none⟩) := by rw [← Array.getD_eq_getD_getElem?]; exact (old 2 (by kernel_rfl)).trans s2
                      obtain ⟨k0, k1, k2, k3, k4⟩ := cells5 ((hG.block w.heap.size (lt_size BX.out)).trans BX.out)
                      refine op_value (v := .agg #[.int .i64 B, .int .i64 P, .int .i64 S, .int .i64 D, .int .i64 U]) (wanted_of (j := 5) rfl (need 5 104 (by kernel_rfl) (by kernel_rfl))) ?_ (hK _ w1 rfl hG trivial)
                      simp [execOp, go_sem, e0, k0, k1, k2, k3, k4]
                    case o7 =>
                      intro a w1 Kx hG need old hsz hK
                      have e0 : a.tmps[1]?.getD undef = .int .i64 bad := by rw [← Array.getD_eq_getD_getElem?]; exact (old 1 (by kernel_rfl)).trans s1
                      refine op_value (v := .int .i64 bad) (wanted_of (j := 5) rfl (need 5 104 (by kernel_rfl) (by kernel_rfl))) ?_ (hK _ w1 rfl hG trivial)
                      simp [execOp, go_sem, e0]
                    case o8 =>
                      intro a w1 Kx hG need old hsz hK
                      have e0 : a.tmps[105]?.getD undef = .agg #[.int .i64 B, .int .i64 P, .int .i64 S, .int .i64 D, .int .i64 U] := by rw [← Array.getD_eq_getD_getElem?]; exact need 6 105 (by kernel_rfl) (by kernel_rfl)
                      have e1 : a.tmps[106]?.getD undef = .int .i64 bad := by rw [← Array.getD_eq_getD_getElem?]; exact need 7 106 (by kernel_rfl) (by kernel_rfl)
                      refine op_call (wanted_of (j := 5) rfl (need 5 104 (by kernel_rfl) (by kernel_rfl))) (f := 14) (args := #[.agg #[.int .i64 B, .int .i64 P, .int .i64 S, .int .i64 D, .int .i64 U], .int .i64 bad]) ?run ((fitsp_any B P S D U bad w1 HBD.out).mono ?post)
                      case run => simp [go_sem, e0, e1]
                      case post =>
                        rintro e w2 ⟨rfl, hb2⟩
                        rw [decide_eq_false HF.out]
                        exact ⟨_, rfl, hK _ w2 rfl (hG.trans (hb2.mono hG.size)) trivial⟩
                    case o9 =>
                      intro a w1 Kx hG need old hsz hK
                      have e0 : a.tmps[107]?.getD undef = .bool false := by rw [← Array.getD_eq_getD_getElem?]; exact need 8 107 (by kernel_rfl) (by kernel_rfl)
                      refine op_value (v := .bool true) (wanted_of (j := 5) rfl (need 5 104 (by kernel_rfl) (by kernel_rfl))) ?_ (hK _ w1 rfl hG trivial)
                      simp [execOp, go_sem, e0]
                    case o10 =>
                      intro a w1 Kx hG need old hsz hK
                      have e0 : a.tmps[108]?.getD undef = .bool true := by rw [← Array.getD_eq_getD_getElem?]; exact need 9 108 (by kernel_rfl) (by kernel_rfl)
                      refine op_value (v := .bool true) (wanted_of (j := 5) rfl (need 5 104 (by kernel_rfl) (by kernel_rfl))) ?_ (hK _ w1 rfl hG trivial)
                      simp [execOp, go_sem, e0]
                    case o11 =>
                      intro a w1 Kx hG need old hsz hK
                      exact skip_op (j := 10) rfl (need 10 109 (by kernel_rfl) (by kernel_rfl)) (by decide) (hK _ w1 rfl hG trivial)
                    case o12 =>
                      intro a w1 Kx hG need old hsz hK
                      exact skip_op (j := 10) rfl (need 10 109 (by kernel_rfl) (by kernel_rfl)) (by decide) (hK _ w1 rfl hG trivial)
                    case o13 =>
                      intro a w1 Kx hG need old hsz hK
                      exact skip_op (j := 10) rfl (need 10 109 (by kernel_rfl) (by kernel_rfl)) (by decide) (hK _ w1 rfl hG trivial)
                    case o14 =>
                      intro a w1 Kx hG need old hsz hK
                      exact skip_op (j := 10) rfl (need 10 109 (by kernel_rfl) (by kernel_rfl)) (by decide) (hK _ w1 rfl hG trivial)
                    case o15 =>
                      intro a w1 Kx hG need old hsz hK
                      exact skip_op (j := 10) rfl (need 10 109 (by kernel_rfl) (by kernel_rfl)) (by decide) (hK _ w1 rfl hG trivial)
                    case o16 =>
                      intro a w1 Kx hG need old hsz hK
                      exact skip_op (j := 10) rfl (need 10 109 (by kernel_rfl) (by kernel_rfl)) (by decide) (hK _ w1 rfl hG trivial)
                    case o17 =>
                      intro a w1 Kx hG need old hsz hK
                      have e0 : a.tmps[109]?.getD undef = .bool true := by rw [← Array.getD_eq_getD_getElem?]; exact need 10 109 (by kernel_rfl) (by kernel_rfl)
                      refine op_value (v := .bool true) (wanted_of (j := 5) rfl (need 5 104 (by kernel_rfl) (by kernel_rfl))) ?_ (hK _ w1 rfl hG trivial)
                      simp [execOp, go_sem, asBool, e0]
                    case o18 =>
                      intro a w1 Kx hG need old hsz hK
                      have e0 : a.tmps[104]?.getD undef = .bool true := by rw [← Array.getD_eq_getD_getElem?]; exact need 5 104 (by kernel_rfl) (by kernel_rfl)
                      have e1 : a.tmps[116]?.getD undef = .bool true := by rw [← Array.getD_eq_getD_getElem?]; exact need 17 116 (by kernel_rfl) (by kernel_rfl)
                      refine op_value (v := .bool true) (wanted_none rfl) ?_ (hK _ w1 rfl hG trivial)
                      simp [execOp, go_sem, asBool, e0, e1]
                    case o19 =>
                      intro a w1 Kx hG need old hsz hK
                      have e0 : a.tmps[117]?.getD undef = .bool true := by rw [← Array.getD_eq_getD_getElem?]; exact need 18 117 (by kernel_rfl) (by kernel_rfl)
                      refine op_value (v := .bool true) (wanted_none rfl) ?_ (hK _ w1 rfl hG trivial)
                      simp [execOp, go_sem, e0]
                    case o20 =>
                      intro a w1 Kx hG need old hsz hK
                      refine op_call (wanted_of (j := 19) rfl (need 19 118 (by kernel_rfl) (by kernel_rfl))) (f := 18) (args := #[]) ?run ((awake_any w1).mono ?post)
                      case run => simp [go_sem]
                      case post =>
                        rintro e w2 ⟨rfl, hb2⟩
                        exact ⟨_, rfl, hK _ w2 rfl (hG.trans (hb2.mono hG.size)) trivial⟩
                    case o21 =>
                      intro a w1 Kx hG need old hsz hK
                      have e0 : a.tmps[118]?.getD undef = .bool true := by rw [← Array.getD_eq_getD_getElem?]; exact need 19 118 (by kernel_rfl) (by kernel_rfl)
                      have e1 : a.tmps[119]?.getD undef = .bool true := by rw [← Array.getD_eq_getD_getElem?]; exact need 20 119 (by kernel_rfl) (by kernel_rfl)
                      refine op_value (v := .bool true) (wanted_none rfl) ?_ (hK _ w1 rfl hG trivial)
                      simp [execOp, go_sem, asBool, e0, e1]
                    case o22 =>
                      intro a w1 Kx hG need old hsz hK
                      have e0 : a.tmps[120]?.getD undef = .bool true := by rw [← Array.getD_eq_getD_getElem?]; exact need 21 120 (by kernel_rfl) (by kernel_rfl)
                      refine op_value (v := .bool true) (wanted_none rfl) ?_ (hK _ w1 rfl hG trivial)
                      simp [execOp, go_sem, e0]
                  · intro a' w' hG hde' hsz' hφ hold
                    have hr : a'.tmps.getD 4 undef = .bool true := hφ 22 4 (by kernel_rfl)
                    go_wp2
                    refine bodyPost_ret (v := .bool true) ?_ (hde'.trans hde) ⟨rfl, HB2.out.trans (hG.mono hWs2.out)⟩
                    rw [results_tmp (t := 4) rfl, hr]
      · have hhi' : 64 < bad := by omega
        clear hlo
        go_enter Try.func4, Try.ntmps4
        go_upto_region 2 with (go_at_call 9; refine (mayr_any _ _ _ _ _ _).mono ?_; rintro e w1 ⟨rfl, hb⟩; rw [decide_eq_true HM.out]; have BX := Lib.hid ((hb.block w.heap.size (by simp)).trans BX0.out); have HB := Lib.hid (HB0.out.trans (hb.mono (by simp))); clear hb)
        obtain ⟨W, rfl⟩ : ∃ W : World, W = w1 := ⟨_, rfl⟩
        have hWs : Hid (w.heap.size ≤ W.heap.size) := HB.out.size
        refine region_inv (fun j v _ => v = (match j with | 0 => .agg #[.int .i64 B, .int .i64 P, .int .i64 S, .int .i64 D, .int .i64 U] | 1 => .bool true | 2 => .bool false | 3 => .agg #[.int .i64 B, .int .i64 P, .int .i64 S, .int .i64 D, .int .i64 U] | 4 => .bool true | 5 => .bool false | 6 => .bool true | 7 => .bool true | 8 => .bool true | 9 => .bool true | 10 => .bool true | _ => undef)) (fun w' => Below W.heap.size W w') (fun _ _ => True) (by kernel_rfl) (by kernel_rfl) (by kernel_rfl) (fun _ _ _ _ h _ => h) (Below.refl _ _).drew ?_ ?_
        · refine OpsOk.cons ?o0 (OpsOk.cons ?o1 (OpsOk.cons ?o2 (OpsOk.cons ?o3 (OpsOk.cons ?o4 (OpsOk.cons ?o5 (OpsOk.cons ?o6 (OpsOk.cons ?o7 (OpsOk.cons ?o8 (OpsOk.cons ?o9 (OpsOk.cons ?o10 OpsOk.nil))))))))))
          case o0 =>
            intro a w1 Kx hG need old hsz hK
            have e0 : a.tmps[2]?.getD undef = .pointer (some ⟨w.heap.size, 0, none⟩) := by rw [← Array.getD_eq_getD_getElem?]; exact old 2 (by kernel_rfl)
            obtain ⟨k0, k1, k2, k3, k4⟩ := cells5 ((hG.block w.heap.size (lt_size BX.out)).trans BX.out)
            refine op_value (v := .agg #[.int .i64 B, .int .i64 P, .int .i64 S, .int .i64 D, .int .i64 U]) (wanted_none rfl) ?_ (hK _ w1 rfl hG trivial)
            simp [execOp, go_sem, e0, k0, k1, k2, k3, k4]
          case o1 =>
            intro a w1 Kx hG need old hsz hK
            have e0 : a.tmps[23]?.getD undef = .agg #[.int .i64 B, .int .i64 P, .int .i64 S, .int .i64 D, .int .i64 U] := by rw [← Array.getD_eq_getD_getElem?]; exact need 0 23 (by kernel_rfl) (by kernel_rfl)
            refine op_call (wanted_none rfl) (f := 8) (args := #[.agg #[.int .i64 B, .int .i64 P, .int .i64 S, .int .i64 D, .int .i64 U]]) ?run ((mayp_any B P S D U w1).mono ?post)
            case run => simp [go_sem, e0]
            case post =>
              rintro e w2 ⟨rfl, hb2⟩
              rw [decide_eq_true HM.out]
              exact ⟨_, rfl, hK _ w2 rfl (hG.trans (hb2.mono hG.size)) trivial⟩
          case o2 =>
            intro a w1 Kx hG need old hsz hK
            have e0 : a.tmps[24]?.getD undef = .bool true := by rw [← Array.getD_eq_getD_getElem?]; exact need 1 24 (by kernel_rfl) (by kernel_rfl)
            refine op_value (v := .bool false) (wanted_none rfl) ?_ (hK _ w1 rfl hG trivial)
            simp [execOp, go_sem, e0]
          case o3 =>
            intro a w1 Kx hG need old hsz hK
            have e0 : a.tmps[2]?.getD undef = .pointer (some ⟨w.heap.size, 0, none⟩) := by rw [← Array.getD_eq_getD_getElem?]; exact old 2 (by kernel_rfl)
            obtain ⟨k0, k1, k2, k3, k4⟩ := cells5 ((hG.block w.heap.size (lt_size BX.out)).trans BX.out)
            refine op_value (v := .agg #[.int .i64 B, .int .i64 P, .int .i64 S, .int .i64 D, .int .i64 U]) (wanted_none rfl) ?_ (hK _ w1 rfl hG trivial)
            simp [execOp, go_sem, e0, k0, k1, k2, k3, k4]
          case o4 =>
            intro a w1 Kx hG need old hsz hK
            have e0 : a.tmps[26]?.getD undef = .agg #[.int .i64 B, .int .i64 P, .int .i64 S, .int .i64 D, .int .i64 U] := by rw [← Array.getD_eq_getD_getElem?]; exact need 3 26 (by kernel_rfl) (by kernel_rfl)
            refine op_call (wanted_none rfl) (f := 9) (args := #[.agg #[.int .i64 B, .int .i64 P, .int .i64 S, .int .i64 D, .int .i64 U]]) ?run ((mayr_any B P S D U w1).mono ?post)
            case run => simp [go_sem, e0]
            case post =>
              rintro e w2 ⟨rfl, hb2⟩
              rw [decide_eq_true HM.out]
              exact ⟨_, rfl, hK _ w2 rfl (hG.trans (hb2.mono hG.size)) trivial⟩
          case o5 =>
            intro a w1 Kx hG need old hsz hK
            have e0 : a.tmps[27]?.getD undef = .bool true := by rw [← Array.getD_eq_getD_getElem?]; exact need 4 27 (by kernel_rfl) (by kernel_rfl)
            refine op_value (v := .bool false) (wanted_none rfl) ?_ (hK _ w1 rfl hG trivial)
            simp [execOp, go_sem, e0]
          case o6 =>
            intro a w1 Kx hG need old hsz hK
            have e0 : a.tmps[25]?.getD undef = .bool false := by rw [← Array.getD_eq_getD_getElem?]; exact need 2 25 (by kernel_rfl) (by kernel_rfl)
            have e1 : a.tmps[28]?.getD undef = .bool false := by rw [← Array.getD_eq_getD_getElem?]; exact need 5 28 (by kernel_rfl) (by kernel_rfl)
            refine op_value (v := .bool true) (wanted_none rfl) ?_ (hK _ w1 rfl hG trivial)
            simp [execOp, go_sem, bool_eql, e0, e1]
          case o7 =>
            intro a w1 Kx hG need old hsz hK
            have e0 : a.tmps[29]?.getD undef = .bool true := by rw [← Array.getD_eq_getD_getElem?]; exact need 6 29 (by kernel_rfl) (by kernel_rfl)
            refine op_value (v := .bool true) (wanted_none rfl) ?_ (hK _ w1 rfl hG trivial)
            simp [execOp, go_sem, e0]
          case o8 =>
            intro a w1 Kx hG need old hsz hK
            refine op_call (wanted_of (j := 7) rfl (need 7 30 (by kernel_rfl) (by kernel_rfl))) (f := 18) (args := #[]) ?run ((awake_any w1).mono ?post)
            case run => simp [go_sem]
            case post =>
              rintro e w2 ⟨rfl, hb2⟩
              exact ⟨_, rfl, hK _ w2 rfl (hG.trans (hb2.mono hG.size)) trivial⟩
          case o9 =>
            intro a w1 Kx hG need old hsz hK
            have e0 : a.tmps[30]?.getD undef = .bool true := by rw [← Array.getD_eq_getD_getElem?]; exact need 7 30 (by kernel_rfl) (by kernel_rfl)
            have e1 : a.tmps[31]?.getD undef = .bool true := by rw [← Array.getD_eq_getD_getElem?]; exact need 8 31 (by kernel_rfl) (by kernel_rfl)
            refine op_value (v := .bool true) (wanted_none rfl) ?_ (hK _ w1 rfl hG trivial)
            simp [execOp, go_sem, asBool, e0, e1]
          case o10 =>
            intro a w1 Kx hG need old hsz hK
            have e0 : a.tmps[32]?.getD undef = .bool true := by rw [← Array.getD_eq_getD_getElem?]; exact need 9 32 (by kernel_rfl) (by kernel_rfl)
            refine op_value (v := .bool true) (wanted_none rfl) ?_ (hK _ w1 rfl hG trivial)
            simp [execOp, go_sem, e0]
        · intro a w' hG hde hsz hφ hold
          have hr : a.tmps.getD 4 undef = .bool true := hφ 10 4 (by kernel_rfl)
          go_wp2
          refine bodyPost_ret (v := .bool true) ?_ hde ⟨rfl, HB.out.trans (hG.mono hWs.out)⟩
          rw [results_tmp (t := 4) rfl, hr]

    · have hlo' : bad < 0 := by omega
      go_enter Try.func4, Try.ntmps4
      go_upto_region 2 with (go_at_call 9; refine (mayr_any _ _ _ _ _ _).mono ?_; rintro e w1 ⟨rfl, hb⟩; rw [decide_eq_true HM.out]; have BX := Lib.hid ((hb.block w.heap.size (by simp)).trans BX0.out); have HB := Lib.hid (HB0.out.trans (hb.mono (by simp))); clear hb)
      obtain ⟨W, rfl⟩ : ∃ W : World, W = w1 := ⟨_, rfl⟩
      have hWs : Hid (w.heap.size ≤ W.heap.size) := HB.out.size
      refine region_inv (fun j v _ => v = (match j with | 0 => .agg #[.int .i64 B, .int .i64 P, .int .i64 S, .int .i64 D, .int .i64 U] | 1 => .bool true | 2 => .bool false | 3 => .agg #[.int .i64 B, .int .i64 P, .int .i64 S, .int .i64 D, .int .i64 U] | 4 => .bool true | 5 => .bool false | 6 => .bool true | 7 => .bool true | 8 => .bool true | 9 => .bool true | 10 => .bool true | _ => undef)) (fun w' => Below W.heap.size W w') (fun _ _ => True) (by kernel_rfl) (by kernel_rfl) (by kernel_rfl) (fun _ _ _ _ h _ => h) (Below.refl _ _).drew ?_ ?_
      · refine OpsOk.cons ?o0 (OpsOk.cons ?o1 (OpsOk.cons ?o2 (OpsOk.cons ?o3 (OpsOk.cons ?o4 (OpsOk.cons ?o5 (OpsOk.cons ?o6 (OpsOk.cons ?o7 (OpsOk.cons ?o8 (OpsOk.cons ?o9 (OpsOk.cons ?o10 OpsOk.nil))))))))))
        case o0 =>
          intro a w1 Kx hG need old hsz hK
          have e0 : a.tmps[2]?.getD undef = .pointer (some ⟨w.heap.size, 0, none⟩) := by rw [← Array.getD_eq_getD_getElem?]; exact old 2 (by kernel_rfl)
          obtain ⟨k0, k1, k2, k3, k4⟩ := cells5 ((hG.block w.heap.size (lt_size BX.out)).trans BX.out)
          refine op_value (v := .agg #[.int .i64 B, .int .i64 P, .int .i64 S, .int .i64 D, .int .i64 U]) (wanted_none rfl) ?_ (hK _ w1 rfl hG trivial)
          simp [execOp, go_sem, e0, k0, k1, k2, k3, k4]
        case o1 =>
          intro a w1 Kx hG need old hsz hK
          have e0 : a.tmps[23]?.getD undef = .agg #[.int .i64 B, .int .i64 P, .int .i64 S, .int .i64 D, .int .i64 U] := by rw [← Array.getD_eq_getD_getElem?]; exact need 0 23 (by kernel_rfl) (by kernel_rfl)
          refine op_call (wanted_none rfl) (f := 8) (args := #[.agg #[.int .i64 B, .int .i64 P, .int .i64 S, .int .i64 D, .int .i64 U]]) ?run ((mayp_any B P S D U w1).mono ?post)
          case run => simp [go_sem, e0]
          case post =>
            rintro e w2 ⟨rfl, hb2⟩
            rw [decide_eq_true HM.out]
            exact ⟨_, rfl, hK _ w2 rfl (hG.trans (hb2.mono hG.size)) trivial⟩
        case o2 =>
          intro a w1 Kx hG need old hsz hK
          have e0 : a.tmps[24]?.getD undef = .bool true := by rw [← Array.getD_eq_getD_getElem?]; exact need 1 24 (by kernel_rfl) (by kernel_rfl)
          refine op_value (v := .bool false) (wanted_none rfl) ?_ (hK _ w1 rfl hG trivial)
          simp [execOp, go_sem, e0]
        case o3 =>
          intro a w1 Kx hG need old hsz hK
          have e0 : a.tmps[2]?.getD undef = .pointer (some ⟨w.heap.size, 0, none⟩) := by rw [← Array.getD_eq_getD_getElem?]; exact old 2 (by kernel_rfl)
          obtain ⟨k0, k1, k2, k3, k4⟩ := cells5 ((hG.block w.heap.size (lt_size BX.out)).trans BX.out)
          refine op_value (v := .agg #[.int .i64 B, .int .i64 P, .int .i64 S, .int .i64 D, .int .i64 U]) (wanted_none rfl) ?_ (hK _ w1 rfl hG trivial)
          simp [execOp, go_sem, e0, k0, k1, k2, k3, k4]
        case o4 =>
          intro a w1 Kx hG need old hsz hK
          have e0 : a.tmps[26]?.getD undef = .agg #[.int .i64 B, .int .i64 P, .int .i64 S, .int .i64 D, .int .i64 U] := by rw [← Array.getD_eq_getD_getElem?]; exact need 3 26 (by kernel_rfl) (by kernel_rfl)
          refine op_call (wanted_none rfl) (f := 9) (args := #[.agg #[.int .i64 B, .int .i64 P, .int .i64 S, .int .i64 D, .int .i64 U]]) ?run ((mayr_any B P S D U w1).mono ?post)
          case run => simp [go_sem, e0]
          case post =>
            rintro e w2 ⟨rfl, hb2⟩
            rw [decide_eq_true HM.out]
            exact ⟨_, rfl, hK _ w2 rfl (hG.trans (hb2.mono hG.size)) trivial⟩
        case o5 =>
          intro a w1 Kx hG need old hsz hK
          have e0 : a.tmps[27]?.getD undef = .bool true := by rw [← Array.getD_eq_getD_getElem?]; exact need 4 27 (by kernel_rfl) (by kernel_rfl)
          refine op_value (v := .bool false) (wanted_none rfl) ?_ (hK _ w1 rfl hG trivial)
          simp [execOp, go_sem, e0]
        case o6 =>
          intro a w1 Kx hG need old hsz hK
          have e0 : a.tmps[25]?.getD undef = .bool false := by rw [← Array.getD_eq_getD_getElem?]; exact need 2 25 (by kernel_rfl) (by kernel_rfl)
          have e1 : a.tmps[28]?.getD undef = .bool false := by rw [← Array.getD_eq_getD_getElem?]; exact need 5 28 (by kernel_rfl) (by kernel_rfl)
          refine op_value (v := .bool true) (wanted_none rfl) ?_ (hK _ w1 rfl hG trivial)
          simp [execOp, go_sem, bool_eql, e0, e1]
        case o7 =>
          intro a w1 Kx hG need old hsz hK
          have e0 : a.tmps[29]?.getD undef = .bool true := by rw [← Array.getD_eq_getD_getElem?]; exact need 6 29 (by kernel_rfl) (by kernel_rfl)
          refine op_value (v := .bool true) (wanted_none rfl) ?_ (hK _ w1 rfl hG trivial)
          simp [execOp, go_sem, e0]
        case o8 =>
          intro a w1 Kx hG need old hsz hK
          refine op_call (wanted_of (j := 7) rfl (need 7 30 (by kernel_rfl) (by kernel_rfl))) (f := 18) (args := #[]) ?run ((awake_any w1).mono ?post)
          case run => simp [go_sem]
          case post =>
            rintro e w2 ⟨rfl, hb2⟩
            exact ⟨_, rfl, hK _ w2 rfl (hG.trans (hb2.mono hG.size)) trivial⟩
        case o9 =>
          intro a w1 Kx hG need old hsz hK
          have e0 : a.tmps[30]?.getD undef = .bool true := by rw [← Array.getD_eq_getD_getElem?]; exact need 7 30 (by kernel_rfl) (by kernel_rfl)
          have e1 : a.tmps[31]?.getD undef = .bool true := by rw [← Array.getD_eq_getD_getElem?]; exact need 8 31 (by kernel_rfl) (by kernel_rfl)
          refine op_value (v := .bool true) (wanted_none rfl) ?_ (hK _ w1 rfl hG trivial)
          simp [execOp, go_sem, asBool, e0, e1]
        case o10 =>
          intro a w1 Kx hG need old hsz hK
          have e0 : a.tmps[32]?.getD undef = .bool true := by rw [← Array.getD_eq_getD_getElem?]; exact need 9 32 (by kernel_rfl) (by kernel_rfl)
          refine op_value (v := .bool true) (wanted_none rfl) ?_ (hK _ w1 rfl hG trivial)
          simp [execOp, go_sem, e0]
      · intro a w' hG hde hsz hφ hold
        have hr : a.tmps.getD 4 undef = .bool true := hφ 10 4 (by kernel_rfl)
        go_wp2
        refine bodyPost_ret (v := .bool true) ?_ hde ⟨rfl, HB.out.trans (hG.mono hWs.out)⟩
        rw [results_tmp (t := 4) rfl, hr]

  · have HM := Lib.hid hM
    clear hM
    go_enter Try.func4, Try.ntmps4
    go_upto_region 2 with (go_at_call 9; refine (mayr_any _ _ _ _ _ _).mono ?_; rintro e w1 ⟨rfl, hb⟩; rw [decide_eq_false HM.out]; have BX := Lib.hid ((hb.block w.heap.size (by simp)).trans BX0.out); have HB := Lib.hid (HB0.out.trans (hb.mono (by simp))); clear hb)
    obtain ⟨W, rfl⟩ : ∃ W : World, W = w1 := ⟨_, rfl⟩
    have hWs : Hid (w.heap.size ≤ W.heap.size) := HB.out.size
    refine region_inv (fun j v _ => v = (match j with | 0 => .agg #[.int .i64 B, .int .i64 P, .int .i64 S, .int .i64 D, .int .i64 U] | 1 => .bool false | 2 => .bool true | 3 => .agg #[.int .i64 B, .int .i64 P, .int .i64 S, .int .i64 D, .int .i64 U] | 4 => .bool false | 5 => .bool true | 6 => .bool true | 7 => .bool true | 8 => .bool true | 9 => .bool true | 10 => .bool true | _ => undef)) (fun w' => Below W.heap.size W w') (fun _ _ => True) (by kernel_rfl) (by kernel_rfl) (by kernel_rfl) (fun _ _ _ _ h _ => h) (Below.refl _ _).drew ?_ ?_
    · refine OpsOk.cons ?o0 (OpsOk.cons ?o1 (OpsOk.cons ?o2 (OpsOk.cons ?o3 (OpsOk.cons ?o4 (OpsOk.cons ?o5 (OpsOk.cons ?o6 (OpsOk.cons ?o7 (OpsOk.cons ?o8 (OpsOk.cons ?o9 (OpsOk.cons ?o10 OpsOk.nil))))))))))
      case o0 =>
        intro a w1 Kx hG need old hsz hK
        have e0 : a.tmps[2]?.getD undef = .pointer (some ⟨w.heap.size, 0, none⟩) := by rw [← Array.getD_eq_getD_getElem?]; exact old 2 (by kernel_rfl)
        obtain ⟨k0, k1, k2, k3, k4⟩ := cells5 ((hG.block w.heap.size (lt_size BX.out)).trans BX.out)
        refine op_value (v := .agg #[.int .i64 B, .int .i64 P, .int .i64 S, .int .i64 D, .int .i64 U]) (wanted_none rfl) ?_ (hK _ w1 rfl hG trivial)
        simp [execOp, go_sem, e0, k0, k1, k2, k3, k4]
      case o1 =>
        intro a w1 Kx hG need old hsz hK
        have e0 : a.tmps[23]?.getD undef = .agg #[.int .i64 B, .int .i64 P, .int .i64 S, .int .i64 D, .int .i64 U] := by rw [← Array.getD_eq_getD_getElem?]; exact need 0 23 (by kernel_rfl) (by kernel_rfl)
        refine op_call (wanted_none rfl) (f := 8) (args := #[.agg #[.int .i64 B, .int .i64 P, .int .i64 S, .int .i64 D, .int .i64 U]]) ?run ((mayp_any B P S D U w1).mono ?post)
        case run => simp [go_sem, e0]
        case post =>
          rintro e w2 ⟨rfl, hb2⟩
          rw [decide_eq_false HM.out]
          exact ⟨_, rfl, hK _ w2 rfl (hG.trans (hb2.mono hG.size)) trivial⟩
      case o2 =>
        intro a w1 Kx hG need old hsz hK
        have e0 : a.tmps[24]?.getD undef = .bool false := by rw [← Array.getD_eq_getD_getElem?]; exact need 1 24 (by kernel_rfl) (by kernel_rfl)
        refine op_value (v := .bool true) (wanted_none rfl) ?_ (hK _ w1 rfl hG trivial)
        simp [execOp, go_sem, e0]
      case o3 =>
        intro a w1 Kx hG need old hsz hK
        have e0 : a.tmps[2]?.getD undef = .pointer (some ⟨w.heap.size, 0, none⟩) := by rw [← Array.getD_eq_getD_getElem?]; exact old 2 (by kernel_rfl)
        obtain ⟨k0, k1, k2, k3, k4⟩ := cells5 ((hG.block w.heap.size (lt_size BX.out)).trans BX.out)
        refine op_value (v := .agg #[.int .i64 B, .int .i64 P, .int .i64 S, .int .i64 D, .int .i64 U]) (wanted_none rfl) ?_ (hK _ w1 rfl hG trivial)
        simp [execOp, go_sem, e0, k0, k1, k2, k3, k4]
      case o4 =>
        intro a w1 Kx hG need old hsz hK
        have e0 : a.tmps[26]?.getD undef = .agg #[.int .i64 B, .int .i64 P, .int .i64 S, .int .i64 D, .int .i64 U] := by rw [← Array.getD_eq_getD_getElem?]; exact need 3 26 (by kernel_rfl) (by kernel_rfl)
        refine op_call (wanted_none rfl) (f := 9) (args := #[.agg #[.int .i64 B, .int .i64 P, .int .i64 S, .int .i64 D, .int .i64 U]]) ?run ((mayr_any B P S D U w1).mono ?post)
        case run => simp [go_sem, e0]
        case post =>
          rintro e w2 ⟨rfl, hb2⟩
          rw [decide_eq_false HM.out]
          exact ⟨_, rfl, hK _ w2 rfl (hG.trans (hb2.mono hG.size)) trivial⟩
      case o5 =>
        intro a w1 Kx hG need old hsz hK
        have e0 : a.tmps[27]?.getD undef = .bool false := by rw [← Array.getD_eq_getD_getElem?]; exact need 4 27 (by kernel_rfl) (by kernel_rfl)
        refine op_value (v := .bool true) (wanted_none rfl) ?_ (hK _ w1 rfl hG trivial)
        simp [execOp, go_sem, e0]
      case o6 =>
        intro a w1 Kx hG need old hsz hK
        have e0 : a.tmps[25]?.getD undef = .bool true := by rw [← Array.getD_eq_getD_getElem?]; exact need 2 25 (by kernel_rfl) (by kernel_rfl)
        have e1 : a.tmps[28]?.getD undef = .bool true := by rw [← Array.getD_eq_getD_getElem?]; exact need 5 28 (by kernel_rfl) (by kernel_rfl)
        refine op_value (v := .bool true) (wanted_none rfl) ?_ (hK _ w1 rfl hG trivial)
        simp [execOp, go_sem, bool_eql, e0, e1]
      case o7 =>
        intro a w1 Kx hG need old hsz hK
        have e0 : a.tmps[29]?.getD undef = .bool true := by rw [← Array.getD_eq_getD_getElem?]; exact need 6 29 (by kernel_rfl) (by kernel_rfl)
        refine op_value (v := .bool true) (wanted_none rfl) ?_ (hK _ w1 rfl hG trivial)
        simp [execOp, go_sem, e0]
      case o8 =>
        intro a w1 Kx hG need old hsz hK
        refine op_call (wanted_of (j := 7) rfl (need 7 30 (by kernel_rfl) (by kernel_rfl))) (f := 18) (args := #[]) ?run ((awake_any w1).mono ?post)
        case run => simp [go_sem]
        case post =>
          rintro e w2 ⟨rfl, hb2⟩
          exact ⟨_, rfl, hK _ w2 rfl (hG.trans (hb2.mono hG.size)) trivial⟩
      case o9 =>
        intro a w1 Kx hG need old hsz hK
        have e0 : a.tmps[30]?.getD undef = .bool true := by rw [← Array.getD_eq_getD_getElem?]; exact need 7 30 (by kernel_rfl) (by kernel_rfl)
        have e1 : a.tmps[31]?.getD undef = .bool true := by rw [← Array.getD_eq_getD_getElem?]; exact need 8 31 (by kernel_rfl) (by kernel_rfl)
        refine op_value (v := .bool true) (wanted_none rfl) ?_ (hK _ w1 rfl hG trivial)
        simp [execOp, go_sem, asBool, e0, e1]
      case o10 =>
        intro a w1 Kx hG need old hsz hK
        have e0 : a.tmps[32]?.getD undef = .bool true := by rw [← Array.getD_eq_getD_getElem?]; exact need 9 32 (by kernel_rfl) (by kernel_rfl)
        refine op_value (v := .bool true) (wanted_none rfl) ?_ (hK _ w1 rfl hG trivial)
        simp [execOp, go_sem, e0]
    · intro a w' hG hde hsz hφ hold
      have hr : a.tmps.getD 4 undef = .bool true := hφ 10 4 (by kernel_rfl)
      go_wp2
      refine bodyPost_ret (v := .bool true) ?_ hde ⟨rfl, HB.out.trans (hG.mono hWs.out)⟩
      rw [results_tmp (t := 4) rfl, hr]

end Go.Proofs.Ytfnhmnfhkhjojaa
