/- PlaceCrowded: a spot that is taken is refused to another one, till who stands there goes, or moves: the law's walk. -/
import Derived.Deep.RegionHeld3
import Derived.Deep.DeepCutAuto
import Derived.Test.YtbebbnkolpgndaaPlcLaw
namespace Go.Proofs.Ytbebbnkolpgndaa
open Go.RowKit

theorem eql_spot (a b : P2) (w : World) : Sem.run Try.prog (binOp BinOp.eql 24 (P2V a) (P2V b)) w = .ok (.bool (decide (a = b))) w := by
  have e : (a = b) ↔ (a.1 = b.1 ∧ a.2 = b.2) := Prod.ext_iff
  by_cases h1 : a.1 = b.1 <;> by_cases h2 : a.2 = b.2 <;> simp [go_sem, e, h1, h2]
theorem eql_ref (a b : P2) (w : World) : Sem.run Try.prog (binOp BinOp.eql 30 (P2V a) (P2V b)) w = .ok (.bool (decide (a = b))) w := by
  have e : (a = b) ↔ (a.1 = b.1 ∧ a.2 = b.2) := Prod.ext_iff
  by_cases h1 : a.1 = b.1 <;> by_cases h2 : a.2 = b.2 <;> simp [go_sem, e, h1, h2]
/-- The four arguments' boxes. -/
def Bx4 (w W : World) (a b s t : P2) : Prop :=
  W.heap[w.heap.size]? = some (.cells #[.int .i64 a.1, .int .i64 a.2] 30 (0, 0)) ∧ W.heap[w.heap.size + 1]? = some (.cells #[.int .i64 b.1, .int .i64 b.2] 30 (0, 0)) ∧ W.heap[w.heap.size + 1 + 1]? = some (.cells #[.int .i64 s.1, .int .i64 s.2] 24 (0, 0)) ∧ W.heap[w.heap.size + 1 + 1 + 1]? = some (.cells #[.int .i64 t.1, .int .i64 t.2] 24 (0, 0))
theorem Bx4.cells {w W : World} {a b s t : P2} (h : Bx4 w W a b s t) : (W.cell? ⟨w.heap.size, 0, none⟩ = some (.int .i64 a.1) ∧ W.cell? ⟨w.heap.size, 1, none⟩ = some (.int .i64 a.2)) ∧ (W.cell? ⟨w.heap.size + 1, 0, none⟩ = some (.int .i64 b.1) ∧ W.cell? ⟨w.heap.size + 1, 1, none⟩ = some (.int .i64 b.2)) ∧ (W.cell? ⟨w.heap.size + 1 + 1, 0, none⟩ = some (.int .i64 s.1) ∧ W.cell? ⟨w.heap.size + 1 + 1, 1, none⟩ = some (.int .i64 s.2)) ∧ W.cell? ⟨w.heap.size + 1 + 1 + 1, 0, none⟩ = some (.int .i64 t.1) ∧ W.cell? ⟨w.heap.size + 1 + 1 + 1, 1, none⟩ = some (.int .i64 t.2) :=
  ⟨cells2p h.1, cells2p h.2.1, cells2p h.2.2.1, cells2p h.2.2.2⟩
theorem Bx4.keep {w W W' : World} {a b s t : P2} (h : Bx4 w W a b s t) (hk : ∀ i, i < w.heap.size + 4 → i < W.heap.size → W'.heap[i]? = W.heap[i]?) : Bx4 w W' a b s t :=
  ⟨(hk _ (by omega) (lt_size h.1)).trans h.1, (hk _ (by omega) (lt_size h.2.1)).trans h.2.1, (hk _ (by omega) (lt_size h.2.2.1)).trans h.2.2.1, (hk _ (by omega) (lt_size h.2.2.2)).trans h.2.2.2⟩
theorem Bx4.below {w W W' : World} {a b s t : P2} (h : Bx4 w W a b s t) (hb : Below W.heap.size W W') : Bx4 w W' a b s t := h.keep fun _ _ hi => hb.block _ hi
theorem Bx4.safe {w W W' : World} {a b s t : P2} (h : Bx4 w W a b s t) (hs : Safe (fun k => k < w.heap.size + 4) W W') : Bx4 w W' a b s t := h.keep fun _ h1 hi => Safe.block hs hi h1
section
variable {a b s t : P2} (hab : a ≠ b) (hst : s ≠ t) (s1 : 0 ≤ s.1) (s2 : 0 ≤ s.2) (t1 : 0 ≤ t.1) (t2 : 0 ≤ t.2)
include hab hst s1 s2 t1 t2
/-- What is told, step by step. -/
theorem crowd_steps : (canT [] a s = true ∧ putT [] a s = [(a, s)]) ∧ (canT [(a, s)] b s = false ∧ putT [(a, s)] b s = [(a, s)]) ∧ (canT [(a, s)] a t = true ∧ putT [(a, s)] a t = [(a, t)]) ∧ (canT [(a, t)] b s = true ∧ putT [(a, t)] b s = [(a, t), (b, s)]) ∧ (canT [(a, t), (b, s)] a s = false ∧ putT [(a, t), (b, s)] a s = [(a, t), (b, s)]) ∧ (hasR [(a, t), (b, s)] b = true ∧ cutT [(a, t), (b, s)] b = [(a, t)]) ∧ (canT [(a, t)] a s = true ∧ putT [(a, t)] a s = [(a, s)]) ∧ atT [(a, s)] a = some s ∧ onT [(a, s)] t = none := by
  have hba : b ≠ a := Ne.symm hab
  have hts : t ≠ s := Ne.symm hst
  have c1 : canT [] a s = true := by simp [canT, s1, s2]
  have c2 : canT [(a, s)] b s = false := by simp [canT, s1, s2, hab]
  have c3 : canT [(a, s)] a t = true := by simp [canT, t1, t2]
  have c4 : canT [(a, t)] b s = true := by simp [canT, s1, s2, hts]
  have c5 : canT [(a, t), (b, s)] a s = false := by simp [canT, s1, s2, hba]
  have c6 : hasR [(a, t), (b, s)] b = true := by simp [hasR]
  have c7 : canT [(a, t)] a s = true := by simp [canT, s1, s2]
  refine ⟨⟨c1, by simp [putT, c1, hasR]⟩, ⟨c2, by simp [putT, c2]⟩, ⟨c3, by simp [putT, c3, hasR]⟩, ⟨c4, by simp [putT, c4, hasR, hab]⟩, ⟨c5, by simp [putT, c5]⟩, ⟨c6, by simp [cutT, hab]⟩, ⟨c7, by simp [putT, c7, hasR]⟩, by simp [atT], by simp [onT, hst]⟩
end
set_option maxRecDepth 100000 in
set_option maxHeartbeats 4000000 in
theorem crowd9_any (a b s t : P2) (w : World) (ha : WfP a) (hb : WfP b) (hs : WfP s) (ht : WfP t) : Calls Try.prog 7 #[P2V a, P2V b, P2V s, P2V t] w (Holds w) := by
  by_cases hc : a ≠ b ∧ s ≠ t ∧ 0 ≤ s.1 ∧ 0 ≤ s.2 ∧ 0 ≤ t.1 ∧ 0 ≤ t.2
  · obtain ⟨hab, hst, s1, s2, t1, t2⟩ := hc
    have q1 : ∀ W : World, Sem.run Try.prog (binOp BinOp.eql 30 (.agg #[.int .i64 a.1, .int .i64 a.2]) (.agg #[.int .i64 b.1, .int .i64 b.2])) W = .ok (.bool false) W := fun W => by
      have := eql_ref a b W
      rwa [decide_eq_false hab] at this
    have q2 : ∀ W : World, Sem.run Try.prog (binOp BinOp.eql 24 (.agg #[.int .i64 s.1, .int .i64 s.2]) (.agg #[.int .i64 t.1, .int .i64 t.2])) W = .ok (.bool false) W := fun W => by
      have := eql_spot s t W
      rwa [decide_eq_false hst] at this
    have q3 : ∀ W : World, Sem.run Try.prog (binOp BinOp.eql 24 (.agg #[.int .i64 s.1, .int .i64 s.2]) (.agg #[.int .i64 s.1, .int .i64 s.2])) W = .ok (.bool true) W := fun W => by
      have := eql_spot s s W
      rwa [decide_eq_true rfl] at this
    have ST := Lib.hid (crowd_steps hab hst s1 s2 t1 t2)
    obtain ⟨⟨e1, p1⟩, ⟨e2, p2⟩, ⟨e3, p3⟩, ⟨e4, p4⟩, ⟨e5, p5⟩, ⟨e6, p6⟩, ⟨e7, p7⟩, e8, e9⟩ := ST.out
    have E1 := Lib.hid e1
    have E2 := Lib.hid e2
    have E3 := Lib.hid e3
    have E4 := Lib.hid e4
    have E5 := Lib.hid e5
    have E6 := Lib.hid e6
    have E7 := Lib.hid e7
    have E8 := Lib.hid e8
    have E9 := Lib.hid e9
    have Q1 := Lib.hid p1
    have Q2 := Lib.hid p2
    have Q3 := Lib.hid p3
    have Q4 := Lib.hid p4
    have Q5 := Lib.hid p5
    have Q6 := Lib.hid p6
    have Q7 := Lib.hid p7
    clear e1 p1 e2 p2 e3 p3 e4 p4 e5 p5 e6 p6 e7 p7 e8 e9 ST hab hst
    have WA := Lib.hid ha
    have WB := Lib.hid hb
    have WS := Lib.hid hs
    have WT := Lib.hid ht
    clear ha hb hs ht
    obtain ⟨W0, hW0⟩ : ∃ W0, W0 = (((w.alloc (.cells #[.int .i64 a.1, .int .i64 a.2] 30)).alloc (.cells #[.int .i64 b.1, .int .i64 b.2] 30)).alloc (.cells #[.int .i64 s.1, .int .i64 s.2] 24)).alloc (.cells #[.int .i64 t.1, .int .i64 t.2] 24) := ⟨_, rfl⟩
    have hz : W0.heap.size = w.heap.size + 4 := by rw [hW0]; simp
    have HB0 : Hid (Below w.heap.size w W0) := Lib.hid (by rw [hW0]; exact ((((Below.refl _ w).alloc (Nat.le_refl _) _).alloc (by simp) _).alloc (by simp; omega) _).alloc (by simp; omega) _)
    have HX0 : Hid (Bx4 w W0 a b s t) := Lib.hid (by
      have k1 := heap_alloc_new w (.cells #[.int .i64 a.1, .int .i64 a.2] 30)
      have k2 := heap_alloc_new (w.alloc (.cells #[.int .i64 a.1, .int .i64 a.2] 30)) (.cells #[.int .i64 b.1, .int .i64 b.2] 30)
      have k3 := heap_alloc_new ((w.alloc (.cells #[.int .i64 a.1, .int .i64 a.2] 30)).alloc (.cells #[.int .i64 b.1, .int .i64 b.2] 30)) (.cells #[.int .i64 s.1, .int .i64 s.2] 24)
      have k4 := heap_alloc_new (((w.alloc (.cells #[.int .i64 a.1, .int .i64 a.2] 30)).alloc (.cells #[.int .i64 b.1, .int .i64 b.2] 30)).alloc (.cells #[.int .i64 s.1, .int .i64 s.2] 24)) (.cells #[.int .i64 t.1, .int .i64 t.2] 24)
      simp only [World.size_alloc] at k2 k3 k4
      rw [hW0]
      refine ⟨(Below.heap_alloc _ _ _ (by simp; omega)).trans ((Below.heap_alloc _ _ _ (by simp; omega)).trans ((Below.heap_alloc _ _ _ (by simp)).trans k1)), (Below.heap_alloc _ _ _ (by simp)).trans ((Below.heap_alloc _ _ _ (by simp)).trans k2), (Below.heap_alloc _ _ _ (by simp)).trans k3, k4⟩)
    go_enter Try.func7, Try.ntmps7
    go_wp2_with fail
    rw [← hW0]
    clear hW0
    refine (newT_any W0).mono ?_
    rintro e w1 ⟨p, rfl, h1, hb1⟩
    have H1 := Lib.hid (show Tab w1 p (fun k => k < w.heap.size + 4) [] from h1.less fun k hk => by rw [hz]; exact hk)
    have HX1 := Lib.hid (HX0.out.below hb1)
    have HB1 := Lib.hid (HB0.out.trans (hb1.mono HB0.out.size))
    have hs1 := HB1.out.size
    clear h1 hb1 hz
    obtain ⟨⟨a0, a1⟩, ⟨b0, b1⟩, ⟨c0, c1⟩, d0, d1⟩ := HX1.out.cells
    go_upto_region 4 with fail
    go_region_held3 (fun W => (W.cell? ⟨w.heap.size, 0, none⟩ = some (.int .i64 a.1) ∧ W.cell? ⟨w.heap.size, 1, none⟩ = some (.int .i64 a.2)) ∧ (W.cell? ⟨w.heap.size + 1, 0, none⟩ = some (.int .i64 b.1) ∧ W.cell? ⟨w.heap.size + 1, 1, none⟩ = some (.int .i64 b.2)) ∧ W.cell? ⟨w.heap.size + 1 + 1, 0, none⟩ = some (.int .i64 s.1) ∧ W.cell? ⟨w.heap.size + 1 + 1, 1, none⟩ = some (.int .i64 s.2))
      (first
        | exact ⟨⟨a0, a1⟩, ⟨b0, b1⟩, c0, c1⟩
        | exact ⟨HX2.out.cells.1, HX2.out.cells.2.1, HX2.out.cells.2.2.1⟩
        | exact ⟨HX3.out.cells.1, HX3.out.cells.2.1, HX3.out.cells.2.2.1⟩)
      (first
        | (go_at_call 11; (with_reducible refine (putT_any a s (H1.out.below (Below.refl _ _).drew) (by decide) WA.out WS.out).mono ?_); rintro e w2 ⟨rfl, h2, hs2⟩; rw [E1.out]; rw [Q1.out] at h2; have H2 := Lib.hid h2; have HX2 := Lib.hid ((HX1.out.below (Below.refl _ _).drew).safe hs2); have HB2 := Lib.hid (HB1.out.drew.trans (Safe.below hs2 (fun i hi => (by omega : i < w.heap.size + 4)) hs1)); have hs2' := HB2.out.size; clear h2 hs2)
        | (go_at_call 11; (with_reducible refine (putT_any b s H2.out (by simp) WB.out WS.out).mono ?_); rintro e w3 ⟨rfl, h3, hs3⟩; rw [E2.out]; rw [Q2.out] at h3; have H3 := Lib.hid h3; have HX3 := Lib.hid (HX2.out.safe hs3); have HB3 := Lib.hid (HB2.out.trans (Safe.below hs3 (fun i hi => (by omega : i < w.heap.size + 4)) hs2')); clear h3 hs3))
    clear a0 a1 b0 b1 c0 c1 d0 d1
    obtain ⟨⟨a0, a1⟩, ⟨b0, b1⟩, ⟨c0, c1⟩, d0, d1⟩ := HX3.out.cells
    go_wp2_with fail
    refine (putT_any a t H3.out (by simp) WA.out WT.out).mono ?_
    rintro e w4 ⟨rfl, h4, hs4⟩
    rw [E3.out]
    rw [Q3.out] at h4
    have H4 := Lib.hid h4
    have HX4 := Lib.hid (HX3.out.safe hs4)
    have HB4 := Lib.hid (HB3.out.trans (Safe.below hs4 (fun i hi => (by omega : i < w.heap.size + 4)) HB3.out.size))
    clear h4 hs4
    clear a0 a1 b0 b1 c0 c1 d0 d1
    obtain ⟨⟨a0, a1⟩, ⟨b0, b1⟩, ⟨c0, c1⟩, d0, d1⟩ := HX4.out.cells
    go_wp2_with fail
    refine (putT_any b s H4.out (by simp) WB.out WS.out).mono ?_
    rintro e w5 ⟨rfl, h5, hs5⟩
    rw [E4.out]
    rw [Q4.out] at h5
    have H5 := Lib.hid h5
    have HX5 := Lib.hid (HX4.out.safe hs5)
    have HB5 := Lib.hid (HB4.out.trans (Safe.below hs5 (fun i hi => (by omega : i < w.heap.size + 4)) HB4.out.size))
    clear h5 hs5
    clear a0 a1 b0 b1 c0 c1 d0 d1
    obtain ⟨⟨a0, a1⟩, ⟨b0, b1⟩, ⟨c0, c1⟩, d0, d1⟩ := HX5.out.cells
    go_wp2_with fail
    refine (putT_any a s H5.out (by simp) WA.out WS.out).mono ?_
    rintro e w6 ⟨rfl, h6, hs6⟩
    rw [E5.out]
    rw [Q5.out] at h6
    have H6 := Lib.hid h6
    have HX6 := Lib.hid (HX5.out.safe hs6)
    have HB6 := Lib.hid (HB5.out.trans (Safe.below hs6 (fun i hi => (by omega : i < w.heap.size + 4)) HB5.out.size))
    clear h6 hs6
    clear a0 a1 b0 b1 c0 c1 d0 d1
    obtain ⟨⟨a0, a1⟩, ⟨b0, b1⟩, ⟨c0, c1⟩, d0, d1⟩ := HX6.out.cells
    go_wp2_with fail
    refine (cutT_any b H6.out (by simp) WB.out).mono ?_
    rintro e w7 ⟨rfl, h7, hs7⟩
    rw [E6.out]
    rw [Q6.out] at h7
    have H7 := Lib.hid h7
    have HX7 := Lib.hid (HX6.out.safe hs7)
    have HB7 := Lib.hid (HB6.out.trans (Safe.below hs7 (fun i hi => (by omega : i < w.heap.size + 4)) HB6.out.size))
    clear h7 hs7
    clear a0 a1 b0 b1 c0 c1 d0 d1
    obtain ⟨⟨a0, a1⟩, ⟨b0, b1⟩, ⟨c0, c1⟩, d0, d1⟩ := HX7.out.cells
    go_wp2_with fail
    refine (putT_any a s H7.out (by simp) WA.out WS.out).mono ?_
    rintro e w8 ⟨rfl, h8, hs8⟩
    rw [E7.out]
    rw [Q7.out] at h8
    have H8 := Lib.hid h8
    have HX8 := Lib.hid (HX7.out.safe hs8)
    have HB8 := Lib.hid (HB7.out.trans (Safe.below hs8 (fun i hi => (by omega : i < w.heap.size + 4)) HB7.out.size))
    clear h8 hs8
    clear a0 a1 b0 b1 c0 c1 d0 d1
    obtain ⟨⟨a0, a1⟩, ⟨b0, b1⟩, ⟨c0, c1⟩, d0, d1⟩ := HX8.out.cells
    go_wp2_with fail
    refine (atT_any a H8.out (by simp) WA.out).mono ?_
    rintro e w9 ⟨rfl, hb9⟩
    rw [E8.out]
    have H9 := Lib.hid (H8.out.below hb9)
    have HX9 := Lib.hid (HX8.out.below hb9)
    have HB9 := Lib.hid (HB8.out.trans (hb9.mono HB8.out.size))
    have hb10 := (Below.refl w9.heap.size w9).alloc (Nat.le_refl _) (.cells #[.int .i64 s.1, .int .i64 s.2] 24)
    have HY10 := Lib.hid (heap_alloc_new w9 (.cells #[.int .i64 s.1, .int .i64 s.2] 24))
    have H10 := Lib.hid (H9.out.below hb10)
    have HX10 := Lib.hid (HX9.out.below hb10)
    have HB10 := Lib.hid (HB9.out.trans (hb10.mono HB9.out.size))
    clear hb9 hb10
    clear a0 a1 b0 b1 c0 c1 d0 d1
    obtain ⟨⟨a0, a1⟩, ⟨b0, b1⟩, ⟨c0, c1⟩, d0, d1⟩ := HX10.out.cells
    simp only [Option.getD_some, Option.isSome_some]
    go_wp2_with fail
    refine (onT_any t H10.out (by simp) WT.out).mono ?_
    rintro e w11 ⟨rfl, hb11⟩
    rw [E9.out]
    simp only [Option.getD_none, Option.isSome_none]
    have H11 := Lib.hid (H10.out.below hb11)
    have HX11 := Lib.hid (HX10.out.below hb11)
    have HY11 := Lib.hid ((hb11.block _ (lt_size HY10.out)).trans HY10.out)
    have HB11 := Lib.hid (HB10.out.trans (hb11.mono HB10.out.size))
    have hb12 := (Below.refl w11.heap.size w11).alloc (Nat.le_refl _) (.cells #[.int .i64 0, .int .i64 0] 30)
    have H12 := Lib.hid (H11.out.below hb12)
    have HX12 := Lib.hid (HX11.out.below hb12)
    have HB12 := Lib.hid (HB11.out.trans (hb12.mono HB11.out.size))
    obtain ⟨y0, y1⟩ := cells2p ((hb12.block _ (lt_size HY11.out)).trans HY11.out)
    clear hb11 hb12
    clear a0 a1 b0 b1 c0 c1 d0 d1
    obtain ⟨⟨a0, a1⟩, ⟨b0, b1⟩, ⟨c0, c1⟩, d0, d1⟩ := HX12.out.cells
    go_wp2_with (first
      | (go_at_call 14; refine (lenT_any H12.out (by simp)).mono ?_; rintro e w13 ⟨rfl, hb13⟩; have HB13 := Lib.hid (HB12.out.trans (hb13.mono HB12.out.size)); clear hb13)
      | (go_at_call 8; refine (awake_any _).mono ?_; rintro e w14 ⟨rfl, hb14⟩; have HB14 := Lib.hid (HB13.out.trans (hb14.mono HB13.out.size)); clear hb14))
    go_ret
    exact ⟨rfl, HB14.out⟩
  · clear ha hb hs ht
    by_cases hab : a = b
    · subst hab
      have q1 : ∀ W : World, Sem.run Try.prog (binOp BinOp.eql 30 (.agg #[.int .i64 a.1, .int .i64 a.2]) (.agg #[.int .i64 a.1, .int .i64 a.2])) W = .ok (.bool true) W := fun W => by
          have := eql_ref a a W
          rwa [decide_eq_true rfl] at this
      clear hc
      go_enter Try.func7, Try.ntmps7
      go_wp2_with (go_at_call 8; refine (awake_any _).mono ?_; rintro e w1 ⟨rfl, hb1⟩)
      go_ret
      exact ⟨rfl, ((((((Below.refl _ w).alloc (Nat.le_refl _) _).alloc (by simp) _).alloc (by simp; omega) _).alloc (by simp; omega) _).trans (hb1.mono (by simp; omega)))⟩
    have q1 : ∀ W : World, Sem.run Try.prog (binOp BinOp.eql 30 (.agg #[.int .i64 a.1, .int .i64 a.2]) (.agg #[.int .i64 b.1, .int .i64 b.2])) W = .ok (.bool false) W := fun W => by
        have := eql_ref a b W
        rwa [decide_eq_false hab] at this
    by_cases hst : s = t
    · subst hst
      clear hab hc
      have q2 : ∀ W : World, Sem.run Try.prog (binOp BinOp.eql 24 (.agg #[.int .i64 s.1, .int .i64 s.2]) (.agg #[.int .i64 s.1, .int .i64 s.2])) W = .ok (.bool true) W := fun W => by
          have := eql_spot s s W
          rwa [decide_eq_true rfl] at this
      go_enter Try.func7, Try.ntmps7
      go_wp2_with (go_at_call 8; refine (awake_any _).mono ?_; rintro e w1 ⟨rfl, hb1⟩)
      go_ret
      exact ⟨rfl, ((((((Below.refl _ w).alloc (Nat.le_refl _) _).alloc (by simp) _).alloc (by simp; omega) _).alloc (by simp; omega) _).trans (hb1.mono (by simp; omega)))⟩
    have q2 : ∀ W : World, Sem.run Try.prog (binOp BinOp.eql 24 (.agg #[.int .i64 s.1, .int .i64 s.2]) (.agg #[.int .i64 t.1, .int .i64 t.2])) W = .ok (.bool false) W := fun W => by
        have := eql_spot s t W
        rwa [decide_eq_false hst] at this
    have hr : s.1 < 0 ∨ (0 ≤ s.1 ∧ s.2 < 0) ∨ (0 ≤ s.1 ∧ 0 ≤ s.2 ∧ t.1 < 0) ∨ (0 ≤ s.1 ∧ 0 ≤ s.2 ∧ 0 ≤ t.1 ∧ t.2 < 0) := by
      have : ¬ (0 ≤ s.1 ∧ 0 ≤ s.2 ∧ 0 ≤ t.1 ∧ 0 ≤ t.2) := fun h => hc ⟨hab, hst, h⟩
      omega
    clear hab hst hc
    rcases hr with k1 | ⟨k1, k2⟩ | ⟨k1, k2, k3⟩ | ⟨k1, k2, k3, k4⟩
    all_goals
      go_enter Try.func7, Try.ntmps7
      go_wp2_with (go_at_call 8; refine (awake_any _).mono ?_; rintro e w1 ⟨rfl, hb1⟩)
      go_ret
      exact ⟨rfl, ((((((Below.refl _ w).alloc (Nat.le_refl _) _).alloc (by simp) _).alloc (by simp; omega) _).alloc (by simp; omega) _).trans (hb1.mono (by simp; omega)))⟩
end Go.Proofs.Ytbebbnkolpgndaa
