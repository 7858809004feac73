/- The reference's ParseSheet: the same answers as Parse's. -/
import Derived.Test.YtfjijpejoocngaaRefSheet
namespace Go.Proofs.Ytfjijpejoocngaa
open Go.RowKit

set_option maxRecDepth 100000 in
set_option maxHeartbeats 2000000 in
theorem refparse_sheet (B : Nat) (A : Option Addr) (c : Nat) (l : List UInt8) (w : World) (h : RB w B A l) (hB : B ≤ w.heap.size) (hcl : l.length ≤ c) (hl : l.length ≤ 70368744177664) :
    Calls Try.prog 14 #[.slice A l.length c] w (ParsePost l w) := by
  obtain ⟨p, l1, er1, e1⟩ : ∃ p l1 er1, numStep (l, 0) 60 = (p, (l1, er1)) := ⟨_, _, _, rfl⟩
  obtain ⟨s, l2, er2, e2⟩ : ∃ s l2 er2, numStep (l1, er1) 1099511627776 = (s, (l2, er2)) := ⟨_, _, _, rfl⟩
  obtain ⟨d, l3, er3, e3⟩ : ∃ d l3 er3, textStep (l2, er2) 2000 = (d, (l3, er3)) := ⟨_, _, _, rfl⟩
  have E1 := Lib.hid e1
  have E2 := Lib.hid e2
  have E3 := Lib.hid e3
  have hno := Lib.hid (fun hn => no_sheet (l := l) (d := d) (p := p) (s := s) e1 e2 e3 hn)
  have hba := Lib.hid (fun he => steps_back (l := l) (d := d) (p := p) (s := s) e1 e2 e3 he)
  clear e1 e2 e3
  obtain ⟨W1, hW1⟩ : ∃ W1, W1 = (w.alloc (.cells #[.int .i64 0, .int .i64 0, .slice none 0 0] 24)).alloc (.cells #[.slice A l.length c, .int .i64 0] 55) := ⟨_, rfl⟩
  have hz1 : W1.heap.size = w.heap.size + 2 := by rw [hW1]; simp
  have HB1 : Hid (Below w.heap.size w W1) := by rw [hW1]; exact ((Below.refl _ _).alloc (Nat.le_refl _) _).alloc (by simp) _
  have A1 : Hid (W1.heap[w.heap.size]? = some (.cells #[.int .i64 0, .int .i64 0, .slice none 0 0] 24 (0, 0))) := by rw [hW1]; exact (Below.heap_alloc _ _ _ (by simp)).trans (heap_alloc_new w _)
  have HR1 : Hid (RD 55 W1 (w.heap.size + 1) w.heap.size l 0) := ⟨A, c, by rw [hW1]; exact heap_alloc2_new w _ _, (h.below HB1.out hB).mono hB, hcl, by omega, hl⟩
  obtain ⟨q, hq⟩ : ∃ q, q = w.heap.size + 1 := ⟨_, rfl⟩
  rw [← hq] at HR1
  go_enter Try.func14, Try.ntmps14
  go_wp2_with fail
  rw [← hW1, ← hq]
  refine (refnumber_any q w.heap.size l 0 60 _ HR1.out).mono ?_
  rintro e w2 ⟨rfl, hrd2, ht2⟩
  rw [E1.out] at hrd2 ⊢
  have HR2 := Lib.hid hrd2
  have hs2 := ht2.size
  have HB2 := Lib.hid (HB1.out.trans (ht2.below (by omega) HB1.out.size))
  have A2 := Lib.hid ((ht2.block w.heap.size (by omega) (by omega)).trans A1.out)
  clear hrd2 ht2
  go_wp2_with fail
  rw [← hq]
  refine (refnumber_any q w.heap.size l1 er1 1099511627776 _ HR2.out).mono ?_
  rintro e w3 ⟨rfl, hrd3, ht3⟩
  rw [E2.out] at hrd3 ⊢
  have HR3 := Lib.hid hrd3
  have hs3 := ht3.size
  have HB3 := Lib.hid (HB2.out.trans (ht3.below (by omega) HB2.out.size))
  have A3 := Lib.hid ((ht3.block w.heap.size (by omega) (by omega)).trans A2.out)
  clear hrd3 ht3
  go_wp2_with fail
  rw [← hq]
  refine (reftext_any q w.heap.size l2 er2 2000 _ HR3.out).mono ?_
  rintro e w4 ⟨A4, c4, L4, rfl, hL4, hr4, hn4, hrd4, ht4⟩
  rw [E3.out] at hL4 hrd4
  obtain rfl : L4 = d := hL4.out
  obtain ⟨A5, c5, hp5, hr5, hc5, _, _⟩ := hrd4
  have HR4 := Lib.hid hr5
  have HS4 := Lib.hid hr4
  have HN4 := Lib.hid hn4
  have hs4 := ht4.size
  have HB4 := Lib.hid (HB3.out.trans (ht4.below (by omega) HB3.out.size))
  have A4' := Lib.hid ((ht4.block w.heap.size (by omega) (by omega)).trans A3.out)
  have hql : q < w4.heap.size := lt_size hp5
  obtain ⟨g0, g1, _, _⟩ := cells2 ((Below.heap_alloc w4 (.cells #[.int .i64 p, .int .i64 s, .slice A4 L4.length c4] 24) q hql).trans hp5)
  have A5' := Lib.hid ((Below.heap_alloc w4 (.cells #[.int .i64 p, .int .i64 s, .slice A4 L4.length c4] 24) w.heap.size (by omega)).trans A4'.out)
  have T5 := Lib.hid (heap_alloc_new w4 (.cells #[.int .i64 p, .int .i64 s, .slice A4 L4.length c4] 24))
  have HB5 := Lib.hid (HB4.out.alloc (by omega) (.cells #[.int .i64 p, .int .i64 s, .slice A4 L4.length c4] 24))
  have HS5 := Lib.hid (HS4.out.alloc (Nat.le_refl _) (.cells #[.int .i64 p, .int .i64 s, .slice A4 L4.length c4] 24))
  have HR5 := Lib.hid (HR4.out.alloc (by omega) (.cells #[.int .i64 p, .int .i64 s, .slice A4 L4.length c4] 24))
  obtain ⟨f0, f1, f2⟩ := cells3 A5'.out
  have fz0 := frozen3 A5'.out 0
  have fz1 := frozen3 A5'.out 1
  have fz2 := frozen3 A5'.out 2
  clear hL4 hr4 hn4 ht4 hr5 hp5
  rw [hq] at g0 g1
  clear hW1
  by_cases he : er3 = 0
  · subst he
    obtain ⟨P, S, rfl, rfl, hlq, hP, hS, hd⟩ := hba.out rfl
    by_cases hl3 : l3.length = 1
    · obtain ⟨x, rfl⟩ : ∃ x, l3 = [x] := List.length_eq_one_iff.1 hl3
      have Hlq := Lib.hid hlq
      obtain ⟨ad, rfl, hadb, hcell⟩ := HR5.out (by simp)
      have hc := hcell 0 (by simp)
      simp only [List.getElem_cons_zero] at hc
      rw [show ad.add 0 = ad from rfl] at hc
      clear hcell hlq hl3 hba
      by_cases hx : x = 90
      · subst hx
        rw [show ub 90 = Value.int .u8 90 from rfl] at hc
        obtain ⟨t0, t1, t2⟩ := cells3 T5.out
        by_cases hM : MayS (P : Int) (S : Int) L4
        · have HM := Lib.hid hM
          clear hM hno
          go_wp2_with fail
          refine (maysheet_any w4.heap.size _ _ _ _ _ _ HS5.out (by simp)).mono ?_
          rintro e w6 ⟨rfl, hb6⟩
          rw [decide_eq_true HM.out]
          have s6 := hb6.size
          have HB6 := Lib.hid (HB5.out.trans (hb6.mono (by have := HB4.out.size; simp; omega)))
          have HS6 := Lib.hid (HS5.out.below hb6 (by simp))
          have A6 := (hb6.block w.heap.size (lt_size A5'.out)).trans A5'.out
          have T6 := (hb6.block w4.heap.size (lt_size T5.out)).trans T5.out
          have A6H := Lib.hid A6
          have fz60 := frozen3 A6 0
          have fz61 := frozen3 A6 1
          have fz62 := frozen3 A6 2
          obtain ⟨g3, g4, g5⟩ := cells3 A6
          obtain ⟨g6, g7, g8⟩ := cells3 T6
          clear A6 T6 hb6 g0 g1 f0 f1 f2 fz0 fz1 fz2 t0 t1 t2 hc
          go_wp2
          refine bodyPost_ret (results_pair rfl _ _ w.heap.size _ _ rfl rfl (load_sheet (block_set3 A6H.out))) rfl ?_
          have hfar : ∀ a', A4 = some a' → 0 < L4.length → a'.block ≠ w.heap.size := fun a' e _ => (by have := HN4.out a' e; omega)
          have hsz : w4.heap.size ≤ w6.heap.size := by simp at s6; omega
          refine ⟨((HB6.out.setCell (Nat.le_refl _) _).setCell (Nat.le_refl _) _).setCell (Nat.le_refl _) _, .inl ⟨P, S, A4, c4, L4, ?_, HM, ?_, rfl⟩⟩
          · show l = _
            rw [Hlq.out]; rfl
          · exact (((HS6.out.setFar hfar _).setFar hfar _).setFar hfar _).mono (by simp; omega)
        · have HM := Lib.hid hM
          have HNO := Lib.hid (hno.out fun h => hM h.2.2)
          clear hM hno
          go_wp2_with fail
          refine (maysheet_any w4.heap.size _ _ _ _ _ _ HS5.out (by simp)).mono ?_
          rintro e w6 ⟨rfl, hb6⟩
          rw [decide_eq_false HM.out]
          have HB6 := Lib.hid (HB5.out.trans (hb6.mono (by have := HB4.out.size; simp; omega)))
          have A6 := (hb6.block w.heap.size (lt_size A5'.out)).trans A5'.out
          have A6H := Lib.hid A6
          have fz60 := frozen3 A6 0
          have fz61 := frozen3 A6 1
          have fz62 := frozen3 A6 2
          obtain ⟨g3, g4, g5⟩ := cells3 A6
          clear A6 hb6 g0 g1 f0 f1 f2 fz0 fz1 fz2 t0 t1 t2 hc
          go_wp2
          refine bodyPost_ret (results_pair rfl _ _ w.heap.size _ _ rfl rfl (load_sheet (block_set3 A6H.out))) rfl ?_
          exact ⟨((HB6.out.setCell (Nat.le_refl _) _).setCell (Nat.le_refl _) _).setCell (Nat.le_refl _) _, .inr ⟨HNO, rfl⟩⟩
      · have hc' : ∃ z : Int, ub x = Value.int .u8 z ∧ (z == 90) = false := ⟨x.toNat, rfl, by
          have : x.toNat ≠ 90 := fun e => hx (UInt8.toNat.inj e)
          simp; omega⟩
        obtain ⟨z, hz1', hz2⟩ := hc'
        rw [hz1'] at hc
        have HNO := Lib.hid (hno.out fun h => hx (by simpa using h.1))
        clear hno hz1'
        go_wp2_with fail
        · exact absurd (by assumption : z = 90) (by simpa using hz2)
        refine bodyPost_ret (results_pair rfl _ _ w.heap.size _ _ rfl rfl (load_sheet (block_set3 A5'.out))) rfl ?_
        exact ⟨((HB5.out.setCell (Nat.le_refl _) _).setCell (Nat.le_refl _) _).setCell (Nat.le_refl _) _, .inr ⟨HNO, rfl⟩⟩
    · have HNO := Lib.hid (hno.out fun h => hl3 (by rw [h.1]; rfl))
      have hl3' : ((l3.length : Int) == 1) = false := by simp; omega
      clear hno hba
      go_wp2_with fail
      refine bodyPost_ret (results_pair rfl _ _ w.heap.size _ _ rfl rfl (load_sheet (block_set3 A5'.out))) rfl ?_
      exact ⟨((HB5.out.setCell (Nat.le_refl _) _).setCell (Nat.le_refl _) _).setCell (Nat.le_refl _) _, .inr ⟨HNO, rfl⟩⟩
  · have HNO := Lib.hid (hno.out fun h => he h.2.1)
    have he' : (er3 == 0) = false := by simpa using he
    clear hno hba
    go_wp2_with fail
    refine bodyPost_ret (results_pair rfl _ _ w.heap.size _ _ rfl rfl (load_sheet (block_set3 A5'.out))) rfl ?_
    exact ⟨((HB5.out.setCell (Nat.le_refl _) _).setCell (Nat.le_refl _) _).setCell (Nat.le_refl _) _, .inr ⟨HNO, rfl⟩⟩
end Go.Proofs.Ytfjijpejoocngaa
