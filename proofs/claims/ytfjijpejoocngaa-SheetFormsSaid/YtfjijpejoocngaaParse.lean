/- Package sheet: Parse: the sheet whose bytes these are, or none. -/
import Derived.Test.YtfjijpejoocngaaSheet
namespace Go.Proofs.Ytfjijpejoocngaa
open Go.RowKit

theorem numStep_ok {s : RS} {most n : Int} {t : RS} (h : numStep s most = (n, t)) (ht : t.2 = 0) : s.2 = 0 ∧ ∃ N : Nat, n = (N : Int) ∧ s.1 = numL N ++ t.1 ∧ (N : Int) ≤ most := by
  obtain ⟨l, er⟩ := s
  unfold numStep at h
  by_cases he : er = 0
  · rw [if_neg (by simpa using he)] at h
    cases hr : readL l most with
    | none => rw [hr] at h; cases h; exact absurd ht (by simp)
    | some x =>
      obtain ⟨a, k⟩ := x
      obtain ⟨_, _, _, h1, h2, _⟩ := read_back l most a k hr
      rw [hr] at h
      cases h
      exact ⟨he, a, rfl, by rw [← h1, List.take_append_drop], h2⟩
  · rw [if_pos (by simpa using he)] at h
    cases h
    exact absurd ht he
theorem textStep_ok {s : RS} {most : Int} {L : List UInt8} {t : RS} (h : textStep s most = (L, t)) (ht : t.2 = 0) : s.2 = 0 ∧ s.1 = numL L.length ++ L ++ t.1 ∧ (L.length : Int) ≤ most := by
  obtain ⟨l, er⟩ := s
  unfold textStep at h
  by_cases he : er = 0
  · rw [if_neg (by simpa using he)] at h
    cases hr : readL l most with
    | none => rw [hr] at h; cases h; exact absurd ht (by simp)
    | some x =>
      obtain ⟨a, k⟩ := x
      obtain ⟨_, _, _, h1, h2, _⟩ := read_back l most a k hr
      rw [hr] at h
      simp only at h
      split at h
      · cases h; exact absurd ht (by simp)
      · rename_i hlk
        cases h
        have hl : ((l.drop k).take a).length = a := by simp; omega
        refine ⟨he, ?_, by rw [hl]; exact h2⟩
        rw [hl, ← h1, List.append_assoc]
        simp only
        rw [show l.drop (k + a) = (l.drop k).drop a by rw [List.drop_drop], List.take_append_drop, List.take_append_drop]
  · rw [if_pos (by simpa using he)] at h
    cases h
    exact absurd ht he
/-- What the three steps come to, and what is left. -/
theorem steps_back {l d : List UInt8} {p s : Int} {r1 r2 r3 : RS} (h1 : numStep (l, 0) 60 = (p, r1)) (h2 : numStep r1 1099511627776 = (s, r2)) (h3 : textStep r2 2000 = (d, r3)) (he : r3.2 = 0) :
    ∃ P S : Nat, p = (P : Int) ∧ s = (S : Int) ∧ l = numL P ++ numL S ++ numL d.length ++ d ++ r3.1 ∧ P ≤ 60 ∧ S ≤ 1099511627776 ∧ d.length ≤ 2000 := by
  obtain ⟨e2, x3, y3⟩ := textStep_ok h3 he
  obtain ⟨e1, S, rfl, x2, y2⟩ := numStep_ok h2 e2
  obtain ⟨_, P, rfl, x1, y1⟩ := numStep_ok h1 e1
  refine ⟨P, S, rfl, rfl, ?_, by omega, by omega, by omega⟩
  simp only at x1
  rw [x1, x2, x3]
  simp only [List.append_assoc]
theorem steps_sheet (P S : Nat) (d t : List UInt8) (hP : P ≤ 60) (hS : S ≤ 1099511627776) (hd : d.length ≤ 2000) :
    numStep (numL P ++ numL S ++ numL d.length ++ d ++ t, 0) 60 = ((P : Int), (numL S ++ (numL d.length ++ d ++ t), 0)) ∧ numStep (numL S ++ (numL d.length ++ d ++ t), 0) 1099511627776 = ((S : Int), (numL d.length ++ d ++ t, 0)) ∧ textStep (numL d.length ++ d ++ t, 0) 2000 = (d, (t, 0)) := by
  refine ⟨?_, ?_, ?_⟩
  · have := numStep_num P (numL S ++ (numL d.length ++ d ++ t)) 60 (by omega) (by omega)
    rw [← this]
    simp only [List.append_assoc]
  · exact numStep_num S _ _ (by omega) (by omega)
  · exact textStep_text d t 2000 (by omega) (by omega)
/-- The bytes l are no sheet's. -/
def NoSheet (l : List UInt8) : Prop := ∀ (p s : Int) (d : List UInt8), MayS p s d → l ≠ sheetL p.toNat s.toNat d
theorem no_sheet {l d : List UInt8} {p s : Int} {r1 r2 r3 : RS} (h1 : numStep (l, 0) 60 = (p, r1)) (h2 : numStep r1 1099511627776 = (s, r2)) (h3 : textStep r2 2000 = (d, r3)) (hn : ¬ (r3.1 = [90] ∧ r3.2 = 0 ∧ MayS p s d)) : NoSheet l := by
  intro p' s' d' hM hl
  apply hn
  obtain ⟨⟨a1, a2⟩, ⟨b1, b2⟩, c1, _⟩ := id hM
  obtain ⟨x1, x2, x3⟩ := steps_sheet p'.toNat s'.toNat d' [90] (by omega) (by omega) c1
  subst hl
  unfold sheetL at h1
  rw [x1] at h1
  cases h1
  rw [x2] at h2
  cases h2
  rw [x3] at h3
  cases h3
  rw [Int.toNat_of_nonneg a1, Int.toNat_of_nonneg (by omega)]
  exact ⟨rfl, rfl, hM⟩
/-- A sheet has one p, one s, one d. -/
theorem sheet_inj {p s p' s' : Int} {d d' : List UInt8} (h : MayS p s d) (h' : MayS p' s' d') (e : sheetL p.toNat s.toNat d = sheetL p'.toNat s'.toNat d') : p = p' ∧ s = s' ∧ d = d' := by
  obtain ⟨⟨a1, a2⟩, ⟨b1, b2⟩, c1, _⟩ := id h
  obtain ⟨⟨a1', a2'⟩, ⟨b1', b2'⟩, c1', _⟩ := id h'
  obtain ⟨x1, x2, x3⟩ := steps_sheet p.toNat s.toNat d [90] (by omega) (by omega) c1
  obtain ⟨y1, y2, y3⟩ := steps_sheet p'.toNat s'.toNat d' [90] (by omega) (by omega) c1'
  unfold sheetL at e
  rw [e, y1] at x1
  injection x1 with e1 e2
  rw [← e2, y2] at x2
  injection x2 with e3 e4
  rw [← e4, y3] at x3
  injection x3 with e5 e6
  exact ⟨by omega, by omega, e5.symm⟩
/-- What Parse tells. -/
def ParsePost (l : List UInt8) (w : World) (e : Ending) (w' : World) : Prop :=
  Below w.heap.size w w' ∧ ((∃ (p s : Int) (A : Option Addr) (c : Nat) (d : List UInt8), Hid (l = sheetL p.toNat s.toNat d) ∧ Hid (MayS p s d) ∧ RB w' w'.heap.size A d ∧ e = .returned (.tuple #[.agg #[.int .i64 p, .int .i64 s, .slice A d.length c], .int .i64 0]))
    ∨ (Hid (NoSheet l) ∧ e = .returned (.tuple #[.agg #[.int .i64 0, .int .i64 0, .slice none 0 0], .int .i64 5])))
theorem last_is {l d : List UInt8} {P S : Nat} {x : UInt8} (h : l = numL P ++ numL S ++ numL d.length ++ d ++ [x]) : 1 ≤ l.length ∧ ∀ hk, l[l.length - 1]'hk = x := by
  subst h
  refine ⟨by simp; omega, fun hk => ?_⟩
  rw [List.getElem_append_right (by simp; omega)]
  simp
theorem load_sheet {w : World} {q : Nat} {x y z : Value} {t : TypeId} (h : w.heap[q]? = some (.cells #[x, y, z] t (0, 0))) : (loadVar 24 ⟨q, 0, none⟩).run Try.prog w = .ok (.agg #[x, y, z]) w :=
  run_loadVar_row w q _ _ _ _ _ h Try.underlying24 rfl (by kernel_rfl)
theorem results_pair {fn : Func} {p u : Tmp} {ty : TypeId} (h : fn.results = #[.cell p ty, .tmp u]) (tmps : Array Value) (w : World) (g : Nat) (v x : Value)
    (hp : tmps.getD p undef = .pointer (some ⟨g, 0, none⟩)) (hu : tmps.getD u undef = x) (hl : (loadVar ty ⟨g, 0, none⟩).run Try.prog w = .ok v w) :
    (results fn tmps).run Try.prog w = .ok (.tuple #[v, x]) w := by
  rw [results_cell_tmp h, hp, hu]
  simp [asAddr, hl, Result.andThen]
theorem block_set3 {w : World} {q : Nat} {a b c x y z : Value} {t : TypeId} (h : w.heap[q]? = some (.cells #[a, b, c] t (0, 0))) : (((w.setCell ⟨q, 0, none⟩ x).setCell ⟨q, 1, none⟩ y).setCell ⟨q, 2, none⟩ z).heap[q]? = some (.cells #[x, y, z] t (0, 0)) := by
  obtain ⟨hlt, he⟩ := Array.getElem?_eq_some_iff.1 h
  simp [World.setCell, Array.getElem?_modify, h]
theorem frozen3 {w : World} {q : Nat} {cs : Array Value} {t : TypeId} (h : w.heap[q]? = some (.cells cs t (0, 0))) (k : Nat) : w.frozen? ⟨q, k, none⟩ = false := by
  simp [World.frozen?, h]
set_option maxRecDepth 100000 in
set_option maxHeartbeats 2000000 in
theorem parse_sheet (B : Nat) (A : Option Addr) (c : Nat) (l : List UInt8) (w : World) (h : RB w B A l) (hB : B ≤ w.heap.size) (hl : l.length ≤ 70368744177664) :
    Calls Try.prog 13 #[.slice A l.length c] w (ParsePost l w) := by
  obtain ⟨p, l1, er1, e1⟩ : ∃ p l1 er1, numStep (l, 0) 60 = (p, (l1, er1)) := ⟨_, _, _, rfl⟩
  obtain ⟨s, l2, er2, e2⟩ : ∃ s l2 er2, numStep (l1, er1) 1099511627776 = (s, (l2, er2)) := ⟨_, _, _, rfl⟩
  obtain ⟨d, l3, er3, e3⟩ : ∃ d l3 er3, textStep (l2, er2) 2000 = (d, (l3, er3)) := ⟨_, _, _, rfl⟩
  have E1 := Lib.hid e1
  have E2 := Lib.hid e2
  have E3 := Lib.hid e3
  have hno := Lib.hid (fun hn => no_sheet (l := l) (d := d) (p := p) (s := s) e1 e2 e3 hn)
  have hba := Lib.hid (fun he => steps_back (l := l) (d := d) (p := p) (s := s) e1 e2 e3 he)
  clear e1 e2 e3
  have h0 := Lib.hid (h.alloc hB (.cells #[.int .i64 0, .int .i64 0, .slice none 0 0] 24))
  have hal := Lib.hid (heap_alloc_new w (.cells #[.int .i64 0, .int .i64 0, .slice none 0 0] 24))
  go_enter Try.func13, Try.ntmps13
  go_wp2_with (first
    | (go_at_call 26; (with_reducible refine (new_any B A c l _ h0.out (by simp; omega) hl).mono ?_); rintro e w1 ⟨q, B1, rfl, hq, hrd, hB1, hb1⟩; have HB1 := Lib.hid (((Below.refl w.heap.size w).alloc (Nat.le_refl _) _).trans (hb1.mono (by simp))); have HR1 := Lib.hid hrd; have h1 := Lib.hid (h0.out.below hb1 (by simp; omega)); have A1 := Lib.hid ((hb1.block w.heap.size (by simp)).trans hal.out); have hq1 : w.heap.size < q := (by simp at hq; omega); have hq2 : B ≤ w1.heap.size := (by have := hb1.size; simp at this; omega); clear hrd hb1 hq hB1)
    | (go_at_call 28; (with_reducible refine (text_any q B1 l2 er2 2000 _ HR3.out).mono ?_); rintro e w4 ⟨A4, c4, L4, rfl, hL4, hr4, hn4, hrd4, ht4⟩; rw [E3.out] at hL4 hrd4; have HL4 := Lib.hid hL4.out; have HR4 := Lib.hid hrd4; have HS4 := Lib.hid hr4; have HN4 := Lib.hid hn4; have hs4 := ht4.size; have HB4 := Lib.hid (HB3.out.trans (ht4.below (by omega) HB3.out.size)); have A4' := Lib.hid ((ht4.block w.heap.size (by have := lt_size A3.out; omega) (by omega)).trans A3.out); have h4 := Lib.hid (h3.out.below (ht4.below (B := B) (by omega) (by omega)) (Nat.le_refl _)); clear hL4 hrd4 ht4 hr4 hn4)
    | (go_at_call 27; (with_reducible refine (number_any q B1 l1 er1 1099511627776 _ HR2.out).mono ?_); rintro e w3 ⟨rfl, hrd3, ht3⟩; rw [E2.out] at hrd3 ⊢; have HR3 := Lib.hid hrd3; have hs3 := ht3.size; have HB3 := Lib.hid (HB2.out.trans (ht3.below (by omega) HB2.out.size)); have A3 := Lib.hid ((ht3.block w.heap.size (by have := lt_size A2.out; omega) (by omega)).trans A2.out); have h3 := Lib.hid (h2.out.below (ht3.below (B := B) (by omega) (by omega)) (Nat.le_refl _)); clear hrd3 ht3)
    | (go_at_call 27; (with_reducible refine (number_any q B1 l 0 60 _ HR1.out).mono ?_); rintro e w2 ⟨rfl, hrd2, ht2⟩; rw [E1.out] at hrd2 ⊢; have HR2 := Lib.hid hrd2; have hs2 := ht2.size; have HB2 := Lib.hid (HB1.out.trans (ht2.below (by omega) HB1.out.size)); have A2 := Lib.hid ((ht2.block w.heap.size (by have := lt_size A1.out; omega) (by omega)).trans A1.out); have h2 := Lib.hid (h1.out.below (ht2.below (B := B) (by omega) (by omega)) (Nat.le_refl _)); clear hrd2 ht2)
    | fail)
  obtain ⟨f0, f1, f2⟩ := cells3 A4'.out
  have fz := frozen3 A4'.out
  have fz0 := fz 0
  have fz1 := fz 1
  have fz2 := fz 2
  clear fz
  have HE : ∀ W, Calls Try.prog 29 #[.pointer (some ⟨q, 0, none⟩)] w4 W = Calls Try.prog 29 #[.pointer (some ⟨q, 0, none⟩)] w4 W := fun _ => rfl
  clear HE
  by_cases he : er3 = 0
  · subst he
    obtain ⟨P, S, rfl, rfl, hlq, hP, hS, hd⟩ := hba.out rfl
    by_cases hl3 : l3.length = 1
    · obtain ⟨x, rfl⟩ : ∃ x, l3 = [x] := List.length_eq_one_iff.1 hl3
      obtain ⟨hl1, hlast⟩ := last_is hlq
      have Hlq := Lib.hid hlq
      obtain ⟨ad, rfl, hadb, hcell⟩ := h4.out (by omega)
      obtain ⟨m, hm⟩ : ∃ m : Nat, (l.length : Int) - 1 = (m : Int) := ⟨l.length - 1, by omega⟩
      have hml : m < l.length := by omega
      have hc := hcell m hml
      rw [show l[m] = x from (by have := hlast (by omega); rw [← this]; congr 1; omega)] at hc
      clear hcell hlast hlq hl3 hba
      by_cases hx : x = 90
      · subst hx
        rw [show ub 90 = Value.int .u8 90 from rfl] at hc
        by_cases hM : MayS (P : Int) (S : Int) d
        · have HM := Lib.hid hM
          clear hM hno
          obtain rfl := HL4.out
          go_wp2_with (first
            | (go_at_call 29; refine (err_any q B1 _ _ _ HR4.out).mono ?_; rintro e w' ⟨rfl, rfl⟩)
            | (go_at_call 30; refine (left_any q B1 _ _ _ HR4.out).mono ?_; rintro e w' ⟨rfl, rfl⟩)
            | fail)
          refine (may_any w4.heap.size _ _ _ _ _ _ (HS4.out.alloc (Nat.le_refl _) _) (by simp)).mono ?_
          rintro e w5 ⟨rfl, hb5⟩
          rw [decide_eq_true HM.out]
          have HB5 := Lib.hid ((HB4.out.alloc HB4.out.size _).trans (hb5.mono (by have := HB4.out.size; simp; omega)))
          have HS5 := Lib.hid ((HS4.out.alloc (Nat.le_refl _) _).below hb5 (by simp))
          have s5 := hb5.size
          have A5 := (hb5.block w.heap.size (by have := lt_size A4'.out; simp; omega)).trans ((Below.heap_alloc w4 _ _ (lt_size A4'.out)).trans A4'.out)
          have D5 := (hb5.block w4.heap.size (by simp)).trans (heap_alloc_new w4 _)
          have fz5 := frozen3 A5
          have f50 := fz5 0
          have f51 := fz5 1
          have f52 := fz5 2
          obtain ⟨g0, g1, g2⟩ := cells3 D5
          obtain ⟨g3, g4, g5⟩ := cells3 A5
          have A5H := Lib.hid A5
          clear A5 D5 fz5 hb5
          go_wp2
          refine bodyPost_ret (results_pair rfl _ _ w.heap.size _ _ rfl rfl (load_sheet (block_set3 A5H.out))) rfl ?_
          have hfar : ∀ a', A4 = some a' → 0 < L4.length → a'.block ≠ w.heap.size := fun a' e _ => (by have := HN4.out a' e; have := lt_size A3.out; omega)
          have hsz : w4.heap.size ≤ w5.heap.size := by simp at s5; omega
          refine ⟨((HB5.out.setCell (Nat.le_refl _) _).setCell (Nat.le_refl _) _).setCell (Nat.le_refl _) _, .inl ⟨P, S, A4, c4, L4, ?_, HM, ?_, rfl⟩⟩
          · show l = _
            rw [Hlq.out]; rfl
          · exact (((HS5.out.setFar hfar _).setFar hfar _).setFar hfar _).mono (by simp; omega)
        · have HM := Lib.hid hM
          have HNO := Lib.hid (hno.out fun h => hM h.2.2)
          clear hM hno
          obtain rfl := HL4.out
          go_wp2_with (first
            | (go_at_call 29; refine (err_any q B1 _ _ _ HR4.out).mono ?_; rintro e w' ⟨rfl, rfl⟩)
            | (go_at_call 30; refine (left_any q B1 _ _ _ HR4.out).mono ?_; rintro e w' ⟨rfl, rfl⟩)
            | fail)
          refine (may_any w4.heap.size _ _ _ _ _ _ (HS4.out.alloc (Nat.le_refl _) _) (by simp)).mono ?_
          rintro e w5 ⟨rfl, hb5⟩
          rw [decide_eq_false HM.out]
          have HB5 := Lib.hid ((HB4.out.alloc HB4.out.size _).trans (hb5.mono (by have := HB4.out.size; simp; omega)))
          have A5 := (hb5.block w.heap.size (by have := lt_size A4'.out; simp; omega)).trans ((Below.heap_alloc w4 _ _ (lt_size A4'.out)).trans A4'.out)
          have fz5 := frozen3 A5
          have f50 := fz5 0
          have f51 := fz5 1
          have f52 := fz5 2
          obtain ⟨g3, g4, g5⟩ := cells3 A5
          have A5H := Lib.hid A5
          clear A5 fz5 hb5
          go_wp2
          refine bodyPost_ret (results_pair rfl _ _ w.heap.size _ _ rfl rfl (load_sheet (block_set3 A5H.out))) rfl ?_
          exact ⟨((HB5.out.setCell (Nat.le_refl _) _).setCell (Nat.le_refl _) _).setCell (Nat.le_refl _) _, .inr ⟨HNO, rfl⟩⟩
      · have hc' : ∃ z : Int, ub x = Value.int .u8 z ∧ (z == 90) = false := ⟨x.toNat, rfl, by
          have : x.toNat ≠ 90 := fun e => hx (UInt8.toNat.inj e)
          simp; omega⟩
        obtain ⟨z, hz1, hz2⟩ := hc'
        rw [hz1] at hc
        have HNO := Lib.hid (hno.out fun h => hx (by simpa using h.1))
        clear hno hz1
        go_wp2_with (first
          | (go_at_call 29; refine (err_any q B1 _ _ _ HR4.out).mono ?_; rintro e w' ⟨rfl, rfl⟩)
          | (go_at_call 30; refine (left_any q B1 _ _ _ HR4.out).mono ?_; rintro e w' ⟨rfl, rfl⟩)
          | fail)
        refine bodyPost_ret (results_pair rfl _ _ w.heap.size _ _ rfl rfl (load_sheet (block_set3 A4'.out))) rfl ?_
        exact ⟨((HB4.out.setCell (Nat.le_refl _) _).setCell (Nat.le_refl _) _).setCell (Nat.le_refl _) _, .inr ⟨HNO, rfl⟩⟩
    · have HNO := Lib.hid (hno.out fun h => hl3 (by rw [h.1]; rfl))
      have hl3' : ((l3.length : Int) == 1) = false := by simp; omega
      clear hno hba
      go_wp2_with (first
        | (go_at_call 29; refine (err_any q B1 _ _ _ HR4.out).mono ?_; rintro e w' ⟨rfl, rfl⟩)
        | (go_at_call 30; refine (left_any q B1 _ _ _ HR4.out).mono ?_; rintro e w' ⟨rfl, rfl⟩)
        | fail)
      refine bodyPost_ret (results_pair rfl _ _ w.heap.size _ _ rfl rfl (load_sheet (block_set3 A4'.out))) rfl ?_
      exact ⟨((HB4.out.setCell (Nat.le_refl _) _).setCell (Nat.le_refl _) _).setCell (Nat.le_refl _) _, .inr ⟨HNO, rfl⟩⟩
  · have HNO := Lib.hid (hno.out fun h => he h.2.1)
    have he' : (er3 == 0) = false := by simpa using he
    clear hno hba
    go_wp2_with (first
      | (go_at_call 29; refine (err_any q B1 _ _ _ HR4.out).mono ?_; rintro e w' ⟨rfl, rfl⟩)
      | fail)
    refine bodyPost_ret (results_pair rfl _ _ w.heap.size _ _ rfl rfl (load_sheet (block_set3 A4'.out))) rfl ?_
    exact ⟨((HB4.out.setCell (Nat.le_refl _) _).setCell (Nat.le_refl _) _).setCell (Nat.le_refl _) _, .inr ⟨HNO, rfl⟩⟩
end Go.Proofs.Ytfjijpejoocngaa
