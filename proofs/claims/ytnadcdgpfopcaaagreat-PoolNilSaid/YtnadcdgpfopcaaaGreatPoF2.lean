/- A pool: give. -/
import Derived.Test.YtnadcdgpfopcaaaGreatPoF1
namespace Go.Proofs.YtnadcdgpfopcaaaGreat
open Go.RowKit

section
variable {w w' V : World} {p c l f : Nat} {x y X Y Z : Nat → Prop} {Q Q1 : PS} {T : List Fd}
abbrev set4 (V : World) (r : Nat) (a b c d : Value) : World := (((V.setCell ⟨r, 0, none⟩ a).setCell ⟨r, 1, none⟩ b).setCell ⟨r, 2, none⟩ c).setCell ⟨r, 3, none⟩ d
theorem safe_four {r : Nat} (h : Safe x w V) (hr : w.heap.size ≤ r) (a b c d : Value) : Safe x w (set4 V r a b c d) :=
  Turned.setCell (Turned.setCell (Turned.setCell (Turned.setCell h (p := ⟨r, 0, none⟩) (fun k => absurd k (Nat.not_lt.2 hr)) a) (p := ⟨r, 1, none⟩) (fun k => absurd k (Nat.not_lt.2 hr)) b) (p := ⟨r, 2, none⟩) (fun k => absurd k (Nat.not_lt.2 hr)) c) (p := ⟨r, 3, none⟩) (fun k => absurd k (Nat.not_lt.2 hr)) d
theorem Pool.four {r : Nat} (h : Pool V p c x Q) (hr : x r) (a b e d : Value) : Pool (set4 V r a b e d) p c x Q :=
  h.turned (((((Turned.refl x V).setCell (p := ⟨r, 0, none⟩) (fun _ => hr) a).setCell (p := ⟨r, 1, none⟩) (fun _ => hr) b).setCell (p := ⟨r, 2, none⟩) (fun _ => hr) e).setCell (p := ⟨r, 3, none⟩) (fun _ => hr) d)
theorem four_set {W : World} {g : Nat} {x y z u : Value} {t : TypeId} (h : W.heap[g]? = some (.cells #[x, y, z, u] t (0, 0))) (a b c d : Value) : (set4 W g a b c d).heap[g]? = some (.cells #[a, b, c, d] t (0, 0)) := by
  unfold set4
  rw [heap_setCell_same _ _ 3 _ _ _ (heap_setCell_same _ _ 2 _ _ _ (heap_setCell_same _ _ 1 _ _ _ (heap_setCell_same _ _ 0 _ _ _ h)))]; simp
theorem cells4q {w : World} {p : Nat} {a b c d : Value} {t : TypeId} (hh : w.heap[p]? = some (.cells #[a, b, c, d] t (0, 0))) : w.cell? ⟨p, 0, none⟩ = some a ∧ w.cell? ⟨p, 1, none⟩ = some b ∧ w.cell? ⟨p, 2, none⟩ = some c ∧ w.cell? ⟨p, 3, none⟩ = some d ∧ w.frozen? ⟨p, 0, none⟩ = false ∧ w.frozen? ⟨p, 1, none⟩ = false ∧ w.frozen? ⟨p, 2, none⟩ = false ∧ w.frozen? ⟨p, 3, none⟩ = false := by
  simp [World.cell?, World.frozen?, hh]
theorem set_each {W : World} {g : Nat} {x y z u : Value} {t : TypeId} (h : W.heap[g]? = some (.cells #[x, y, z, u] t (0, 0))) (a b c d : Value) : (W.setCell ⟨g, 0, none⟩ a).cell? ⟨g, 0, none⟩ = some a ∧ ((W.setCell ⟨g, 0, none⟩ a).setCell ⟨g, 1, none⟩ b).cell? ⟨g, 1, none⟩ = some b ∧ (((W.setCell ⟨g, 0, none⟩ a).setCell ⟨g, 1, none⟩ b).setCell ⟨g, 2, none⟩ c).cell? ⟨g, 2, none⟩ = some c ∧ (set4 W g a b c d).cell? ⟨g, 3, none⟩ = some d := by
  have h0 := heap_setCell_same _ _ 0 _ _ a h
  have h1 := heap_setCell_same _ _ 1 _ _ b h0
  have h2 := heap_setCell_same _ _ 2 _ _ c h1
  have h3 := heap_setCell_same _ _ 3 _ _ d h2
  refine ⟨?_, ?_, ?_, ?_⟩
  · simp only [World.cell?, h0]; simp
  · simp only [World.cell?, h1]; simp
  · simp only [World.cell?, h2]; simp
  · simp only [World.cell?, set4, h3]; simp
abbrev FdV (f : Fd) : Value := .agg #[.int .i64 f.1.1, .int .i64 f.1.2, .int .i64 f.2.1, .int .i64 f.2.2]
theorem Ok.next1 (h : Ok Q) (hs : Q.seq + 1 ≤ 1099511627776) : Ok Q.next := { h with seq := by have := h.seq; show 0 ≤ Q.seq + 1 ∧ Q.seq + 1 ≤ 1099511627776; omega }
theorem Ok.give {n : Nat} {page : Int} {b : List UInt8} {er : Int} {fd : Fd} {Q' : PS} (h : Ok Q) (hs : Q.seq + 1 ≤ 1099511627776) (hm : Q.give n page b = some (er, fd, Q')) : Ok Q' := by
  unfold PS.give at hm
  split at hm
  · cases hm; exact h.gone
  · split at hm
    · cases hm; exact h.gone
    · split at hm
      · cases hm
      · next h1 =>
        have h2 := Ok.write _ _ (h.gone.next1 hs) h1
        split at hm
        · cases hm; exact h2
        · cases hm; exact h2.undo.gone
set_option maxRecDepth 100000 in
set_option maxHeartbeats 6000000 in
theorem q_give (n : Nat) (page : Int) (A : Option Addr) (m : Nat) (bts : List UInt8) {er : Int} {fd : Fd} {Q' : PS} (h : Pool w p c x Q) (ok : Ok Q) (hsq : Q.seq + 1 ≤ 1099511627776) (hb : CB w x A bts) (hm : Q.give n page bts = some (er, fd, Q')) : Calls Tryz.prog 55 #[.pointer (some ⟨p, 0, none⟩), .int .i64 page, .slice A bts.length m] w fun r w' => r = .returned (.tuple #[FdV fd, .int .i64 er]) ∧ Pool w' p c x Q' ∧ Safe x w w' := by
  have HX := Lib.hid h.there
  obtain ⟨W, hW⟩ : ∃ W, w.alloc (.cells #[.int .i64 0, .int .i64 0, .int .i64 0, .int .i64 0] 71) = W := ⟨_, rfl⟩
  have HBW : Hid (Below w.heap.size w W) := Lib.hid (by rw [← hW]; exact (Below.refl _ _).alloc (Nat.le_refl _) _)
  have HRB : Hid (W.heap[w.heap.size]? = some (.cells #[.int .i64 0, .int .i64 0, .int .i64 0, .int .i64 0] 71 (0, 0))) := Lib.hid (by rw [← hW]; exact heap_alloc_new _ _)
  have hrlt := lt_size HRB.out
  have HPW : Hid (Pool W p c (fun b => x b ∨ b = w.heap.size) Q) := Lib.hid ((h.more HBW.out).less fun b k => k.imp id fun e => ⟨by omega, by omega⟩)
  have HCB : Hid (CB W (fun b => x b ∨ b = w.heap.size) A bts) := Lib.hid (hb.keep (fun b k => HBW.out.block b (HX.out b k)) fun b k => .inl k)
  have HO := Lib.hid ok
  have HRR : Hid (∀ V, Safe (fun b => x b ∨ b = w.heap.size) W V → V.heap[w.heap.size]? = some (.cells #[.int .i64 0, .int .i64 0, .int .i64 0, .int .i64 0] 71 (0, 0))) := Lib.hid fun V hV => (hV.block hrlt (.inr rfl)).trans HRB.out
  have HX1 : Hid (∀ b, (x b ∨ b = w.heap.size) → (x b ∨ b = w.heap.size) ∧ b < W.heap.size) := Lib.hid fun b k => ⟨k, HPW.out.there b k⟩
  have HSQ := Lib.hid hsq
  have HWS : IntKind.i64.wrap (Q.seq + 1) = Q.seq + 1 := i64w_id _ (by have := ok.seq; omega)
  unfold PS.give at hm
  clear h ok hb hsq
  by_cases hd : Q.gone.down = true
  · rw [if_pos hd] at hm
    have HE : Hid (er = 2 ∧ fd = ((0, 0), (0, 0)) ∧ Q' = Q.gone) := Lib.hid (by have := Option.some.inj hm; exact ⟨(congrArg (fun z : Int × Fd × PS => z.1) this).symm, (congrArg (fun z : Int × Fd × PS => z.2.1) this).symm, (congrArg (fun z : Int × Fd × PS => z.2.2) this).symm⟩)
    have HD := Lib.hid hd
    clear hm hd HWS
    go_enter Tryz.func55, Tryz.ntmps55
    go_upto_region 2 with (go_at_call 58; (with_reducible refine (q_gone HPW.out).mono ?_); rintro e w2 ⟨rfl, h2, hs2⟩; rw [HD.out]; have HP2 := Lib.hid h2; have HS2 := Lib.hid hs2; clear h2 hs2)
    obtain ⟨f0, f1, f2, f3, fr0, fr1, fr2, fr3⟩ := cells4q (HRR.out w2 HS2.out)
    obtain ⟨m0, m1, m2, m3, -⟩ := cells4q (four_set (HRR.out w2 HS2.out) (.int .i64 0) (.int .i64 0) (.int .i64 0) (.int .i64 0))
    clear hW
    go_wp2_with fail
    refine bodyPost_ret (by simp [results, Tryz.results55, go_sem, m0, m1, m2, m3]; try rfl) rfl ?_
    rw [HE.out.1, HE.out.2.1, HE.out.2.2]
    exact ⟨rfl, (HP2.out.four (.inr rfl) _ _ _ _).less fun b k => .inl k, safe_four ((safe_of_below HBW.out).then' HS2.out fun _ _ k => .inl k) (Nat.le_refl _) _ _ _ _⟩
  · rw [if_neg hd] at hm
    have HD : Hid (Q.gone.down = false) := Lib.hid (by simpa using hd)
    clear hd
    by_cases hov : Q.gone.over = true
    · rw [if_pos hov] at hm
      have HE : Hid (er = 6 ∧ fd = ((0, 0), (0, 0)) ∧ Q' = Q.gone) := Lib.hid (by have := Option.some.inj hm; exact ⟨(congrArg (fun z : Int × Fd × PS => z.1) this).symm, (congrArg (fun z : Int × Fd × PS => z.2.1) this).symm, (congrArg (fun z : Int × Fd × PS => z.2.2) this).symm⟩)
      have HV := Lib.hid hov
      clear hm hov HWS
      go_enter Tryz.func55, Tryz.ntmps55
      go_upto_region 4 with (first
        | (go_at_call 58; (with_reducible refine (q_gone HPW.out).mono ?_); rintro e w2 ⟨rfl, h2, hs2⟩; rw [HD.out]; have HP2 := Lib.hid h2; have HS2 := Lib.hid hs2; obtain ⟨l2, f2, hpt2⟩ := h2.parts; have HT2 := Lib.hid hpt2; clear h2 hs2 hpt2)
        | (go_at_call 33; (with_reducible refine (q_over HT2.out HO.out.gone).mono ?_); rintro e w3 ⟨rfl, hb3⟩; rw [HV.out]; have HB3 := Lib.hid hb3; clear hb3))
      have HS3 : Hid (Safe (fun b => x b ∨ b = w.heap.size) W w3) := Lib.hid (HS2.out.then (safe_of_below HB3.out))
      obtain ⟨f0, f1, f2, f3, fr0, fr1, fr2, fr3⟩ := cells4q (HRR.out w3 HS3.out)
      obtain ⟨m0, m1, m2, m3, -⟩ := cells4q (four_set (HRR.out w3 HS3.out) (.int .i64 0) (.int .i64 0) (.int .i64 0) (.int .i64 0))
      clear hW
      go_wp2_with fail
      refine bodyPost_ret (by simp [results, Tryz.results55, go_sem, m0, m1, m2, m3]; try rfl) rfl ?_
      rw [HE.out.1, HE.out.2.1, HE.out.2.2]
      exact ⟨rfl, ((HP2.out.below HB3.out).four (.inr rfl) _ _ _ _).less fun b k => .inl k, safe_four ((safe_of_below HBW.out).then' HS3.out fun _ _ k => .inl k) (Nat.le_refl _) _ _ _ _⟩
    · rw [if_neg hov] at hm
      have HV : Hid (Q.gone.over = false) := Lib.hid (by simpa using hov)
      clear hov
      cases hr : PS.write n bts n Q.gone.next with
      | none => rw [hr] at hm; cases hm
      | some R =>
        obtain ⟨s, e1, Q2⟩ := R
        rw [hr] at hm
        simp only at hm
        have HR := Lib.hid hr
        have HON := Lib.hid (HO.out.gone.next1 HSQ.out)
        have HM := Lib.hid hm
        clear hm hr
        go_enter Tryz.func55, Tryz.ntmps55
        go_upto_region 5 with (first
          | (go_at_call 58; (with_reducible refine (q_gone HPW.out).mono ?_); rintro e w2 ⟨rfl, h2, hs2⟩; rw [HD.out]; have HP2 := Lib.hid h2; have HS2 := Lib.hid hs2; obtain ⟨l2, f2, hpt2⟩ := h2.parts; have HT2 := Lib.hid hpt2; clear h2 hs2 hpt2)
          | (go_at_call 33; (with_reducible refine (q_over HT2.out HO.out.gone).mono ?_); rintro e w3 ⟨rfl, hb3⟩; rw [HV.out]; have HB3 := Lib.hid hb3; clear hb3))
        have HS3 : Hid (Safe (fun b => x b ∨ b = w.heap.size) W w3) := Lib.hid (HS2.out.then (safe_of_below HB3.out))
        obtain ⟨hp4, hs4⟩ := Pool.set (j := 9) (u := .int .i64 (Q.seq + 1)) (Q' := Q.gone.next) (HP2.out.below HB3.out) rfl rfl rfl (fun l f => by simp [PS.cells, PS.next, PS.gone])
        have HP4 := Lib.hid hp4
        have HS4 : Hid (Safe (fun b => x b ∨ b = w.heap.size) W (w3.setCell ⟨p, 9, none⟩ (.int .i64 (Q.seq + 1)))) := Lib.hid (HS3.out.then hs4)
        have c9 : w3.cell? ⟨p, 9, none⟩ = some (.int .i64 Q.seq) := (HT2.out.below HB3.out).c9
        have fr9 := (HT2.out.below HB3.out).fr 9
        clear hp4 hs4 hW
        go_upto_region 6 with fail
        generalize w3.setCell ⟨p, 9, none⟩ (.int .i64 (Q.seq + 1)) = w4 at HP4 HS4 ⊢
        clear c9 fr9 HWS
        go_upto_region 7 with (go_at_call 88; (with_reducible refine (q_write n n A m bts HP4.out HON.out (HCB.out.safe HS4.out HX1.out fun _ k => k) HR.out).mono ?_); rintro e w5 ⟨rfl, h5, hs5⟩; have HP5 := Lib.hid h5; have HS5 : Hid (Safe (fun b => x b ∨ b = w.heap.size) W w5) := Lib.hid (HS4.out.then hs5); clear h5 hs5)
        have HB6 : Hid (Below w5.heap.size w5 (w5.alloc (.cells #[.int .i64 s.1, .int .i64 s.2] 69))) := Lib.hid ((Below.refl _ _).alloc (Nat.le_refl _) _)
        have hg6 := heap_alloc_new w5 (.cells #[.int .i64 s.1, .int .i64 s.2] 69)
        generalize w5.alloc (.cells #[.int .i64 s.1, .int .i64 s.2] 69) = w6 at HB6 hg6 ⊢
        obtain ⟨g0, g1, -, -⟩ := cells2q hg6
        have HP6 := Lib.hid (HP5.out.below HB6.out)
        have HS6 : Hid (Safe (fun b => x b ∨ b = w.heap.size) W w6) := Lib.hid (HS5.out.then (safe_of_below HB6.out))
        clear hg6
        by_cases he : e1 = 0
        · subst he
          have HE : Hid (er = 0 ∧ fd = ((page, Q2.seq), s) ∧ Q' = Q2) := Lib.hid (by have hm := HM.out; rw [if_pos rfl] at hm; have := Option.some.inj hm; exact ⟨(congrArg (fun z : Int × Fd × PS => z.1) this).symm, (congrArg (fun z : Int × Fd × PS => z.2.1) this).symm, (congrArg (fun z : Int × Fd × PS => z.2.2) this).symm⟩)
          clear HM
          obtain ⟨l6, f6, hpt6⟩ := HP6.out.parts
          have c9 := hpt6.c9
          obtain ⟨f0, f1, f2, f3, fr0, fr1, fr2, fr3⟩ := cells4q (HRR.out w6 HS6.out)
          clear hpt6
          go_upto_region 11 with fail
          obtain ⟨m0, m1, m2, m3⟩ := set_each (HRR.out w6 HS6.out) (.int .i64 page) (.int .i64 Q2.seq) (.int .i64 s.1) (.int .i64 s.2)
          go_region
          go_wp2_with fail
          refine bodyPost_ret (by simp [results, Tryz.results55, go_sem, m0, m1, m2, m3]; try rfl) rfl ?_
          rw [HE.out.1, HE.out.2.1, HE.out.2.2]
          exact ⟨rfl, ((HP6.out.four (.inr rfl) _ _ _ _).below (Below.refl _ _).drew).less fun b k => .inl k, (safe_four ((safe_of_below HBW.out).then' HS6.out fun _ _ k => .inl k) (Nat.le_refl _) _ _ _ _).then (safe_of_below (Below.refl _ _).drew)⟩
        · have HE : Hid (er = e1 ∧ fd = ((0, 0), (0, 0)) ∧ Q' = Q2.undo.gone) := Lib.hid (by have hm := HM.out; rw [if_neg he] at hm; have := Option.some.inj hm; exact ⟨(congrArg (fun z : Int × Fd × PS => z.1) this).symm, (congrArg (fun z : Int × Fd × PS => z.2.1) this).symm, (congrArg (fun z : Int × Fd × PS => z.2.2) this).symm⟩)
          clear HM
          go_upto_region 10 with (first
            | (go_at_call 12; (with_reducible refine (q_undo HP6.out).mono ?_); rintro e w7 ⟨rfl, h7, hs7⟩; have HP7 := Lib.hid h7; have HS7 := Lib.hid hs7; clear h7 hs7)
            | (go_at_call 58; (with_reducible refine (q_gone HP7.out).mono ?_); rintro e w8 ⟨rfl, h8, hs8⟩; have HP8 := Lib.hid h8; have HS8 : Hid (Safe (fun b => x b ∨ b = w.heap.size) W w8) := Lib.hid ((HS6.out.then HS7.out).then hs8); clear h8 hs8))
          obtain ⟨f0, f1, f2, f3, fr0, fr1, fr2, fr3⟩ := cells4q (HRR.out w8 HS8.out)
          obtain ⟨m0, m1, m2, m3, -⟩ := cells4q (four_set (HRR.out w8 HS8.out) (.int .i64 0) (.int .i64 0) (.int .i64 0) (.int .i64 0))
          go_wp2_with fail
          refine bodyPost_ret (by simp [results, Tryz.results55, go_sem, m0, m1, m2, m3]; try rfl) rfl ?_
          rw [HE.out.1, HE.out.2.1, HE.out.2.2]
          exact ⟨rfl, (HP8.out.four (.inr rfl) _ _ _ _).less fun b k => .inl k, safe_four ((safe_of_below HBW.out).then' HS8.out fun _ _ k => .inl k) (Nat.le_refl _) _ _ _ _⟩
end
end Go.Proofs.YtnadcdgpfopcaaaGreat
