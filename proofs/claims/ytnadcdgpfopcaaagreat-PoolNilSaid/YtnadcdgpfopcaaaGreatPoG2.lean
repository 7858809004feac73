/- A pool: Read, Live, Seq. -/
import Derived.Test.YtnadcdgpfopcaaaGreatPoG1
namespace Go.Proofs.YtnadcdgpfopcaaaGreat
open Go.RowKit

section
variable {w w' V : World} {p c l f : Nat} {x y X Y Z : Nat → Prop} {Q Q1 : PS} {T : List Fd} {S : LS}
theorem Held.page_len (h : Held w c x S) (b pg : Int) : (rdL S b pg).1.length ≤ 2000 := by
  obtain ⟨q, cap, g, C, h1, -⟩ := h
  unfold rdL
  split
  · simp
  · split
    · simp
    · unfold pageL
      cases e : S.bl[b.toNat]? with
      | none => simp
      | some y =>
        obtain ⟨hi, rfl⟩ := List.getElem?_eq_some_iff.1 e
        show ((S.bl[b.toNat]).pages.getD pg.toNat []).length ≤ 2000
        rw [List.getD_eq_getElem?_getD]
        cases e2 : (S.bl[b.toNat]).pages[pg.toNat]? with
        | none => simp
        | some l =>
          obtain ⟨hj, rfl⟩ := List.getElem?_eq_some_iff.1 e2
          obtain ⟨A, cc, -, -, k, -⟩ := (h1.blocks _ hi).pages pg.toNat hj
          exact k
def PS.readQ (Q : PS) (r : P2) : PS := match Q.at r with
  | none => Q
  | some s => if Q.gone.down = true then Q.gone else { Q.gone with S := (rdL Q.S s.1 s.2).2.2 }
/-- What Read tells. -/
def PS.tells (Q : PS) (r : P2) (er : Int) (d : List UInt8) : Prop := match Q.at r with
  | none => er = 8 ∧ d = []
  | some s => if Q.gone.down = true then er = 2 ∧ d = [] else if (rdL Q.S s.1 s.2).2.1 ≠ 0 then er = (rdL Q.S s.1 s.2).2.1 ∧ d = []
    else (er = 0 ∧ ∃ pg sq : Int, (rdL Q.S s.1 s.2).1 = sheetL pg.toNat sq.toNat d ∧ MayS pg sq d) ∨ (er = 5 ∧ d = [] ∧ NoSheet (rdL Q.S s.1 s.2).1)
theorem Ok.readQ (h : Ok Q) (r : P2) : Ok (Q.readQ r) := by
  unfold PS.readQ
  split
  · exact h
  · split
    · exact h.gone
    · exact h.gone.read _ _
theorem q_seq (h : Parts w p c l f Q) : Calls Tryz.prog 31 #[.pointer (some ⟨p, 0, none⟩)] w fun e w' => e = .returned (.int .i64 Q.seq) ∧ w = w' := by
  have c9 := h.c9
  clear h
  go_enter Tryz.func31, Tryz.ntmps31
  go_wp2_with fail
  go_ret
  exact ⟨rfl, rfl⟩
theorem q_live (h : Parts w p c l f Q) (ok : Ok Q) : Calls Tryz.prog 29 #[.pointer (some ⟨p, 0, none⟩)] w (FPost (allT Q.L) w) := by
  have c7 := h.c7
  have HP := Lib.hid h
  have HL : Hid (Q.L.length ≤ 1000) := Lib.hid (by have := ok.tabs; omega)
  clear h ok
  go_enter Tryz.func29, Tryz.ntmps29
  go_wp2_with (go_at_call 67; (with_reducible refine (allT_any HP.out.live HL.out).mono ?_); rintro e w2 ⟨A, m, rfl, h1, h2, h3, h4⟩)
  go_ret
  exact ⟨A, m, rfl, h1, h2, h3, h4⟩
set_option maxRecDepth 100000 in
set_option maxHeartbeats 6000000 in
theorem q_read (r : P2) (h : Pool w p c x Q) (ok : Ok Q) (hr : WfP r) : Calls Tryz.prog 26 #[.pointer (some ⟨p, 0, none⟩), P2V r] w fun e w' => ∃ A m d er, e = .returned (.tuple #[.slice A d.length m, .int .i64 er]) ∧ RB w' w'.heap.size A d ∧ Hid (Q.tells r er d) ∧ Pool w' p c x (Q.readQ r) ∧ Safe x w w' := by
  obtain ⟨W, hW⟩ : ∃ W, w.alloc (.cells #[.int .i64 r.1, .int .i64 r.2] 33) = W := ⟨_, rfl⟩
  have HBW : Hid (Below w.heap.size w W) := Lib.hid (by rw [← hW]; exact (Below.refl _ _).alloc (Nat.le_refl _) _)
  have hRB : W.heap[w.heap.size]? = some (.cells #[.int .i64 r.1, .int .i64 r.2] 33 (0, 0)) := by rw [← hW]; exact heap_alloc_new _ _
  have HPW : Hid (Pool W p c x Q) := Lib.hid (h.below HBW.out)
  obtain ⟨l0, f0, hpt0⟩ := HPW.out.parts
  have HTW := Lib.hid hpt0
  have HO := Lib.hid ok
  have HR := Lib.hid hr
  obtain ⟨r0, r1, -, -⟩ := cells2q hRB
  have HW0 : Hid (∀ w1, W = w1 → w1 = W) := Lib.hid fun w1 e => e.symm
  clear h ok hr hpt0 hRB
  cases hat : Q.at r with
  | none =>
    have HAT := Lib.hid hat
    have HT : Hid (Q.tells r 8 []) := Lib.hid (by unfold PS.tells; rw [hat]; exact ⟨rfl, rfl⟩)
    have HQ : Hid (Q.readQ r = Q) := Lib.hid (by unfold PS.readQ; rw [hat])
    clear hat
    go_enter Tryz.func26, Tryz.ntmps26
    go_wp2_with (first
      | (go_at_call 52; (with_reducible refine (q_is HTW.out).mono ?_); rintro e w1 ⟨rfl, hw1⟩; subst hw1)
      | (go_at_call 57; (with_reducible refine (q_at r HTW.out HO.out HR.out).mono ?_); rintro e w2 ⟨rfl, hb2⟩; rw [HAT.out]; have HB2 := Lib.hid hb2; clear hb2))
    go_ret2
    have hb3 : Below W.heap.size W (w2.alloc (.cells #[.int .i64 0, .int .i64 0] 69)) := HB2.out.alloc HB2.out.size _
    rw [HQ.out]
    exact ⟨none, 0, [], 8, rfl, .nil, HT, HPW.out.below hb3, (safe_of_below HBW.out).then (safe_of_below hb3)⟩
  | some s =>
    have HAT := Lib.hid hat
    cases hd : Q.gone.down with
    | true =>
      have HD := Lib.hid hd
      have HT : Hid (Q.tells r 2 []) := Lib.hid (by unfold PS.tells; rw [hat]; simp [hd])
      have HQ : Hid (Q.readQ r = Q.gone) := Lib.hid (by unfold PS.readQ; rw [hat]; simp only; rw [if_pos hd])
      clear hat hd
      go_enter Tryz.func26, Tryz.ntmps26
      go_wp2_with (first
        | (go_at_call 52; (with_reducible refine (q_is HTW.out).mono ?_); rintro e w1 ⟨rfl, hw1⟩; subst hw1)
        | (go_at_call 57; (with_reducible refine (q_at r HTW.out HO.out HR.out).mono ?_); rintro e w2 ⟨rfl, hb2⟩; rw [HAT.out]; have HB2 : Hid (Below W.heap.size W (w2.alloc (.cells #[.int .i64 s.1, .int .i64 s.2] 69))) := Lib.hid (hb2.alloc hb2.size _); clear hb2)
        | (go_at_call 58; (with_reducible refine (q_gone (HPW.out.below HB2.out)).mono ?_); rintro e w3 ⟨rfl, h3, hs3⟩; rw [HD.out]; have HP3 := Lib.hid h3; have HS3 := Lib.hid hs3; clear h3 hs3))
      go_ret2
      rw [HQ.out]
      exact ⟨none, 0, [], 2, rfl, .nil, HT, HP3.out, ((safe_of_below HBW.out).then (safe_of_below HB2.out)).then HS3.out⟩
    | false =>
      have HD := Lib.hid hd
      have HQ : Hid (Q.readQ r = { Q.gone with S := (rdL Q.S s.1 s.2).2.2 }) := Lib.hid (by unfold PS.readQ; rw [hat]; simp [hd])
      have HTE : Hid (∀ er d, ((rdL Q.S s.1 s.2).2.1 ≠ 0 → er = (rdL Q.S s.1 s.2).2.1 ∧ d = []) → ((rdL Q.S s.1 s.2).2.1 = 0 → ((er = 0 ∧ ∃ pg sq : Int, (rdL Q.S s.1 s.2).1 = sheetL pg.toNat sq.toNat d ∧ MayS pg sq d) ∨ (er = 5 ∧ d = [] ∧ NoSheet (rdL Q.S s.1 s.2).1))) → Q.tells r er d) := Lib.hid fun er d k1 k2 => by
        unfold PS.tells
        rw [hat]
        simp only
        rw [if_neg (by rw [hd]; decide)]
        by_cases e : (rdL Q.S s.1 s.2).2.1 = 0
        · rw [if_neg (fun k => k e)]; exact k2 e
        · rw [if_pos e]; exact k1 e
      clear hat hd
      go_enter Tryz.func26, Tryz.ntmps26
      go_upto_region 8 with (first
        | (go_at_call 52; (with_reducible refine (q_is HTW.out).mono ?_); rintro e w1 ⟨rfl, hw1⟩; subst hw1)
        | (go_at_call 57; (with_reducible refine (q_at r HTW.out HO.out HR.out).mono ?_); rintro e w2 ⟨rfl, hb2⟩; rw [HAT.out]; have HB2 : Hid (Below W.heap.size W (w2.alloc (.cells #[.int .i64 s.1, .int .i64 s.2] 69))) := Lib.hid (hb2.alloc hb2.size _); have HG2 := Lib.hid (heap_alloc_new w2 (.cells #[.int .i64 s.1, .int .i64 s.2] 69)); have HP2 : Hid (Pool (w2.alloc (.cells #[.int .i64 s.1, .int .i64 s.2] 69)) p c (fun b => x b ∨ b = w2.heap.size) Q) := Lib.hid ((HPW.out.more HB2.out).less fun b k => k.imp id fun e => ⟨by have := hb2.size; omega, by rw [e]; simp⟩); clear hb2)
        | (go_at_call 58; (with_reducible refine (q_gone HP2.out).mono ?_); rintro e w3 ⟨rfl, h3, hs3⟩; rw [HD.out]; have HP3 := Lib.hid h3; have HS3 := Lib.hid hs3; clear h3 hs3))
      have hg3 := (HS3.out.block (lt_size HG2.out) (.inr rfl)).trans HG2.out
      have hgl := lt_size hg3
      obtain ⟨g0, g1, -, -⟩ := cells2q hg3
      obtain ⟨l3, f3, hpt3⟩ := HP3.out.parts
      have c0 := hpt3.c0
      have HPL := Lib.hid (hpt3.chip.page_len s.1 s.2)
      clear hW hpt3 hg3 r0 r1
      go_region_held3 (fun V => V.cell? ⟨p, 0, none⟩ = some (.pointer (some ⟨c, 0, none⟩)) ∧ V.cell? ⟨w2.heap.size, 0, none⟩ = some (.int .i64 s.1) ∧ V.cell? ⟨w2.heap.size, 1, none⟩ = some (.int .i64 s.2))
        (first | exact ⟨c0, g0, g1⟩ | exact HK4.out)
        (first
          | (go_at_call 59; (with_reducible refine (Pool.readc s.1 s.2 (HP3.out.below (Below.refl _ _).drew)).mono ?_); rintro e w4 ⟨A4, L4, rfl, hL4, hc4, h4, hs4⟩; have HP4 := Lib.hid h4; have HS4 : Hid (Safe (fun b => x b ∨ b = w2.heap.size) w3 w4) := Lib.hid ((safe_of_below (Below.refl _ _).drew).then hs4); have HC4 := Lib.hid hc4; have HK4 : Hid (w4.cell? ⟨p, 0, none⟩ = some (.pointer (some ⟨c, 0, none⟩)) ∧ w4.cell? ⟨w2.heap.size, 0, none⟩ = some (.int .i64 s.1) ∧ w4.cell? ⟨w2.heap.size, 1, none⟩ = some (.int .i64 s.2)) := Lib.hid (by obtain ⟨l4, f4, k4⟩ := HP4.out.parts; exact ⟨k4.c0, (World.cell?_of_block (a := ⟨w2.heap.size, 0, none⟩) (HS4.out.block hgl (.inr rfl))).trans g0, (World.cell?_of_block (a := ⟨w2.heap.size, 1, none⟩) (HS4.out.block hgl (.inr rfl))).trans g1⟩); clear h4 hs4 hc4))
      have HS14 : Hid (Safe x w w4) := Lib.hid ((((safe_of_below HBW.out).then (safe_of_below HB2.out)).then' HS3.out fun _ _ k => .inl k).then' HS4.out fun _ _ k => .inl k)
      have hLe : Hid (L4 = (rdL Q.S s.1 s.2).1) := hL4
      have HRB4 : Hid (RB w4 w4.heap.size A4 L4) := Lib.hid fun h0 => by
        obtain ⟨ad, e, k, hc⟩ := HC4.out h0
        exact ⟨ad, e, k.2, hc⟩
      have hl4 : L4.length ≤ 2000 := by rw [hLe.out]; exact HPL.out
      clear c0 g0 g1 HC4 hL4
      by_cases he : (rdL Q.S s.1 s.2).2.1 = 0
      · have HE0 : Hid ((rdL Q.gone.S s.1 s.2).2.1 = 0) := Lib.hid he
        rw [HE0.out]
        clear he
        go_upto_region 12 with (go_at_call 60; (with_reducible refine (parse_sheet _ A4 _ L4 _ HRB4.out (Nat.le_refl _) (by omega)).mono ?_); rintro e w5 ⟨hb5, hpp⟩; have HB5 := Lib.hid hb5; clear hb5; rcases hpp with ⟨pg, sq, A5, c5, d5, hl5, hm5, hr5, rfl⟩ | ⟨hn5, rfl⟩)
        · have hb6 : Below w4.heap.size w4 (w5.alloc (.cells #[.int .i64 pg, .int .i64 sq, .slice A5 d5.length c5] 47)) := HB5.out.alloc HB5.out.size _
          have HRA : Hid (RB (w5.alloc (.cells #[.int .i64 pg, .int .i64 sq, .slice A5 d5.length c5] 47)) (w5.alloc (.cells #[.int .i64 pg, .int .i64 sq, .slice A5 d5.length c5] 47)).heap.size A5 d5) := Lib.hid ((hr5.alloc (Nat.le_refl _) _).mono (by simp))
          obtain ⟨q0, q1, q2⟩ := cells3 (heap_alloc_new w5 (.cells #[.int .i64 pg, .int .i64 sq, .slice A5 d5.length c5] 47))
          have HB6 := Lib.hid hb6
          clear hb6 hr5
          go_wp2_with fail
          go_ret2
          rw [HQ.out]
          exact ⟨A5, c5, d5, 0, rfl, HRA.out, Lib.hid (HTE.out 0 d5 (fun k => absurd HE0.out k) fun _ => .inl ⟨rfl, pg, sq, by rw [← hLe.out]; exact hl5.out, hm5.out⟩), (HP4.out.below HB6.out).less fun b k => .inl (.inl k), HS14.out.then (safe_of_below HB6.out)⟩
        · have hb6 : Below w4.heap.size w4 (w5.alloc (.cells #[.int .i64 0, .int .i64 0, .slice none 0 0] 47)) := HB5.out.alloc HB5.out.size _
          obtain ⟨q0, q1, q2⟩ := cells3 (heap_alloc_new w5 (.cells #[.int .i64 0, .int .i64 0, .slice none 0 0] 47))
          have HB6 := Lib.hid hb6
          clear hb6
          go_wp2_with fail
          go_ret2
          rw [HQ.out]
          exact ⟨none, 0, [], 5, rfl, .nil, Lib.hid (HTE.out 5 [] (fun k => absurd HE0.out k) fun _ => .inr ⟨rfl, rfl, by rw [← hLe.out]; exact hn5.out⟩), (HP4.out.below HB6.out).less fun b k => .inl (.inl k), HS14.out.then (safe_of_below HB6.out)⟩
      · obtain ⟨e1, he1⟩ : ∃ e1, e1 = (rdL Q.S s.1 s.2).2.1 := ⟨_, rfl⟩
        have HE1 : Hid ((rdL Q.gone.S s.1 s.2).2.1 = e1) := Lib.hid he1.symm
        have HT : Hid (Q.tells r e1 []) := Lib.hid (HTE.out e1 [] (fun _ => ⟨he1, rfl⟩) fun k => absurd k he)
        rw [HE1.out]
        rw [← he1] at he
        clear he1
        go_wp2_with fail
        go_ret2
        rw [HQ.out]
        exact ⟨none, 0, [], e1, rfl, .nil, HT, HP4.out.less fun b k => .inl (.inl k), HS14.out⟩
end
end Go.Proofs.YtnadcdgpfopcaaaGreat
