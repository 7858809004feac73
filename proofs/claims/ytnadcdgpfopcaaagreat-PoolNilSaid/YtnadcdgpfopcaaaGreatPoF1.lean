/- A pool: write (written by powrite.py). -/
import Derived.Test.YtnadcdgpfopcaaaGreatPoE7
namespace Go.Proofs.YtnadcdgpfopcaaaGreat
open Go.RowKit

section
variable {w w' V : World} {p c l f : Nat} {x y X Y Z : Nat → Prop} {Q Q1 : PS} {T : List Fd}
theorem field_next (b : Bool) (x y : Int) (A : Option Addr) (n c : Nat) (w : World) : (Instr.field 101 (.agg #[.bool b, .int .i64 x, .int .i64 y, .slice A n c]) 1).run Tryz.prog w = .ok (.int .i64 x) w := by
  simp [Instr.field, go_sem]
  rfl
theorem field_pages (b : Bool) (x y : Int) (A : Option Addr) (n c : Nat) (w : World) : (Instr.field 101 (.agg #[.bool b, .int .i64 x, .int .i64 y, .slice A n c]) 3).run Tryz.prog w = .ok (.slice A n c) w := by
  simp [Instr.field, go_sem]
  rfl
theorem safe_two {r : Nat} (h : Safe x w V) (hr : w.heap.size ≤ r) (a b : Value) : Safe x w ((V.setCell ⟨r, 0, none⟩ a).setCell ⟨r, 1, none⟩ b) :=
  (Turned.setCell (Turned.setCell h (p := ⟨r, 0, none⟩) (fun k => absurd k (Nat.not_lt.2 hr)) a) (p := ⟨r, 1, none⟩) (fun k => absurd k (Nat.not_lt.2 hr)) b)
theorem Pool.two {r : Nat} (h : Pool V p c x Q) (hr : x r) (a b : Value) : Pool ((V.setCell ⟨r, 0, none⟩ a).setCell ⟨r, 1, none⟩ b) p c x Q :=
  h.turned (((Turned.refl x V).setCell (p := ⟨r, 0, none⟩) (fun _ => hr) a).setCell (p := ⟨r, 1, none⟩) (fun _ => hr) b)
theorem Ok.write {n : Nat} {b : List UInt8} : ∀ (k : Nat) (Q : PS) {s : P2} {er : Int} {Q' : PS}, Ok Q → PS.write n b k Q = some (s, er, Q') → Ok Q' := by
  intro k
  induction k with
  | zero => intro Q s er Q' h hm; cases hm
  | succ k ih =>
    intro Q s er Q' h hm
    unfold PS.write at hm
    split at hm
    · cases hm
    · next h1 =>
      split at hm
      · split at hm
        · cases hm; exact (h.begin h1).prog _ _ _
        · split at hm
          · exact ih _ ((h.begin h1).prog _ _ _) hm
          · cases hm; exact (h.begin h1).prog _ _ _
      · cases hm; exact h.begin h1
set_option maxRecDepth 100000 in
set_option maxHeartbeats 6000000 in
theorem q_write (n k : Nat) (A : Option Addr) (m : Nat) (bts : List UInt8) {s : P2} {er : Int} {Q' : PS} (h : Pool w p c x Q) (ok : Ok Q) (hb : CB w x A bts) (hm : PS.write n bts k Q = some (s, er, Q')) : Calls Tryz.prog 88 #[.pointer (some ⟨p, 0, none⟩), .slice A bts.length m] w fun r w' => r = .returned (.tuple #[P2V s, .int .i64 er]) ∧ Pool w' p c x Q' ∧ Safe x w w' := by
  have HX := Lib.hid h.there
  obtain ⟨W, hW⟩ : ∃ W, w.alloc (.cells #[.int .i64 0, .int .i64 0] 69) = W := ⟨_, rfl⟩
  have HBW : Hid (Below w.heap.size w W) := Lib.hid (by rw [← hW]; exact (Below.refl _ _).alloc (Nat.le_refl _) _)
  have HRB : Hid (W.heap[w.heap.size]? = some (.cells #[.int .i64 0, .int .i64 0] 69 (0, 0))) := Lib.hid (by rw [← hW]; exact heap_alloc_new _ _)
  have hrlt := lt_size HRB.out
  have HPW : Hid (Pool W p c (fun b => x b ∨ b = w.heap.size) Q) := Lib.hid ((h.more HBW.out).less fun b k => k.imp id fun e => ⟨by omega, by omega⟩)
  have HCB : Hid (CB W (fun b => x b ∨ b = w.heap.size) A bts) := Lib.hid (hb.keep (fun b k => HBW.out.block b (HX.out b k)) fun b k => .inl k)
  have HO := Lib.hid ok
  have HM := Lib.hid hm
  have HRR : Hid (∀ V, Safe (fun b => x b ∨ b = w.heap.size) W V → V.heap[w.heap.size]? = some (.cells #[.int .i64 0, .int .i64 0] 69 (0, 0))) := Lib.hid fun V hV => (hV.block hrlt (.inr rfl)).trans HRB.out
  have HX1 : Hid (∀ b, (x b ∨ b = w.heap.size) → (x b ∨ b = w.heap.size) ∧ b < W.heap.size) := Lib.hid fun b k => ⟨k, HPW.out.there b k⟩
  clear h ok hb hm
  go_enter Tryz.func88, Tryz.ntmps88
  go_wp2_with fail
  clear hW
  go_loopg [6, 8] k (fun k _ _ wr => ∃ Q1, Pool wr p c (fun b => x b ∨ b = w.heap.size) Q1 ∧ Ok Q1 ∧ PS.write n bts k Q1 = some (s, er, Q') ∧ Safe (fun b => x b ∨ b = w.heap.size) W wr)
  case atStart => exact ⟨Q, HPW.out, HO.out, HM.out, .refl _ _⟩
  case round =>
    obtain ⟨Q1, hP, hO, hM, hS⟩ := hrel
    have HP1 := Lib.hid hP
    have HO1 := Lib.hid hO
    have HS1 := Lib.hid hS
    clear hP hS
    cases gk with
    | zero => cases hM
    | succ k1 =>
      unfold PS.write at hM
      cases hr : Q1.begin n with
      | none => rw [hr] at hM; cases hM
      | some R =>
        obtain ⟨e1, Q2⟩ := R
        rw [hr] at hM
        simp only at hM
        have HR := Lib.hid hr
        have HO2 := Lib.hid (hO.begin hr)
        clear hr hO
        by_cases he : e1 = 0
        case neg =>
          rw [if_neg he] at hM
          have HE : Hid (s = (0, 0) ∧ er = e1 ∧ Q' = Q2) := Lib.hid (by simp at hM; exact ⟨hM.1.symm, hM.2.1.symm, hM.2.2.symm⟩)
          clear hM
          go_upto_region 3 with (go_at_call 118; (with_reducible refine (q_begin n HP1.out HO1.out HR.out).mono ?_); rintro e w2 ⟨rfl, h2, hs2⟩; have HP2 := Lib.hid h2; have HS2 : Hid (Safe (fun b => x b ∨ b = w.heap.size) W w2) := Lib.hid (HS1.out.then hs2); clear h2 hs2)
          obtain ⟨f0, f1, fr0, fr1⟩ := cells2q (HRR.out w2 HS2.out)
          obtain ⟨m0, m1, -, -⟩ := cells2q (two_set (HRR.out w2 HS2.out) (.int .i64 0) (.int .i64 0))
          go_wp2_with fail
          refine bodyPost_ret (by simp [results, Tryz.results88, go_sem, m0, m1]; try rfl) rfl ?_
          rw [HE.out.1, HE.out.2.1, HE.out.2.2]
          exact ⟨rfl, (HP2.out.two (.inr rfl) _ _).less fun b k => .inl k, safe_two ((safe_of_below HBW.out).then' HS2.out fun _ _ k => .inl k) (Nat.le_refl _) _ _⟩
        case pos =>
          rw [if_pos he] at hM
          subst he
          have HM3 := Lib.hid hM
          clear hM
          go_upto_region 4 with (go_at_call 118; (with_reducible refine (q_begin n HP1.out HO1.out HR.out).mono ?_); rintro e w2 ⟨rfl, h2, hs2⟩; have HP2 := Lib.hid h2; have HS2 : Hid (Safe (fun b => x b ∨ b = w.heap.size) W w2) := Lib.hid (HS1.out.then hs2); clear h2 hs2)
          obtain ⟨l2, f2, hpt2⟩ := HP2.out.parts
          have c0 := hpt2.c0
          have c10 := hpt2.c10
          have HT2 := Lib.hid hpt2
          have HSK : Hid (∀ V, Below w2.heap.size w2 V → V.cell? ⟨p, 0, none⟩ = some (.pointer (some ⟨c, 0, none⟩)) ∧ V.cell? ⟨p, 10, none⟩ = some (.int .i64 Q2.op)) := Lib.hid fun V hV => ⟨(hpt2.below hV).c0, (hpt2.below hV).c10⟩
          clear hpt2
          go_region_held3 (fun V => V.cell? ⟨p, 0, none⟩ = some (.pointer (some ⟨c, 0, none⟩)) ∧ V.cell? ⟨p, 10, none⟩ = some (.int .i64 Q2.op))
            (first | exact ⟨c0, c10⟩ | exact HSK.out _ HBB.out | exact HSK.out _ (HBB.out.alloc HBB.out.size _) | exact HSK.out _ ((Below.refl _ _).alloc (Nat.le_refl _) _).drew | exact HSK.out _ ((Below.refl _ _).alloc (Nat.le_refl _) _) | exact HSK.out _ ((HBB.out.setCell (Nat.le_refl _) _).setCell (Nat.le_refl _) _))
            (first
              | (go_at_call 48; (with_reducible refine (held_block Q2.op (HT2.out.chip.below (Below.refl _ _).drew)).mono ?_); rintro e w3 ⟨pv, rfl, ⟨A9, c9, rfl, _⟩, hb3⟩; have fnx := field_next (tellB Q2.S Q2.op).bad (tellB Q2.S Q2.op).next (tellB Q2.S Q2.op).count A9 (tellB Q2.S Q2.op).pages.length c9; have HBB : Hid (Below w2.heap.size w2 w3) := Lib.hid ((Below.refl _ _).drew.trans hb3))
              | (go_at_call 48; (with_reducible refine (held_block Q2.op (HT2.out.chip.below ((Below.refl _ _).alloc (Nat.le_refl _) _).drew)).mono ?_); rintro e w3 ⟨pv, rfl, ⟨A9, c9, rfl, _⟩, hb3⟩; have fnx := field_next (tellB Q2.S Q2.op).bad (tellB Q2.S Q2.op).next (tellB Q2.S Q2.op).count A9 (tellB Q2.S Q2.op).pages.length c9; have HBB : Hid (Below w2.heap.size w2 w3) := Lib.hid (((Below.refl _ _).alloc (Nat.le_refl _) _).drew.trans (hb3.mono (by simp))); obtain ⟨n0, n1, n2, n3⟩ := cells2q ((hb3.block w2.heap.size (by simp)).trans (heap_alloc_new w2 _))))
          · obtain ⟨V, hV⟩ : ∃ V, w3.alloc (.cells #[.int .i64 Q2.op, .int .i64 (tellB Q2.S Q2.op).next] 69) = V := ⟨_, rfl⟩
            have HBV : Hid (Below w2.heap.size w2 V) := Lib.hid (by rw [← hV]; exact HBB.out.alloc HBB.out.size _)
            have hg : V.heap[w3.heap.size]? = some (.cells #[.int .i64 Q2.op, .int .i64 (tellB Q2.S Q2.op).next] 69 (0, 0)) := by rw [← hV]; exact heap_alloc_new w3 _
            rw [hV]
            obtain ⟨g0, g1, -, -⟩ := cells2q hg
            have hgl := lt_size hg
            have hgn : New w2 V w3.heap.size := ⟨HBB.out.size, hgl⟩
            generalize w3.heap.size = gz at g0 g1 hgl hgn ⊢
            clear hV hg hb3 c0 c10 fnx
            have HATV := Lib.hid (HT2.out.below HBV.out)
            have d0 := HATV.out.c0
            have HPV : Hid (Pool V p c (fun b => (x b ∨ b = w.heap.size) ∨ New w2 V b) Q2) := Lib.hid (HP2.out.more HBV.out)
            have HCV : Hid (CB V (fun b => (x b ∨ b = w.heap.size) ∨ New w2 V b) A bts) := Lib.hid (((HCB.out.safe HS2.out HX1.out fun _ k => k).keep (fun b k => HBV.out.block b (Nat.lt_of_lt_of_le (HX1.out b k).2 HS2.out.size)) fun b k => .inl k))
            obtain ⟨⟨eP, S5⟩, hp5⟩ : ∃ R, R = progL Q2.S Q2.op (tellB Q2.S Q2.op).next bts := ⟨_, rfl⟩
            have HPE : Hid ((progL Q2.S Q2.op (tellB Q2.S Q2.op).next bts).1 = eP) := Lib.hid (by rw [← hp5])
            have HPS : Hid ((progL Q2.S Q2.op (tellB Q2.S Q2.op).next bts).2 = S5) := Lib.hid (by rw [← hp5])
            have HO5 : Hid (Ok { Q2 with S := (progL Q2.S Q2.op (tellB Q2.S Q2.op).next bts).2 }) := Lib.hid (HO2.out.prog _ _ _)
            have HM4 : Hid ((if eP = 0 then some (Q2.nextAt, 0, ({ Q2 with S := (progL Q2.S Q2.op (tellB Q2.S Q2.op).next bts).2 } : PS)) else if ({ Q2 with S := (progL Q2.S Q2.op (tellB Q2.S Q2.op).next bts).2 } : PS).passed eP = 0 then PS.write n bts k1 { Q2 with S := (progL Q2.S Q2.op (tellB Q2.S Q2.op).next bts).2 } else some ((0, 0), ({ Q2 with S := (progL Q2.S Q2.op (tellB Q2.S Q2.op).next bts).2 } : PS).passed eP, { Q2 with S := (progL Q2.S Q2.op (tellB Q2.S Q2.op).next bts).2 })) = some (s, er, Q')) := Lib.hid (by rw [← HPE.out]; exact HM3.out)
            clear hp5
            by_cases hp : eP = 0
            · subst hp
              have HE : Hid (s = (Q2.op, (tellB Q2.S Q2.op).next) ∧ er = 0 ∧ Q' = { Q2 with S := (progL Q2.S Q2.op (tellB Q2.S Q2.op).next bts).2 }) := Lib.hid (by have hM := HM4.out; rw [if_pos rfl] at hM; have := Option.some.inj hM; exact ⟨(congrArg (fun z : P2 × Int × PS => z.1) this).symm, (congrArg (fun z : P2 × Int × PS => z.2.1) this).symm, (congrArg (fun z : P2 × Int × PS => z.2.2) this).symm⟩)
              clear HM4
              go_upto_region 5 with fail
              go_region_held3 (fun V => V.cell? ⟨p, 0, none⟩ = some (.pointer (some ⟨c, 0, none⟩)) ∧ V.cell? ⟨gz, 0, none⟩ = some (.int .i64 Q2.op) ∧ V.cell? ⟨gz, 1, none⟩ = some (.int .i64 (tellB Q2.S Q2.op).next))
                (first | exact ⟨d0, g0, g1⟩ | exact HK5.out)
                (first
                  | (go_at_call 119; (with_reducible refine (Pool.prog A bts.length m bts Q2.op (tellB Q2.S Q2.op).next rfl (HPV.out.below (Below.refl _ _).drew) (HCV.out.keep (fun _ _ => rfl) fun _ k => k)).mono ?_); rintro e w5 ⟨rfl, h5, hs5⟩; rw [HPE.out]; have HP5 := Lib.hid h5; have HS5 : Hid (Safe (fun b => (x b ∨ b = w.heap.size) ∨ New w2 V b) V w5) := Lib.hid ((safe_of_below (Below.refl _ _).drew).then hs5); obtain ⟨l5, f5, hpt5⟩ := h5.parts; have HT5 := Lib.hid hpt5; have HK5 : Hid (w5.cell? ⟨p, 0, none⟩ = some (.pointer (some ⟨c, 0, none⟩)) ∧ w5.cell? ⟨gz, 0, none⟩ = some (.int .i64 Q2.op) ∧ w5.cell? ⟨gz, 1, none⟩ = some (.int .i64 (tellB Q2.S Q2.op).next)) := Lib.hid ⟨hpt5.c0, (World.cell?_of_block (a := ⟨gz, 0, none⟩) (HS5.out.block hgl (.inr hgn))).trans g0, (World.cell?_of_block (a := ⟨gz, 1, none⟩) (HS5.out.block hgl (.inr hgn))).trans g1⟩; have HS15 : Hid (Safe (fun b => x b ∨ b = w.heap.size) W w5) := Lib.hid ((HS2.out.then (safe_of_below HBV.out)).then' HS5.out fun _ _ k => .inl k); clear h5 hs5 hpt5))
              obtain ⟨-, k0, k1⟩ := HK5.out
              obtain ⟨f0, f1, fr0, fr1⟩ := cells2q (HRR.out w5 HS15.out)
              obtain ⟨m0, m1, -, -⟩ := cells2q (two_set (HRR.out w5 HS15.out) (.int .i64 Q2.op) (.int .i64 (tellB Q2.S Q2.op).next))
              go_wp2_with fail
              refine bodyPost_ret (by simp [results, Tryz.results88, go_sem, m0, m1]; try rfl) rfl ?_
              rw [HE.out.1, HE.out.2.1, HE.out.2.2]
              exact ⟨rfl, (HP5.out.two (.inl (.inr rfl)) _ _).less fun b k => .inl (.inl k), safe_two ((safe_of_below HBW.out).then' HS15.out fun _ _ k => .inl k) (Nat.le_refl _) _ _⟩
            · by_cases hq : ({ Q2 with S := (progL Q2.S Q2.op (tellB Q2.S Q2.op).next bts).2 } : PS).passed eP = 0
              · have HM5 : Hid (PS.write n bts k1 { Q2 with S := (progL Q2.S Q2.op (tellB Q2.S Q2.op).next bts).2 } = some (s, er, Q')) := Lib.hid (by have hM := HM4.out; rw [if_neg hp, if_pos hq] at hM; exact hM)
                have HQ0 := Lib.hid hq
                clear HM4 hq
                go_upto_region 5 with fail
                go_region_held3 (fun V => V.cell? ⟨p, 0, none⟩ = some (.pointer (some ⟨c, 0, none⟩)) ∧ V.cell? ⟨gz, 0, none⟩ = some (.int .i64 Q2.op) ∧ V.cell? ⟨gz, 1, none⟩ = some (.int .i64 (tellB Q2.S Q2.op).next))
                  (first | exact ⟨d0, g0, g1⟩ | exact HK5.out)
                  (first
                    | (go_at_call 119; (with_reducible refine (Pool.prog A bts.length m bts Q2.op (tellB Q2.S Q2.op).next rfl (HPV.out.below (Below.refl _ _).drew) (HCV.out.keep (fun _ _ => rfl) fun _ k => k)).mono ?_); rintro e w5 ⟨rfl, h5, hs5⟩; rw [HPE.out]; have HP5 := Lib.hid h5; have HS5 : Hid (Safe (fun b => (x b ∨ b = w.heap.size) ∨ New w2 V b) V w5) := Lib.hid ((safe_of_below (Below.refl _ _).drew).then hs5); obtain ⟨l5, f5, hpt5⟩ := h5.parts; have HT5 := Lib.hid hpt5; have HK5 : Hid (w5.cell? ⟨p, 0, none⟩ = some (.pointer (some ⟨c, 0, none⟩)) ∧ w5.cell? ⟨gz, 0, none⟩ = some (.int .i64 Q2.op) ∧ w5.cell? ⟨gz, 1, none⟩ = some (.int .i64 (tellB Q2.S Q2.op).next)) := Lib.hid ⟨hpt5.c0, (World.cell?_of_block (a := ⟨gz, 0, none⟩) (HS5.out.block hgl (.inr hgn))).trans g0, (World.cell?_of_block (a := ⟨gz, 1, none⟩) (HS5.out.block hgl (.inr hgn))).trans g1⟩; have HS15 : Hid (Safe (fun b => x b ∨ b = w.heap.size) W w5) := Lib.hid ((HS2.out.then (safe_of_below HBV.out)).then' HS5.out fun _ _ k => .inl k); clear h5 hs5 hpt5))
                go_wp2_with (go_at_call 120; (with_reducible refine (q_passed eP HT5.out HO5.out).mono ?_); rintro e w6 ⟨rfl, hb6⟩; rw [HQ0.out]; have HB6 := Lib.hid hb6; clear hb6)
                go_roundg k1
                case measure => omega
                case rel => exact ⟨_, (HP5.out.below HB6.out).less fun b k => .inl k, HO5.out, HM5.out, HS15.out.then (safe_of_below HB6.out)⟩
              · obtain ⟨eq, heq⟩ : ∃ eq, eq = ({ Q2 with S := (progL Q2.S Q2.op (tellB Q2.S Q2.op).next bts).2 } : PS).passed eP := ⟨_, rfl⟩
                have HE : Hid (s = (0, 0) ∧ er = eq ∧ Q' = { Q2 with S := (progL Q2.S Q2.op (tellB Q2.S Q2.op).next bts).2 }) := Lib.hid (by have hM := HM4.out; rw [if_neg hp, if_neg hq, ← heq] at hM; have := Option.some.inj hM; exact ⟨(congrArg (fun z : P2 × Int × PS => z.1) this).symm, (congrArg (fun z : P2 × Int × PS => z.2.1) this).symm, (congrArg (fun z : P2 × Int × PS => z.2.2) this).symm⟩)
                rw [← heq] at hq
                have HQ0 := Lib.hid heq
                clear HM4 heq
                go_upto_region 5 with fail
                go_region_held3 (fun V => V.cell? ⟨p, 0, none⟩ = some (.pointer (some ⟨c, 0, none⟩)) ∧ V.cell? ⟨gz, 0, none⟩ = some (.int .i64 Q2.op) ∧ V.cell? ⟨gz, 1, none⟩ = some (.int .i64 (tellB Q2.S Q2.op).next))
                  (first | exact ⟨d0, g0, g1⟩ | exact HK5.out)
                  (first
                    | (go_at_call 119; (with_reducible refine (Pool.prog A bts.length m bts Q2.op (tellB Q2.S Q2.op).next rfl (HPV.out.below (Below.refl _ _).drew) (HCV.out.keep (fun _ _ => rfl) fun _ k => k)).mono ?_); rintro e w5 ⟨rfl, h5, hs5⟩; rw [HPE.out]; have HP5 := Lib.hid h5; have HS5 : Hid (Safe (fun b => (x b ∨ b = w.heap.size) ∨ New w2 V b) V w5) := Lib.hid ((safe_of_below (Below.refl _ _).drew).then hs5); obtain ⟨l5, f5, hpt5⟩ := h5.parts; have HT5 := Lib.hid hpt5; have HK5 : Hid (w5.cell? ⟨p, 0, none⟩ = some (.pointer (some ⟨c, 0, none⟩)) ∧ w5.cell? ⟨gz, 0, none⟩ = some (.int .i64 Q2.op) ∧ w5.cell? ⟨gz, 1, none⟩ = some (.int .i64 (tellB Q2.S Q2.op).next)) := Lib.hid ⟨hpt5.c0, (World.cell?_of_block (a := ⟨gz, 0, none⟩) (HS5.out.block hgl (.inr hgn))).trans g0, (World.cell?_of_block (a := ⟨gz, 1, none⟩) (HS5.out.block hgl (.inr hgn))).trans g1⟩; have HS15 : Hid (Safe (fun b => x b ∨ b = w.heap.size) W w5) := Lib.hid ((HS2.out.then (safe_of_below HBV.out)).then' HS5.out fun _ _ k => .inl k); clear h5 hs5 hpt5))
                go_upto_region 10 with (go_at_call 120; (with_reducible refine (q_passed eP HT5.out HO5.out).mono ?_); rintro e w6 ⟨rfl, hb6⟩; rw [← HQ0.out]; have HB6 := Lib.hid hb6; clear hb6)
                have HS16 : Hid (Safe (fun b => x b ∨ b = w.heap.size) W w6) := Lib.hid (HS15.out.then (safe_of_below HB6.out))
                obtain ⟨f0, f1, fr0, fr1⟩ := cells2q (HRR.out w6 HS16.out)
                obtain ⟨m0, m1, -, -⟩ := cells2q (two_set (HRR.out w6 HS16.out) (.int .i64 0) (.int .i64 0))
                go_wp2_with fail
                refine bodyPost_ret (by simp [results, Tryz.results88, go_sem, m0, m1]; try rfl) rfl ?_
                rw [HE.out.1, HE.out.2.1, HE.out.2.2]
                exact ⟨rfl, ((HP5.out.below HB6.out).two (.inl (.inr rfl)) _ _).less fun b k => .inl (.inl k), safe_two ((safe_of_below HBW.out).then' HS16.out fun _ _ k => .inl k) (Nat.le_refl _) _ _⟩
          · obtain ⟨V, hV⟩ : ∃ V, (w3.setCell ⟨w2.heap.size, 0, none⟩ (.int .i64 Q2.op)).setCell ⟨w2.heap.size, 1, none⟩ (.int .i64 (tellB Q2.S Q2.op).next) = V := ⟨_, rfl⟩
            have HBV : Hid (Below w2.heap.size w2 V) := Lib.hid (by rw [← hV]; exact (HBB.out.setCell (Nat.le_refl _) _).setCell (Nat.le_refl _) _)
            have hg : V.heap[w2.heap.size]? = some (.cells #[.int .i64 Q2.op, .int .i64 (tellB Q2.S Q2.op).next] 69 (0, 0)) := by rw [← hV]; exact two_set ((hb3.block w2.heap.size (by simp)).trans (heap_alloc_new w2 _)) _ _
            rw [hV]
            obtain ⟨g0, g1, -, -⟩ := cells2q hg
            have hgl := lt_size hg
            have hgn : New w2 V w2.heap.size := ⟨Nat.le_refl _, hgl⟩
            obtain ⟨gz, hgz⟩ : ∃ gz, gz = w2.heap.size := ⟨_, rfl⟩
            rw [← hgz] at g0 g1 hgl ⊢
            have hgn' : New w2 V gz := by rw [hgz]; exact hgn
            clear hgn
            have hgn := hgn'
            clear hV hg hb3 n0 n1 n2 n3 hgz hgn' c0 c10 fnx
            have HATV := Lib.hid (HT2.out.below HBV.out)
            have d0 := HATV.out.c0
            have HPV : Hid (Pool V p c (fun b => (x b ∨ b = w.heap.size) ∨ New w2 V b) Q2) := Lib.hid (HP2.out.more HBV.out)
            have HCV : Hid (CB V (fun b => (x b ∨ b = w.heap.size) ∨ New w2 V b) A bts) := Lib.hid (((HCB.out.safe HS2.out HX1.out fun _ k => k).keep (fun b k => HBV.out.block b (Nat.lt_of_lt_of_le (HX1.out b k).2 HS2.out.size)) fun b k => .inl k))
            obtain ⟨⟨eP, S5⟩, hp5⟩ : ∃ R, R = progL Q2.S Q2.op (tellB Q2.S Q2.op).next bts := ⟨_, rfl⟩
            have HPE : Hid ((progL Q2.S Q2.op (tellB Q2.S Q2.op).next bts).1 = eP) := Lib.hid (by rw [← hp5])
            have HPS : Hid ((progL Q2.S Q2.op (tellB Q2.S Q2.op).next bts).2 = S5) := Lib.hid (by rw [← hp5])
            have HO5 : Hid (Ok { Q2 with S := (progL Q2.S Q2.op (tellB Q2.S Q2.op).next bts).2 }) := Lib.hid (HO2.out.prog _ _ _)
            have HM4 : Hid ((if eP = 0 then some (Q2.nextAt, 0, ({ Q2 with S := (progL Q2.S Q2.op (tellB Q2.S Q2.op).next bts).2 } : PS)) else if ({ Q2 with S := (progL Q2.S Q2.op (tellB Q2.S Q2.op).next bts).2 } : PS).passed eP = 0 then PS.write n bts k1 { Q2 with S := (progL Q2.S Q2.op (tellB Q2.S Q2.op).next bts).2 } else some ((0, 0), ({ Q2 with S := (progL Q2.S Q2.op (tellB Q2.S Q2.op).next bts).2 } : PS).passed eP, { Q2 with S := (progL Q2.S Q2.op (tellB Q2.S Q2.op).next bts).2 })) = some (s, er, Q')) := Lib.hid (by rw [← HPE.out]; exact HM3.out)
            clear hp5
            by_cases hp : eP = 0
            · subst hp
              have HE : Hid (s = (Q2.op, (tellB Q2.S Q2.op).next) ∧ er = 0 ∧ Q' = { Q2 with S := (progL Q2.S Q2.op (tellB Q2.S Q2.op).next bts).2 }) := Lib.hid (by have hM := HM4.out; rw [if_pos rfl] at hM; have := Option.some.inj hM; exact ⟨(congrArg (fun z : P2 × Int × PS => z.1) this).symm, (congrArg (fun z : P2 × Int × PS => z.2.1) this).symm, (congrArg (fun z : P2 × Int × PS => z.2.2) this).symm⟩)
              clear HM4
              go_upto_region 5 with fail
              go_region_held3 (fun V => V.cell? ⟨p, 0, none⟩ = some (.pointer (some ⟨c, 0, none⟩)) ∧ V.cell? ⟨gz, 0, none⟩ = some (.int .i64 Q2.op) ∧ V.cell? ⟨gz, 1, none⟩ = some (.int .i64 (tellB Q2.S Q2.op).next))
                (first | exact ⟨d0, g0, g1⟩ | exact HK5.out)
                (first
                  | (go_at_call 119; (with_reducible refine (Pool.prog A bts.length m bts Q2.op (tellB Q2.S Q2.op).next rfl (HPV.out.below (Below.refl _ _).drew) (HCV.out.keep (fun _ _ => rfl) fun _ k => k)).mono ?_); rintro e w5 ⟨rfl, h5, hs5⟩; rw [HPE.out]; have HP5 := Lib.hid h5; have HS5 : Hid (Safe (fun b => (x b ∨ b = w.heap.size) ∨ New w2 V b) V w5) := Lib.hid ((safe_of_below (Below.refl _ _).drew).then hs5); obtain ⟨l5, f5, hpt5⟩ := h5.parts; have HT5 := Lib.hid hpt5; have HK5 : Hid (w5.cell? ⟨p, 0, none⟩ = some (.pointer (some ⟨c, 0, none⟩)) ∧ w5.cell? ⟨gz, 0, none⟩ = some (.int .i64 Q2.op) ∧ w5.cell? ⟨gz, 1, none⟩ = some (.int .i64 (tellB Q2.S Q2.op).next)) := Lib.hid ⟨hpt5.c0, (World.cell?_of_block (a := ⟨gz, 0, none⟩) (HS5.out.block hgl (.inr hgn))).trans g0, (World.cell?_of_block (a := ⟨gz, 1, none⟩) (HS5.out.block hgl (.inr hgn))).trans g1⟩; have HS15 : Hid (Safe (fun b => x b ∨ b = w.heap.size) W w5) := Lib.hid ((HS2.out.then (safe_of_below HBV.out)).then' HS5.out fun _ _ k => .inl k); clear h5 hs5 hpt5))
              obtain ⟨-, k0, k1⟩ := HK5.out
              obtain ⟨f0, f1, fr0, fr1⟩ := cells2q (HRR.out w5 HS15.out)
              obtain ⟨m0, m1, -, -⟩ := cells2q (two_set (HRR.out w5 HS15.out) (.int .i64 Q2.op) (.int .i64 (tellB Q2.S Q2.op).next))
              go_wp2_with fail
              refine bodyPost_ret (by simp [results, Tryz.results88, go_sem, m0, m1]; try rfl) rfl ?_
              rw [HE.out.1, HE.out.2.1, HE.out.2.2]
              exact ⟨rfl, (HP5.out.two (.inl (.inr rfl)) _ _).less fun b k => .inl (.inl k), safe_two ((safe_of_below HBW.out).then' HS15.out fun _ _ k => .inl k) (Nat.le_refl _) _ _⟩
            · by_cases hq : ({ Q2 with S := (progL Q2.S Q2.op (tellB Q2.S Q2.op).next bts).2 } : PS).passed eP = 0
              · have HM5 : Hid (PS.write n bts k1 { Q2 with S := (progL Q2.S Q2.op (tellB Q2.S Q2.op).next bts).2 } = some (s, er, Q')) := Lib.hid (by have hM := HM4.out; rw [if_neg hp, if_pos hq] at hM; exact hM)
                have HQ0 := Lib.hid hq
                clear HM4 hq
                go_upto_region 5 with fail
                go_region_held3 (fun V => V.cell? ⟨p, 0, none⟩ = some (.pointer (some ⟨c, 0, none⟩)) ∧ V.cell? ⟨gz, 0, none⟩ = some (.int .i64 Q2.op) ∧ V.cell? ⟨gz, 1, none⟩ = some (.int .i64 (tellB Q2.S Q2.op).next))
                  (first | exact ⟨d0, g0, g1⟩ | exact HK5.out)
                  (first
                    | (go_at_call 119; (with_reducible refine (Pool.prog A bts.length m bts Q2.op (tellB Q2.S Q2.op).next rfl (HPV.out.below (Below.refl _ _).drew) (HCV.out.keep (fun _ _ => rfl) fun _ k => k)).mono ?_); rintro e w5 ⟨rfl, h5, hs5⟩; rw [HPE.out]; have HP5 := Lib.hid h5; have HS5 : Hid (Safe (fun b => (x b ∨ b = w.heap.size) ∨ New w2 V b) V w5) := Lib.hid ((safe_of_below (Below.refl _ _).drew).then hs5); obtain ⟨l5, f5, hpt5⟩ := h5.parts; have HT5 := Lib.hid hpt5; have HK5 : Hid (w5.cell? ⟨p, 0, none⟩ = some (.pointer (some ⟨c, 0, none⟩)) ∧ w5.cell? ⟨gz, 0, none⟩ = some (.int .i64 Q2.op) ∧ w5.cell? ⟨gz, 1, none⟩ = some (.int .i64 (tellB Q2.S Q2.op).next)) := Lib.hid ⟨hpt5.c0, (World.cell?_of_block (a := ⟨gz, 0, none⟩) (HS5.out.block hgl (.inr hgn))).trans g0, (World.cell?_of_block (a := ⟨gz, 1, none⟩) (HS5.out.block hgl (.inr hgn))).trans g1⟩; have HS15 : Hid (Safe (fun b => x b ∨ b = w.heap.size) W w5) := Lib.hid ((HS2.out.then (safe_of_below HBV.out)).then' HS5.out fun _ _ k => .inl k); clear h5 hs5 hpt5))
                go_wp2_with (go_at_call 120; (with_reducible refine (q_passed eP HT5.out HO5.out).mono ?_); rintro e w6 ⟨rfl, hb6⟩; rw [HQ0.out]; have HB6 := Lib.hid hb6; clear hb6)
                go_roundg k1
                case measure => omega
                case rel => exact ⟨_, (HP5.out.below HB6.out).less fun b k => .inl k, HO5.out, HM5.out, HS15.out.then (safe_of_below HB6.out)⟩
              · obtain ⟨eq, heq⟩ : ∃ eq, eq = ({ Q2 with S := (progL Q2.S Q2.op (tellB Q2.S Q2.op).next bts).2 } : PS).passed eP := ⟨_, rfl⟩
                have HE : Hid (s = (0, 0) ∧ er = eq ∧ Q' = { Q2 with S := (progL Q2.S Q2.op (tellB Q2.S Q2.op).next bts).2 }) := Lib.hid (by have hM := HM4.out; rw [if_neg hp, if_neg hq, ← heq] at hM; have := Option.some.inj hM; exact ⟨(congrArg (fun z : P2 × Int × PS => z.1) this).symm, (congrArg (fun z : P2 × Int × PS => z.2.1) this).symm, (congrArg (fun z : P2 × Int × PS => z.2.2) this).symm⟩)
                rw [← heq] at hq
                have HQ0 := Lib.hid heq
                clear HM4 heq
                go_upto_region 5 with fail
                go_region_held3 (fun V => V.cell? ⟨p, 0, none⟩ = some (.pointer (some ⟨c, 0, none⟩)) ∧ V.cell? ⟨gz, 0, none⟩ = some (.int .i64 Q2.op) ∧ V.cell? ⟨gz, 1, none⟩ = some (.int .i64 (tellB Q2.S Q2.op).next))
                  (first | exact ⟨d0, g0, g1⟩ | exact HK5.out)
                  (first
                    | (go_at_call 119; (with_reducible refine (Pool.prog A bts.length m bts Q2.op (tellB Q2.S Q2.op).next rfl (HPV.out.below (Below.refl _ _).drew) (HCV.out.keep (fun _ _ => rfl) fun _ k => k)).mono ?_); rintro e w5 ⟨rfl, h5, hs5⟩; rw [HPE.out]; have HP5 := Lib.hid h5; have HS5 : Hid (Safe (fun b => (x b ∨ b = w.heap.size) ∨ New w2 V b) V w5) := Lib.hid ((safe_of_below (Below.refl _ _).drew).then hs5); obtain ⟨l5, f5, hpt5⟩ := h5.parts; have HT5 := Lib.hid hpt5; have HK5 : Hid (w5.cell? ⟨p, 0, none⟩ = some (.pointer (some ⟨c, 0, none⟩)) ∧ w5.cell? ⟨gz, 0, none⟩ = some (.int .i64 Q2.op) ∧ w5.cell? ⟨gz, 1, none⟩ = some (.int .i64 (tellB Q2.S Q2.op).next)) := Lib.hid ⟨hpt5.c0, (World.cell?_of_block (a := ⟨gz, 0, none⟩) (HS5.out.block hgl (.inr hgn))).trans g0, (World.cell?_of_block (a := ⟨gz, 1, none⟩) (HS5.out.block hgl (.inr hgn))).trans g1⟩; have HS15 : Hid (Safe (fun b => x b ∨ b = w.heap.size) W w5) := Lib.hid ((HS2.out.then (safe_of_below HBV.out)).then' HS5.out fun _ _ k => .inl k); clear h5 hs5 hpt5))
                go_upto_region 10 with (go_at_call 120; (with_reducible refine (q_passed eP HT5.out HO5.out).mono ?_); rintro e w6 ⟨rfl, hb6⟩; rw [← HQ0.out]; have HB6 := Lib.hid hb6; clear hb6)
                have HS16 : Hid (Safe (fun b => x b ∨ b = w.heap.size) W w6) := Lib.hid (HS15.out.then (safe_of_below HB6.out))
                obtain ⟨f0, f1, fr0, fr1⟩ := cells2q (HRR.out w6 HS16.out)
                obtain ⟨m0, m1, -, -⟩ := cells2q (two_set (HRR.out w6 HS16.out) (.int .i64 0) (.int .i64 0))
                go_wp2_with fail
                refine bodyPost_ret (by simp [results, Tryz.results88, go_sem, m0, m1]; try rfl) rfl ?_
                rw [HE.out.1, HE.out.2.1, HE.out.2.2]
                exact ⟨rfl, ((HP5.out.below HB6.out).two (.inl (.inr rfl)) _ _).less fun b k => .inl (.inl k), safe_two ((safe_of_below HBW.out).then' HS16.out fun _ _ k => .inl k) (Nat.le_refl _) _ _⟩
end
end Go.Proofs.YtnadcdgpfopcaaaGreat
