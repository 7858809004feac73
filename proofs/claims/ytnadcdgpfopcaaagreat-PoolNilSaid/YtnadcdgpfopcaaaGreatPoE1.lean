/- A pool: move. -/
import Derived.Test.YtnadcdgpfopcaaaGreatPoD4
import Derived.Deep.LoopGhost
namespace Go.Proofs.YtnadcdgpfopcaaaGreat
open Go.RowKit

section
variable {w w' : World} {p c l f : Nat} {x y X Y Z : Nat → Prop} {Q Q1 : PS} {T : List Fd}
/-- A pick as a value: what clean tells with it. -/
abbrev Picks (pv : Value) (hot : Bool) : Prop := ∀ (w : World) (p c l f : Nat) (Q : PS), Parts w p c l f Q → Ok Q → Calls Tryz.prog 146 #[.pointer (some ⟨p, 0, none⟩), pv] w fun e w' => e = .returned (.int .i64 (Q.clean hot)) ∧ Below w.heap.size w w'
theorem picks_cold : Picks (.func (.func 147) #[] #[]) false := fun _ _ _ _ _ _ h ok => q_cold h ok
theorem picks_hot : Picks (.func (.func 188) #[] #[]) true := fun _ _ _ _ _ _ h ok => q_hot h ok
theorem num_wf {i : Int} (h : Q.num i) (ok : Ok Q) : (Lit.int .i64 i).wf = true := wf_of (by have := ok.may.1; have := h.1; have := h.2; omega)
theorem here_wf (h : Pool w p c x Q) (i : Int) : ∀ f ∈ Q.here i, WfP f.1 ∧ WfP f.2 := by
  obtain ⟨l, f, hp⟩ := h.parts
  intro g hg
  have key : ∀ T : List Fd, g ∈ inT T i → g ∈ T := fun T k => by
    unfold inT at k
    have := (fold_perm _ []).mem_iff.1 k
    simp at this
    exact this.1
  rcases List.mem_append.1 hg with k | k
  · exact hp.live.ints g (key _ k)
  · exact hp.fresh.ints g (key _ k)
set_option maxRecDepth 100000 in
set_option maxHeartbeats 4000000 in
theorem q_move {pv : Value} {hot : Bool} (hpk : Picks pv hot) (i : Int) (n : Nat) {td er : Int} {Q' : PS} (h : Pool w p c x Q) (ok : Ok Q) (hi : (Lit.int .i64 i).wf = true) (hm : Q.move n i hot = some (td, er, Q')) : Calls Tryz.prog 165 #[.pointer (some ⟨p, 0, none⟩), .int .i64 i, pv] w fun r w' => r = .returned (.tuple #[.int .i64 td, .int .i64 er]) ∧ Pool w' p c x Q' ∧ Safe x w w' := by
  obtain ⟨l, f, hpt⟩ := h.parts
  have c7 := hpt.c7
  have c8 := hpt.c8
  have HT := Lib.hid hpt
  have HP := Lib.hid h
  have HOk := Lib.hid ok
  have HI := Lib.hid hi
  have HM := Lib.hid hm
  have HL : Hid (Q.L.length ≤ 1000 ∧ Q.F.length ≤ 1000) := Lib.hid (by have := ok.tabs; omega)
  have HW := Lib.hid (here_wf h i)
  have HN : Hid ((inT Q.L i).length ≤ 400 ∧ (inT Q.F i).length ≤ 400) := Lib.hid (by
    have h1 := here_len Q i
    have h2 := ok.held i
    unfold PS.here at h1
    rw [List.length_append] at h1
    omega)
  have HK := Lib.hid hpk
  clear hpt h ok hi hm hpk
  go_enter Tryz.func165, Tryz.ntmps165
  go_upto_region 1 with fail
  go_region_held3 (fun V => V.cell? ⟨p, 7, none⟩ = some (.pointer (some ⟨l, 0, none⟩)) ∧ V.cell? ⟨p, 8, none⟩ = some (.pointer (some ⟨f, 0, none⟩)))
    (first | exact ⟨c7, c8⟩ | exact ⟨(HT.out.below HB2.out).c7, (HT.out.below HB2.out).c8⟩ | exact ⟨(HT.out.below HB3.out).c7, (HT.out.below HB3.out).c8⟩ | exact ⟨(HT.out.below HB4.out).c7, (HT.out.below HB4.out).c8⟩ | exact ⟨(HT.out.below HB5.out).c7, (HT.out.below HB5.out).c8⟩)
    (first
      | (go_at_call 182; (with_reducible refine (inT_any i (HT.out.live.below (Below.refl _ _).drew) HL.out.1 HI.out).mono ?_); rintro e w2 ⟨A2, m2, rfl, hf2, ha2, hn2, hb2⟩; have HF2 := Lib.hid hf2; have HA2 := Lib.hid ha2; have HE2 := Lib.hid hn2; have HB2 : Hid (Below w.heap.size w w2) := Lib.hid ((Below.refl _ _).drew.trans hb2); clear hf2 ha2 hn2 hb2)
      | (go_at_call 182; (with_reducible refine (inT_any i (HT.out.fresh.below HB2.out) HL.out.2 HI.out).mono ?_); rintro e w3 ⟨A3, m3, rfl, hf3, ha3, hn3, hb3⟩; have HF3 := Lib.hid hf3; have HA3 := Lib.hid ha3; have HE3 := Lib.hid hn3; have HF23 := Lib.hid (HF2.out.below hb3); have HB3 : Hid (Below w.heap.size w w3) := Lib.hid (HB2.out.trans (hb3.mono HB2.out.size)); have HB4 : Hid (Below w.heap.size w (w3.alloc (.cells #[.slice A2 (inT Q.L i).length m2, .slice A3 (inT Q.F i).length m3] 62))) := Lib.hid (HB3.out.alloc HB3.out.size _); clear hf3 ha3 hn3 hb3)
      | (go_at_call 181; refine (concatf_any _ A2 A3 m2 m3 _ (inT Q.L i) (inT Q.F i) _ (heap_alloc_new w3 _) (HF23.out.below ((Below.refl _ _).alloc (Nat.le_refl _) _)) (HF3.out.below ((Below.refl _ _).alloc (Nat.le_refl _) _)) HE2.out HE3.out HN.out.1 HN.out.2).mono ?_; rintro e w5 ⟨A5, m5, rfl, hf5, ha5, hb5⟩; have HF5 := Lib.hid hf5; have HA5 : Hid (∀ ad, A5 = some ad → w.heap.size ≤ ad.block) := Lib.hid (fun ad e => by have := ha5 ad e; have := HB4.out.size; omega); have HB5 : Hid (Below w.heap.size w w5) := Lib.hid (HB4.out.trans (hb5.mono HB4.out.size)); clear hf5 ha5 hb5))
  have HPA : Hid (Pool w5 p c (fun b => x b ∨ New w w5 b) Q) := Lib.hid (HP.out.more HB5.out)
  have HFL : Hid (FLies w5 A5 (Q.here i)) := HF5
  have hhl : (inT Q.L i).length + (inT Q.F i).length = (Q.here i).length := by simp [PS.here]
  rw [hhl]
  have hh4 : (Q.here i).length ≤ 400 := by rw [here_len]; exact HOk.out.held i
  have HXA : Hid (0 < (Q.here i).length → ∀ ad, A5 = some ad → (x ad.block ∨ New w w5 ad.block)) := Lib.hid fun hn ad e => .inr ⟨HA5.out ad e, by obtain ⟨B, o, e2, hB, -⟩ := HFL.out hn; rw [e] at e2; cases e2; exact hB⟩
  clear hhl HF23 HF2 HF3 HA2 HA3 HE2 HE3 HB2 HB3 HB4 c7 c8
  have hpl := pages_len (Q.here i) Q []
  have HOp := Lib.hid (HOk.out.pages (Q.here i) [])
  have HMv : Hid ((if (Q.pages [] (Q.here i)).1 = 0 then PS.moveLoop (Q.here i) (Q.pages [] (Q.here i)).2.1 hot n (Q.pages [] (Q.here i)).2.2 else some (-1, (Q.pages [] (Q.here i)).1, (Q.pages [] (Q.here i)).2.2)) = some (td, er, Q')) := HM
  have HPg := Lib.hid (q_pages A5 m5 (Q.here i) (by omega) HPA.out HFL.out HXA.out)
  have HLS : Hid (Q.L.length + Q.F.length + (Q.here i).length ≤ 900) := Lib.hid (by have := HOk.out.tabs; omega)
  have HWH := HW
  obtain ⟨H0, hH0⟩ : ∃ H0, H0 = Q.here i := ⟨_, rfl⟩
  rw [← hH0] at HMv HPg HOp hpl HFL HXA hh4 HLS HWH ⊢
  obtain ⟨⟨pe, pg, Q2⟩, hR⟩ : ∃ R, R = Q.pages [] H0 := ⟨_, rfl⟩
  rw [← hR] at HMv HPg HOp hpl
  simp only at HMv HPg HOp hpl
  have hpgl : pg.length ≤ 1000 := by simp at hpl; omega
  clear hR hH0 HM HW hpl
  by_cases hpe : pe = 0
  case neg =>
    have HE : Hid (td = -1 ∧ er = pe ∧ Q' = Q2) := Lib.hid (by have := HMv.out; rw [if_neg hpe] at this; simp at this; exact ⟨this.1.symm, this.2.1.symm, this.2.2.symm⟩)
    go_wp2_with (go_at_call 183; (with_reducible refine HPg.out.mono ?_); rintro e w6 ⟨A6, m6, rfl, hg6, h6, hs6⟩; have HP6 := Lib.hid h6; have HS6 := Lib.hid hs6; clear hg6 h6 hs6)
    go_ret2
    obtain ⟨e1, e2, e3⟩ := HE.out
    rw [e1, e2, e3]
    exact ⟨rfl, HP6.out.less fun b k => .inl (.inl k), (safe_of_below HB5.out).then' HS6.out fun _ _ k => .inl k⟩
  case pos =>
    subst hpe
    have HML : Hid (PS.moveLoop H0 pg hot n Q2 = some (td, er, Q')) := HMv
    clear HMv
    go_wp2_with (go_at_call 183; (with_reducible refine HPg.out.mono ?_); rintro e w6 ⟨A6, m6, rfl, hg6, h6, hs6⟩; have HG6 := Lib.hid hg6; have HP6 := Lib.hid h6; have HS6 := Lib.hid hs6; clear hg6 h6 hs6)
    have hz6 := HS6.out.size
    have hz5 := HB5.out.size
    have HPz : Hid (Pool w6 p c (fun b => x b ∨ New w w6 b) Q2) := Lib.hid (HP6.out.less fun b k => by
      rcases k with k | ⟨k1, k2⟩
      · exact .inl (.inl k)
      · rcases Nat.lt_or_ge b w5.heap.size with e | e
        · exact .inl (.inr ⟨k1, e⟩)
        · exact .inr ⟨e, k2⟩)
    have HGz : Hid (Pgs w6 (fun b => x b ∨ New w w6 b) A6 pg) := Lib.hid (HG6.out.mono fun b k => .inr ⟨Nat.le_trans hz5 k.1, k.2⟩)
    have HFz : Hid (FLies w6 A5 H0) := Lib.hid (HFL.out.safe HS6.out HXA.out)
    have HXz : Hid (0 < H0.length → ∀ ad, A5 = some ad → (x ad.block ∨ New w w6 ad.block)) := Lib.hid fun hn ad e => (HXA.out hn ad e).imp id fun k => ⟨k.1, Nat.lt_of_lt_of_le k.2 hz6⟩
    have HSz : Hid (Safe x w w6) := Lib.hid ((safe_of_below HB5.out).then' HS6.out fun _ _ k => .inl k)
    clear HG6 HP6 HPg HS6 HPA HFL HXA
    go_loopg [11, 12] n (fun k _ _ wr => ∃ Q1, Pool wr p c (fun b => x b ∨ New w w6 b) Q1 ∧ Ok Q1 ∧ PS.moveLoop H0 pg hot k Q1 = some (td, er, Q') ∧ Safe (fun b => x b ∨ New w w6 b) w6 wr)
    case atStart => exact ⟨Q2, HPz.out, HOp.out, HML.out, .refl _ _⟩
    case round =>
      obtain ⟨Q1, hP, hO, hM, hS⟩ := hrel
      have HP1 := Lib.hid hP
      have HO1 := Lib.hid hO
      have HS1 := Lib.hid hS
      obtain ⟨l1, f1, hpt1⟩ := hP.parts
      have HT1 := Lib.hid hpt1
      have HZ : Hid (∀ b, (x b ∨ New w w6 b) → (x b ∨ New w w6 b) ∧ b < w6.heap.size) := Lib.hid fun b k => ⟨k, HPz.out.there b k⟩
      cases gk with
      | zero => cases hM
      | succ k1 =>
        obtain ⟨t1, ht1⟩ : ∃ t1, t1 = Q1.clean hot := ⟨_, rfl⟩
        obtain ⟨⟨e1, Q3⟩, hF1⟩ : ∃ R, R = Q1.fill t1 0 pg := ⟨_, rfl⟩
        have HMu : Hid ((if t1 = -1 then some (-1, 6, Q1) else if ¬ Q1.num t1 then none else if e1 = 0 then (if (Q3.settle t1 0 H0).small then some (t1, 0, Q3.settle t1 0 H0) else none) else if Q3.passed e1 = 0 then PS.moveLoop H0 pg hot k1 Q3 else some (-1, Q3.passed e1, Q3)) = some (td, er, Q')) := Lib.hid (by
          unfold PS.moveLoop at hM
          rw [← ht1, ← hF1] at hM; exact hM)
        have HT := Lib.hid ht1
        have HFi : Hid (Q1.fill t1 0 pg = (e1, Q3)) := Lib.hid hF1.symm
        have HO3 : Hid (Ok Q3) := Lib.hid (by have := hO.fill t1 pg 0; rw [← hF1] at this; exact this)
        clear hP hO hM hS hpt1 ht1 hF1
        by_cases h1 : t1 = -1
        · have HE : Hid (td = -1 ∧ er = 6 ∧ Q' = Q1) := Lib.hid (by have := HMu.out; rw [if_pos h1] at this; simp at this; exact ⟨this.1.symm, this.2.1.symm, this.2.2.symm⟩)
          rw [h1] at HT
          clear h1
          go_wp2_with (go_at_call 146; (with_reducible refine (HK.out _ _ _ _ _ _ HT1.out HO1.out).mono ?_); rintro e w7 ⟨rfl, hb7⟩; rw [← HT.out]; have HB7 := Lib.hid hb7; clear hb7)
          go_ret2
          obtain ⟨e1, e2, e3⟩ := HE.out
          rw [e1, e2, e3]
          exact ⟨rfl, (HP1.out.below HB7.out).less fun b k => .inl k, (HSz.out.then' HS1.out fun _ _ k => .inl k).then (safe_of_below HB7.out)⟩
        · by_cases h2 : Q1.num t1
          case neg => exact absurd HMu.out (by rw [if_neg h1, if_pos h2]; exact fun e => nomatch e)
          case pos =>
            have HTW := Lib.hid (num_wf h2 HO1.out)
            have HMv : Hid ((if e1 = 0 then (if (Q3.settle t1 0 H0).small then some (t1, 0, Q3.settle t1 0 H0) else none) else if Q3.passed e1 = 0 then PS.moveLoop H0 pg hot k1 Q3 else some (-1, Q3.passed e1, Q3)) = some (td, er, Q')) := Lib.hid (by have := HMu.out; rw [if_neg h1, if_neg (fun k => k h2)] at this; exact this)
            clear HMu h2
            have hne1 : ¬ t1 = -1 := h1
            clear h1
            by_cases he : e1 = 0
            · subst he
              have hsm : (Q3.settle t1 0 H0).small := by
                have := HMv.out
                rw [if_pos rfl] at this
                by_cases k : (Q3.settle t1 0 H0).small
                · exact k
                · rw [if_neg k] at this; cases this
              have HE : Hid (td = t1 ∧ er = 0 ∧ Q' = Q3.settle t1 0 H0) := Lib.hid (by have := HMv.out; rw [if_pos rfl, if_pos hsm] at this; simp at this; exact ⟨this.1.symm, this.2.1.symm, this.2.2.symm⟩)
              have HL3 : Hid (Q3.L.length + Q3.F.length + H0.length ≤ 900) := Lib.hid (by have := HO3.out.tabs; omega)
              clear HMv hsm
              go_wp2_with (first
                | (go_at_call 146; (with_reducible refine (HK.out _ _ _ _ _ _ HT1.out HO1.out).mono ?_); rintro e w7 ⟨rfl, hb7⟩; rw [← HT.out]; have HB7 := Lib.hid hb7; clear hb7)
                | (go_at_call 184; (with_reducible refine (q_fill t1 A6 m6 pg hpgl (HP1.out.below HB7.out) ((HGz.out.safe HS1.out HZ.out).safe (safe_of_below HB7.out) (fun b k => ⟨k, Nat.lt_of_lt_of_le (HZ.out b k).2 HS1.out.size⟩))).mono ?_); rintro e w8 ⟨rfl, h8, hs8⟩; rw [HFi.out] at h8 ⊢; have HP8 := Lib.hid h8; have HS8 : Hid (Safe (fun b => x b ∨ New w w6 b) w6 w8) := Lib.hid ((HS1.out.then (safe_of_below HB7.out)).then hs8); clear h8 hs8)
                | (go_at_call 185; (with_reducible refine (q_settle t1 A5 m5 H0 HL3.out HP8.out (HFz.out.safe HS8.out HXz.out) HXz.out HWH.out HTW.out).mono ?_); rintro e w9 ⟨rfl, h9, hs9⟩; have HP9 := Lib.hid h9; have HS9 := Lib.hid hs9; clear h9 hs9))
              go_ret2
              obtain ⟨e1, e2, e3⟩ := HE.out
              rw [e1, e2, e3]
              exact ⟨rfl, HP9.out.less fun b k => .inl k, HSz.out.then' (HS8.out.then HS9.out) fun _ _ k => .inl k⟩
            · by_cases hp : Q3.passed e1 = 0
              · have HM2 : Hid (PS.moveLoop H0 pg hot k1 Q3 = some (td, er, Q')) := Lib.hid (by have := HMv.out; rw [if_neg he, if_pos hp] at this; exact this)
                have HPS := Lib.hid hp
                clear HMv hp
                go_wp2_with (first
                  | (go_at_call 146; (with_reducible refine (HK.out _ _ _ _ _ _ HT1.out HO1.out).mono ?_); rintro e w7 ⟨rfl, hb7⟩; rw [← HT.out]; have HB7 := Lib.hid hb7; clear hb7)
                  | (go_at_call 184; (with_reducible refine (q_fill t1 A6 m6 pg hpgl (HP1.out.below HB7.out) ((HGz.out.safe HS1.out HZ.out).safe (safe_of_below HB7.out) (fun b k => ⟨k, Nat.lt_of_lt_of_le (HZ.out b k).2 HS1.out.size⟩))).mono ?_); rintro e w8 ⟨rfl, h8, hs8⟩; rw [HFi.out] at h8 ⊢; have HP8 := Lib.hid h8; have HS8 : Hid (Safe (fun b => x b ∨ New w w6 b) w6 w8) := Lib.hid ((HS1.out.then (safe_of_below HB7.out)).then hs8); obtain ⟨l8, f8, hpt8⟩ := h8.parts; have HT8 := Lib.hid hpt8; clear h8 hs8 hpt8)
                  | (go_at_call 120; (with_reducible refine (q_passed e1 HT8.out HO3.out).mono ?_); rintro e w9 ⟨rfl, hb9⟩; rw [HPS.out]; have HB9 := Lib.hid hb9; clear hb9))
                go_roundg k1
                case measure => omega
                case rel => exact ⟨Q3, HP8.out.below HB9.out, HO3.out, HM2.out, HS8.out.then (safe_of_below HB9.out)⟩
              · have HE : Hid (td = -1 ∧ er = Q3.passed e1 ∧ Q' = Q3) := Lib.hid (by have := HMv.out; rw [if_neg he, if_neg hp] at this; simp at this; exact ⟨this.1.symm, this.2.1.symm, this.2.2.symm⟩)
                obtain ⟨e9, he9⟩ : ∃ e9, e9 = Q3.passed e1 := ⟨_, rfl⟩
                rw [← he9] at hp
                have HPS := Lib.hid he9
                clear HMv he9
                go_wp2_with (first
                  | (go_at_call 146; (with_reducible refine (HK.out _ _ _ _ _ _ HT1.out HO1.out).mono ?_); rintro e w7 ⟨rfl, hb7⟩; rw [← HT.out]; have HB7 := Lib.hid hb7; clear hb7)
                  | (go_at_call 184; (with_reducible refine (q_fill t1 A6 m6 pg hpgl (HP1.out.below HB7.out) ((HGz.out.safe HS1.out HZ.out).safe (safe_of_below HB7.out) (fun b k => ⟨k, Nat.lt_of_lt_of_le (HZ.out b k).2 HS1.out.size⟩))).mono ?_); rintro e w8 ⟨rfl, h8, hs8⟩; rw [HFi.out] at h8 ⊢; have HP8 := Lib.hid h8; have HS8 : Hid (Safe (fun b => x b ∨ New w w6 b) w6 w8) := Lib.hid ((HS1.out.then (safe_of_below HB7.out)).then hs8); obtain ⟨l8, f8, hpt8⟩ := h8.parts; have HT8 := Lib.hid hpt8; clear h8 hs8 hpt8)
                  | (go_at_call 120; (with_reducible refine (q_passed e1 HT8.out HO3.out).mono ?_); rintro e w9 ⟨rfl, hb9⟩; rw [← HPS.out]; have HB9 := Lib.hid hb9; clear hb9))
                go_ret2
                obtain ⟨f1, f2, f3⟩ := HE.out
                rw [f1, f2, f3, ← HPS.out]
                exact ⟨rfl, (HP8.out.below HB9.out).less fun b k => .inl k, (HSz.out.then' HS8.out fun _ _ k => .inl k).then (safe_of_below HB9.out)⟩
end
end Go.Proofs.YtnadcdgpfopcaaaGreat
