/- A pool: level. -/
import Derived.Test.YtnadcdgpfopcaaaGreatPoE2
namespace Go.Proofs.YtnadcdgpfopcaaaGreat
open Go.RowKit

section
variable {w w' : World} {p c l f : Nat} {x y X Y Z : Nat → Prop} {Q Q1 : PS} {T : List Fd}
set_option maxRecDepth 100000 in
set_option maxHeartbeats 4000000 in
theorem q_level (n m : Nat) (hmB : Q.B + 2 = (m : Int)) {er : Int} {Q' : PS} (h : Pool w p c x Q) (ok : Ok Q) (hm : PS.level n m Q = some (er, Q')) : Calls Tryz.prog 167 #[.pointer (some ⟨p, 0, none⟩)] w fun r w' => r = .returned (.int .i64 er) ∧ Pool w' p c x Q' ∧ Safe x w w' := by
  obtain ⟨l, f, hpt⟩ := h.parts
  have c1 := hpt.c1
  have HP := Lib.hid h
  have HO := Lib.hid ok
  have HM := Lib.hid hm
  have hB := ok.may.1
  obtain ⟨B, hBe⟩ : ∃ B, B = Q.B := ⟨_, rfl⟩
  rw [← hBe] at c1 hB hmB
  clear hBe h ok hm hpt
  have hm66 : m ≤ 66 := by omega
  have hmw : B + 2 = (m : Int) := hmB
  clear hmB
  go_enter Tryz.func167, Tryz.ntmps167
  go_wp2_with fail
  go_loopw [3, 4, 11] (fun _ _ v11 wr => ∃ j : Nat, j ≤ m ∧ v11 = .int .i64 j ∧ ∃ Q1, Pool wr p c x Q1 ∧ Ok Q1 ∧ PS.level n (m - j) Q1 = some (er, Q') ∧ Safe x w wr) (fun _ _ v11 _ => m - (intOf v11).toNat)
  case atStart => exact ⟨0, Nat.zero_le _, rfl, Q, HP.out, HO.out, HM.out, .refl _ _⟩
  case round =>
    obtain ⟨j, hj, rfl, Q1, hP, hO, hM, hS⟩ := hrel
    have HP1 := Lib.hid hP
    have HO1 := Lib.hid hO
    have HS1 := Lib.hid hS
    obtain ⟨l1, f1, hpt1⟩ := hP.parts
    have HT1 := Lib.hid hpt1
    clear hP hS hpt1
    by_cases hj1 : j < m
    · obtain ⟨k, hk⟩ : ∃ k, m - j = k + 1 := ⟨m - j - 1, by omega⟩
      have hk2 : m - (j + 1) = k := by omega
      rw [hk] at hM
      unfold PS.level at hM
      have HK2 := Lib.hid hk2
      clear hk hk2
      by_cases h1 : Q1.due = -1
      · rw [if_pos h1] at hM
        have HE : Hid (er = 0 ∧ Q' = Q1) := Lib.hid (by simp at hM; exact ⟨hM.1.symm, hM.2.symm⟩)
        have HD := Lib.hid h1
        clear hM hO h1
        go_wp2_with (go_at_call 187; (with_reducible refine (q_due HT1.out HO1.out).mono ?_); rintro e w2 ⟨rfl, hb2⟩; rw [HD.out]; have HB2 := Lib.hid hb2; clear hb2)
        go_ret
        rw [HE.out.1, HE.out.2]
        exact ⟨rfl, HP1.out.below HB2.out, HS1.out.then (safe_of_below HB2.out)⟩
      · rw [if_neg h1] at hM
        by_cases h2 : Q1.num Q1.due
        case neg => rw [if_pos h2] at hM; cases hM
        case pos =>
          rw [if_neg (fun k => k h2)] at hM
          obtain ⟨d, hd⟩ : ∃ d, d = Q1.due := ⟨_, rfl⟩
          rw [← hd] at h1 h2 hM
          have HD := Lib.hid hd
          have HW := Lib.hid (num_wf h2 hO)
          have H2 := Lib.hid h2
          clear hd h2 hO
          by_cases h3 : 0 < Q1.held d
          · obtain ⟨hn, hhn⟩ : ∃ hn, hn = Q1.held d := ⟨_, rfl⟩
            rw [← hhn] at h3 hM
            have HH := Lib.hid hhn
            have hpos : (0 : Int) < (hn : Int) := by omega
            clear hhn
            by_cases h4 : Q1.clean true = -1
            · rw [if_pos ⟨h3, h4⟩] at hM
              have HE : Hid (er = 0 ∧ Q' = Q1) := Lib.hid (by simp at hM; exact ⟨hM.1.symm, hM.2.symm⟩)
              have HC := Lib.hid h4
              clear hM h4
              go_wp2_with (first
                | (go_at_call 187; (with_reducible refine (q_due HT1.out HO1.out).mono ?_); rintro e w2 ⟨rfl, hb2⟩; rw [← HD.out]; have HB2 := Lib.hid hb2; clear hb2)
                | (go_at_call 164; (with_reducible refine (q_held d (HT1.out.below HB2.out) HO1.out HW.out).mono ?_); rintro e w3 ⟨rfl, hb3⟩; rw [← HH.out]; have HB3 := Lib.hid (HB2.out.trans (hb3.mono HB2.out.size)); clear hb3)
                | (go_at_call 146; (with_reducible refine (q_hot (HT1.out.below HB3.out) HO1.out).mono ?_); rintro e w4 ⟨rfl, hb4⟩; rw [HC.out]; have HB4 := Lib.hid (HB3.out.trans (hb4.mono HB3.out.size)); clear hb4))
              go_ret
              rw [HE.out.1, HE.out.2]
              exact ⟨rfl, HP1.out.below HB4.out, HS1.out.then (safe_of_below HB4.out)⟩
            · rw [if_neg (fun k => h4 k.2)] at hM
              obtain ⟨cl, hcl⟩ : ∃ cl, cl = Q1.clean true := ⟨_, rfl⟩
              rw [← hcl] at h4
              have HC := Lib.hid hcl
              clear hcl
              have h5 : (cl == -1) = false := by simpa using h4
              have h6 : decide (cl = -1) = false := decide_eq_false h4
              cases hr : Q1.renew n d with
              | none => rw [hr] at hM; cases hM
              | some R =>
                obtain ⟨e1, Q2⟩ := R
                rw [hr] at hM
                simp only at hM
                have HR := Lib.hid hr
                have HO2 := Lib.hid (HO1.out.renew hr)
                clear hr
                by_cases he : e1 = 0
                · subst he
                  rw [if_pos rfl] at hM
                  have HM2 := Lib.hid hM
                  clear hM
                  go_wp2_with (first
                    | (go_at_call 187; (with_reducible refine (q_due HT1.out HO1.out).mono ?_); rintro e w2 ⟨rfl, hb2⟩; rw [← HD.out]; have HB2 := Lib.hid hb2; clear hb2)
                    | (go_at_call 164; (with_reducible refine (q_held d (HT1.out.below HB2.out) HO1.out HW.out).mono ?_); rintro e w3 ⟨rfl, hb3⟩; rw [← HH.out]; have HB3 := Lib.hid (HB2.out.trans (hb3.mono HB2.out.size)); clear hb3)
                    | (go_at_call 146; (with_reducible refine (q_hot (HT1.out.below HB3.out) HO1.out).mono ?_); rintro e w4 ⟨rfl, hb4⟩; rw [← HC.out]; have HB4 := Lib.hid (HB3.out.trans (hb4.mono HB3.out.size)); clear hb4)
                    | (go_at_call 189; (with_reducible refine (q_renew d n (HP1.out.below HB4.out) HO1.out H2.out HR.out).mono ?_); rintro e w5 ⟨rfl, h5, hs5⟩; have HP5 := Lib.hid h5; have HS5 := Lib.hid hs5; clear h5 hs5))
                  go_roundw
                  case rel => exact ⟨j + 1, by omega, by go_num, Q2, HP5.out, HO2.out, by rw [HK2.out]; exact HM2.out, (HS1.out.then (safe_of_below HB4.out)).then HS5.out⟩
                  case measure => simp [intOf]; omega
                · rw [if_neg he] at hM
                  have HE : Hid (er = e1 ∧ Q' = Q2) := Lib.hid (by simp at hM; exact ⟨hM.1.symm, hM.2.symm⟩)
                  clear hM
                  go_wp2_with (first
                    | (go_at_call 187; (with_reducible refine (q_due HT1.out HO1.out).mono ?_); rintro e w2 ⟨rfl, hb2⟩; rw [← HD.out]; have HB2 := Lib.hid hb2; clear hb2)
                    | (go_at_call 164; (with_reducible refine (q_held d (HT1.out.below HB2.out) HO1.out HW.out).mono ?_); rintro e w3 ⟨rfl, hb3⟩; rw [← HH.out]; have HB3 := Lib.hid (HB2.out.trans (hb3.mono HB2.out.size)); clear hb3)
                    | (go_at_call 146; (with_reducible refine (q_hot (HT1.out.below HB3.out) HO1.out).mono ?_); rintro e w4 ⟨rfl, hb4⟩; rw [← HC.out]; have HB4 := Lib.hid (HB3.out.trans (hb4.mono HB3.out.size)); clear hb4)
                    | (go_at_call 189; (with_reducible refine (q_renew d n (HP1.out.below HB4.out) HO1.out H2.out HR.out).mono ?_); rintro e w5 ⟨rfl, h5, hs5⟩; have HP5 := Lib.hid h5; have HS5 := Lib.hid hs5; clear h5 hs5))
                  go_ret
                  rw [HE.out.1, HE.out.2]
                  exact ⟨rfl, HP5.out, (HS1.out.then (safe_of_below HB4.out)).then HS5.out⟩
          · rw [if_neg (fun k => h3 k.1)] at hM
            have HH : Hid (Q1.held d = 0) := Lib.hid (by omega)
            clear h3
            cases hr : Q1.renew n d with
            | none => rw [hr] at hM; cases hM
            | some R =>
              obtain ⟨e1, Q2⟩ := R
              rw [hr] at hM
              simp only at hM
              have HR := Lib.hid hr
              have HO2 := Lib.hid (HO1.out.renew hr)
              clear hr
              by_cases he : e1 = 0
              · subst he
                rw [if_pos rfl] at hM
                have HM2 := Lib.hid hM
                clear hM
                go_wp2_with (first
                  | (go_at_call 187; (with_reducible refine (q_due HT1.out HO1.out).mono ?_); rintro e w2 ⟨rfl, hb2⟩; rw [← HD.out]; have HB2 := Lib.hid hb2; clear hb2)
                  | (go_at_call 164; (with_reducible refine (q_held d (HT1.out.below HB2.out) HO1.out HW.out).mono ?_); rintro e w3 ⟨rfl, hb3⟩; rw [HH.out]; have HB3 := Lib.hid (HB2.out.trans (hb3.mono HB2.out.size)); clear hb3)
                  | (go_at_call 189; (with_reducible refine (q_renew d n (HP1.out.below HB3.out) HO1.out H2.out HR.out).mono ?_); rintro e w5 ⟨rfl, h5, hs5⟩; have HP5 := Lib.hid h5; have HS5 := Lib.hid hs5; clear h5 hs5))
                go_roundw
                case rel => exact ⟨j + 1, by omega, by go_num, Q2, HP5.out, HO2.out, by rw [HK2.out]; exact HM2.out, (HS1.out.then (safe_of_below HB3.out)).then HS5.out⟩
                case measure => simp [intOf]; omega
              · rw [if_neg he] at hM
                have HE : Hid (er = e1 ∧ Q' = Q2) := Lib.hid (by simp at hM; exact ⟨hM.1.symm, hM.2.symm⟩)
                clear hM
                go_wp2_with (first
                  | (go_at_call 187; (with_reducible refine (q_due HT1.out HO1.out).mono ?_); rintro e w2 ⟨rfl, hb2⟩; rw [← HD.out]; have HB2 := Lib.hid hb2; clear hb2)
                  | (go_at_call 164; (with_reducible refine (q_held d (HT1.out.below HB2.out) HO1.out HW.out).mono ?_); rintro e w3 ⟨rfl, hb3⟩; rw [HH.out]; have HB3 := Lib.hid (HB2.out.trans (hb3.mono HB2.out.size)); clear hb3)
                  | (go_at_call 189; (with_reducible refine (q_renew d n (HP1.out.below HB3.out) HO1.out H2.out HR.out).mono ?_); rintro e w5 ⟨rfl, h5, hs5⟩; have HP5 := Lib.hid h5; have HS5 := Lib.hid hs5; clear h5 hs5))
                go_ret
                rw [HE.out.1, HE.out.2]
                exact ⟨rfl, HP5.out, (HS1.out.then (safe_of_below HB3.out)).then HS5.out⟩
    · obtain rfl : j = m := by omega
      rw [Nat.sub_self] at hM
      have HE : Hid (er = 0 ∧ Q' = Q1) := Lib.hid (by simp [PS.level] at hM; exact ⟨hM.1.symm, hM.2.symm⟩)
      clear hM hO
      go_wp2_with fail
      go_ret
      rw [HE.out.1, HE.out.2]
      exact ⟨rfl, HP1.out, HS1.out⟩
end
end Go.Proofs.YtnadcdgpfopcaaaGreat
