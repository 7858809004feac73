/- A pool: renew, level, empty. -/
import Derived.Test.YtnadcdgpfopcaaaGreatPoE1
namespace Go.Proofs.YtnadcdgpfopcaaaGreat
open Go.RowKit

section
variable {w w' : World} {p c l f : Nat} {x y X Y Z : Nat → Prop} {Q Q1 : PS} {T : List Fd}
theorem Ok.renew {n : Nat} {d er : Int} {Q' : PS} (h : Ok Q) (hm : Q.renew n d = some (er, Q')) : Ok Q' := by
  unfold PS.renew at hm
  split at hm
  · split at hm
    · cases hm
    · next h1 =>
      split at hm
      · cases hm; exact (h.move h1).wipe _
      · cases hm; exact h.move h1
  · cases hm; exact h.wipe _
theorem Ok.level {n : Nat} : ∀ (k : Nat) (Q : PS) {er : Int} {Q' : PS}, Ok Q → PS.level n k Q = some (er, Q') → Ok Q' := by
  intro k
  induction k with
  | zero => intro Q er Q' h hm; cases hm; exact h
  | succ k ih =>
    intro Q er Q' h hm
    unfold PS.level at hm
    split at hm
    · cases hm; exact h
    · split at hm
      · cases hm
      · split at hm
        · cases hm; exact h
        · split at hm
          · cases hm
          · next h1 =>
            split at hm
            · exact ih _ (h.renew h1) hm
            · cases hm; exact h.renew h1
set_option maxRecDepth 100000 in
set_option maxHeartbeats 2000000 in
theorem q_renew (d : Int) (n : Nat) {er : Int} {Q' : PS} (h : Pool w p c x Q) (ok : Ok Q) (hd : Q.num d) (hm : Q.renew n d = some (er, Q')) : Calls Tryz.prog 189 #[.pointer (some ⟨p, 0, none⟩), .int .i64 d] w fun r w' => r = .returned (.int .i64 er) ∧ Pool w' p c x Q' ∧ Safe x w w' := by
  obtain ⟨l, f, hpt⟩ := h.parts
  have HT := Lib.hid hpt
  have HP := Lib.hid h
  have HO := Lib.hid ok
  have HI := Lib.hid (num_wf hd ok)
  unfold PS.renew at hm
  by_cases hh : 0 < Q.held d
  · rw [if_pos hh] at hm
    cases hmv : Q.move n d true with
    | none => rw [hmv] at hm; cases hm
    | some R =>
      obtain ⟨td, e1, Q1⟩ := R
      rw [hmv] at hm
      simp only at hm
      have HMV := Lib.hid hmv
      have HO1 := Lib.hid (ok.move hmv)
      obtain ⟨hn, hhn⟩ : ∃ hn, hn = Q.held d := ⟨_, rfl⟩
      rw [← hhn] at hh
      have HH := Lib.hid hhn
      have hpos : (0 : Int) < (hn : Int) := by omega
      clear hhn hmv h ok hd hpt
      by_cases he : e1 = 0
      · subst he
        rw [if_pos rfl] at hm
        have HW : Hid (Q1.wipe d = (er, Q')) := Lib.hid (by simpa using hm)
        clear hm
        go_enter Tryz.func189, Tryz.ntmps189
        go_upto_region 5 with (first
          | (go_at_call 164; (with_reducible refine (q_held d HT.out HO.out HI.out).mono ?_); rintro e w2 ⟨rfl, hb2⟩; rw [← HH.out]; have HB2 := Lib.hid hb2; clear hb2)
          | (go_at_call 165; (with_reducible refine (q_move picks_hot d n (HP.out.below HB2.out) HO.out HI.out HMV.out).mono ?_); rintro e w3 ⟨rfl, h3, hs3⟩; have HP3 := Lib.hid h3; have HS3 := Lib.hid hs3; clear h3 hs3))
        obtain ⟨l3, f3, hpt3⟩ := HP3.out.parts
        have c0 := hpt3.c0
        clear hpt3
        go_wp2_with (first
          | (go_at_call 166; (with_reducible refine (Pool.erase d HP3.out).mono ?_); rintro e w4 ⟨rfl, h4, hs4⟩; have HP4 := Lib.hid h4; have HS4 := Lib.hid hs4; obtain ⟨l4, f4, hpt4⟩ := h4.parts; have HT4 := Lib.hid hpt4; clear h4 hs4 hpt4)
          | (go_at_call 120; (with_reducible refine (q_passed _ HT4.out (HO1.out.erase d)).mono ?_); rintro e w5 ⟨rfl, hb5⟩; have HB5 := Lib.hid hb5; clear hb5))
        go_ret
        have e1 : (Q1.wipe d).1 = er := by rw [HW.out]
        have e2 : (Q1.wipe d).2 = Q' := by rw [HW.out]
        exact ⟨ret_int e1, by rw [← e2]; exact HP4.out.below HB5.out, ((safe_of_below HB2.out).then HS3.out).then (HS4.out.then (safe_of_below HB5.out))⟩
      · rw [if_neg he] at hm
        have HE : Hid (er = e1 ∧ Q' = Q1) := Lib.hid (by simp at hm; exact ⟨hm.1.symm, hm.2.symm⟩)
        clear hm
        go_enter Tryz.func189, Tryz.ntmps189
        go_wp2_with (first
          | (go_at_call 164; (with_reducible refine (q_held d HT.out HO.out HI.out).mono ?_); rintro e w2 ⟨rfl, hb2⟩; rw [← HH.out]; have HB2 := Lib.hid hb2; clear hb2)
          | (go_at_call 165; (with_reducible refine (q_move picks_hot d n (HP.out.below HB2.out) HO.out HI.out HMV.out).mono ?_); rintro e w3 ⟨rfl, h3, hs3⟩; have HP3 := Lib.hid h3; have HS3 := Lib.hid hs3; clear h3 hs3))
        go_ret
        rw [HE.out.1, HE.out.2]
        exact ⟨rfl, HP3.out, (safe_of_below HB2.out).then HS3.out⟩
  · rw [if_neg hh] at hm
    have HW : Hid (Q.wipe d = (er, Q')) := Lib.hid (by simpa using hm)
    have HH : Hid (Q.held d = 0) := Lib.hid (by omega)
    clear hh hm h ok hd hpt
    have c0 := HT.out.c0
    go_enter Tryz.func189, Tryz.ntmps189
    go_wp2_with (first
      | (go_at_call 164; (with_reducible refine (q_held d HT.out HO.out HI.out).mono ?_); rintro e w2 ⟨rfl, hb2⟩; rw [HH.out]; have HB2 := Lib.hid hb2; have c0' := (HT.out.below hb2).c0; clear hb2)
      | (go_at_call 166; (with_reducible refine (Pool.erase d (HP.out.below HB2.out)).mono ?_); rintro e w4 ⟨rfl, h4, hs4⟩; have HP4 := Lib.hid h4; have HS4 := Lib.hid hs4; obtain ⟨l4, f4, hpt4⟩ := h4.parts; have HT4 := Lib.hid hpt4; clear h4 hs4 hpt4)
      | (go_at_call 120; (with_reducible refine (q_passed _ HT4.out (HO.out.erase d)).mono ?_); rintro e w5 ⟨rfl, hb5⟩; have HB5 := Lib.hid hb5; clear hb5))
    go_ret
    have e1 : (Q.wipe d).1 = er := by rw [HW.out]
    have e2 : (Q.wipe d).2 = Q' := by rw [HW.out]
    exact ⟨ret_int e1, by rw [← e2]; exact HP4.out.below HB5.out, (safe_of_below HB2.out).then (HS4.out.then (safe_of_below HB5.out))⟩
end
end Go.Proofs.YtnadcdgpfopcaaaGreat
