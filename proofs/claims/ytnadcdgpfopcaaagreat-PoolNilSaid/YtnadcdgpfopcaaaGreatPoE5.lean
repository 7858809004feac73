/- A pool: empty. -/
import Derived.Test.YtnadcdgpfopcaaaGreatPoE4
namespace Go.Proofs.YtnadcdgpfopcaaaGreat
open Go.RowKit

section
variable {w w' : World} {p c l f : Nat} {x y X Y Z : Nat → Prop} {Q Q1 : PS} {T : List Fd}
theorem Ok.wiped {n : Nat} {v er : Int} {Q' : PS} (h : Ok Q) (hm : Q.wiped n v = some (er, Q')) : Ok Q' := by
  unfold PS.wiped at hm
  split at hm
  · exact Ok.level _ _ (h.wipe v) hm
  · cases hm; exact h.wipe v
theorem Ok.setop (h : Ok Q) {td : Int} (ht : Q.num td) : Ok { Q with op := td } := { h with op := by have := ht.1; have := ht.2; show -1 ≤ td ∧ td < Q.B; omega }
theorem Ok.empty {n : Nat} {er : Int} {Q' : PS} (h : Ok Q) (hm : Q.empty n = some (er, Q')) : Ok Q' := by
  unfold PS.empty at hm
  split at hm
  · cases hm; exact h
  · split at hm
    · cases hm
    · split at hm
      · split at hm
        · cases hm
        · next h1 =>
          split at hm
          · split at hm
            · next h2 => exact ((h.move h1).setop h2).wiped hm
            · cases hm
          · cases hm; exact h.move h1
      · exact h.wiped hm
theorem wiped_go {n : Nat} {v er : Int} {Q' : PS} (h : (Q.wipe v).1 = 0) (hm : Q.wiped n v = some (er, Q')) : PS.level n (Q.B + 2).toNat (Q.wipe v).2 = some (er, Q') := by
  unfold PS.wiped at hm
  rw [if_pos h] at hm; exact hm
theorem wiped_err {n : Nat} {v er : Int} {Q' : PS} (h : (Q.wipe v).1 ≠ 0) (hm : Q.wiped n v = some (er, Q')) : er = (Q.wipe v).1 ∧ Q' = (Q.wipe v).2 := by
  unfold PS.wiped at hm
  rw [if_neg h] at hm
  have := Option.some.inj hm
  exact ⟨by rw [this], by rw [this]⟩
theorem q_level' (n : Nat) (v : Int) {er : Int} {Q' : PS} (ok : Ok Q) (h0 : (Q.wipe v).1 = 0) (hm : Q.wiped n v = some (er, Q')) (h : Pool w p c x (Q.wipe v).2) : Calls Tryz.prog 167 #[.pointer (some ⟨p, 0, none⟩)] w fun r w' => r = .returned (.int .i64 er) ∧ Pool w' p c x Q' ∧ Safe x w w' :=
  q_level n (Q.B + 2).toNat (by have := ok.may.1; show Q.B + 2 = _; omega) h (ok.wipe v) (wiped_go h0 hm)
set_option maxRecDepth 100000 in
set_option maxHeartbeats 4000000 in
theorem q_empty (n : Nat) {er : Int} {Q' : PS} (h : Pool w p c x Q) (ok : Ok Q) (hm : Q.empty n = some (er, Q')) : Calls Tryz.prog 148 #[.pointer (some ⟨p, 0, none⟩)] w fun r w' => r = .returned (.int .i64 er) ∧ Pool w' p c x Q' ∧ Safe x w w' := by
  obtain ⟨l, f, hpt⟩ := h.parts
  have HT := Lib.hid hpt
  have HP := Lib.hid h
  have HO := Lib.hid ok
  clear h hpt
  unfold PS.empty at hm
  by_cases h1 : Q.fewest = -1
  · rw [if_pos h1] at hm
    have HE : Hid (er = 6 ∧ Q' = Q) := Lib.hid (by simp at hm; exact ⟨hm.1.symm, hm.2.symm⟩)
    have HD := Lib.hid h1
    clear hm h1 ok
    go_enter Tryz.func148, Tryz.ntmps148
    go_wp2_with (go_at_call 163; (with_reducible refine (q_fewest HT.out HO.out).mono ?_); rintro e w2 ⟨rfl, hb2⟩; rw [HD.out]; have HB2 := Lib.hid hb2; clear hb2)
    go_ret
    rw [HE.out.1, HE.out.2]
    exact ⟨rfl, HP.out.below HB2.out, safe_of_below HB2.out⟩
  · rw [if_neg h1] at hm
    by_cases h2 : Q.num Q.fewest
    case neg => rw [if_pos h2] at hm; cases hm
    case pos =>
      rw [if_neg (fun k => k h2)] at hm
      obtain ⟨v, hv⟩ : ∃ v, v = Q.fewest := ⟨_, rfl⟩
      rw [← hv] at h1 h2 hm
      have HD := Lib.hid hv
      have HW := Lib.hid (num_wf h2 ok)
      clear hv h2
      by_cases h3 : 0 < Q.held v
      · rw [if_pos h3] at hm
        cases hmv : Q.move n v false with
        | none => rw [hmv] at hm; cases hm
        | some R =>
          obtain ⟨td, e1, Q1⟩ := R
          rw [hmv] at hm
          simp only at hm
          have HMV := Lib.hid hmv
          have HO1 := Lib.hid (ok.move hmv)
          obtain ⟨hn, hhn⟩ : ∃ hn, hn = Q.held v := ⟨_, rfl⟩
          rw [← hhn] at h3
          have HH := Lib.hid hhn
          have hpos : (0 : Int) < (hn : Int) := by omega
          clear hhn hmv ok
          by_cases he : e1 = 0
          · subst he
            rw [if_pos rfl] at hm
            by_cases h4 : Q1.num td
            case neg => rw [if_neg h4] at hm; cases hm
            case pos =>
              rw [if_pos h4] at hm
              have HO2 := Lib.hid (HO1.out.setop h4)
              have HWD := Lib.hid hm
              clear hm h4
              obtain ⟨ew, hew⟩ : ∃ ew, ew = (({ Q1 with op := td } : PS).wipe v).1 := ⟨_, rfl⟩
              have HEW := Lib.hid hew
              by_cases h5 : ew = 0
              · have H5 : Hid ((({ Q1 with op := td } : PS).wipe v).1 = 0) := Lib.hid (HEW.out.symm.trans h5)
                clear h5 HEW hew
                go_enter Tryz.func148, Tryz.ntmps148
                go_upto_region 8 with (first
                  | (go_at_call 163; (with_reducible refine (q_fewest HT.out HO.out).mono ?_); rintro e w2 ⟨rfl, hb2⟩; rw [← HD.out]; have HB2 := Lib.hid hb2; clear hb2)
                  | (go_at_call 164; (with_reducible refine (q_held v (HT.out.below HB2.out) HO.out HW.out).mono ?_); rintro e w3 ⟨rfl, hb3⟩; rw [← HH.out]; have HB3 := Lib.hid (HB2.out.trans (hb3.mono HB2.out.size)); clear hb3)
                  | (go_at_call 165; (with_reducible refine (q_move picks_cold v n (HP.out.below HB3.out) HO.out HW.out HMV.out).mono ?_); rintro e w4 ⟨rfl, h4, hs4⟩; have HP4 := Lib.hid h4; have HS4 := Lib.hid hs4; clear h4 hs4))
                obtain ⟨hp5, hs5⟩ := Pool.set (j := 10) (u := .int .i64 td) (Q' := { Q1 with op := td }) HP4.out rfl rfl rfl (fun l f => by simp [PS.cells])
                have HP5 := Lib.hid hp5
                have HS5 : Hid (Safe x w (w4.setCell ⟨p, 10, none⟩ (.int .i64 td))) := Lib.hid (((safe_of_below HB3.out).then HS4.out).then hs5)
                obtain ⟨l4, f4, hpt4⟩ := HP4.out.parts
                have c10 := hpt4.c10
                have fr10 := hpt4.fr 10
                obtain ⟨l5, f5, hpt5⟩ := hp5.parts
                have d0 := hpt5.c0
                clear hp5 hs5 hpt4 hpt5
                go_wp2_with (first
                  | (go_at_call 166; (with_reducible refine (Pool.erase v HP5.out).mono ?_); rintro e w6 ⟨rfl, h6, hs6⟩; have HP6 := Lib.hid h6; have HS6 := Lib.hid hs6; obtain ⟨l6, f6, hpt6⟩ := h6.parts; have HT6 := Lib.hid hpt6; clear h6 hs6 hpt6)
                  | (go_at_call 120; (with_reducible refine (q_passed _ HT6.out (HO2.out.erase v)).mono ?_); rintro e w7 ⟨rfl, hb7⟩; (have hz : PS.passed { ({ Q1 with op := td } : PS) with S := (eraseL Q1.S v).2 } (eraseL Q1.S v).1 = 0 := H5.out); rw [hz]; have HB7 := Lib.hid hb7; clear hb7 hz)
                  | (go_at_call 167; (with_reducible refine (q_level' n v HO2.out H5.out HWD.out (HP6.out.below HB7.out)).mono ?_); rintro e w8 ⟨rfl, h8, hs8⟩; have HP8 := Lib.hid h8; have HS8 := Lib.hid hs8; clear h8 hs8))
                go_ret
                exact ⟨rfl, HP8.out, HS5.out.then ((HS6.out.then (safe_of_below HB7.out)).then HS8.out)⟩
              · have HX : Hid (er = ew ∧ Q' = (({ Q1 with op := td } : PS).wipe v).2) := Lib.hid (by have k := wiped_err (Q := { Q1 with op := td }) (by rw [← HEW.out]; exact h5) HWD.out; exact ⟨k.1.trans HEW.out.symm, k.2⟩)
                clear hew
                go_enter Tryz.func148, Tryz.ntmps148
                go_upto_region 8 with (first
                  | (go_at_call 163; (with_reducible refine (q_fewest HT.out HO.out).mono ?_); rintro e w2 ⟨rfl, hb2⟩; rw [← HD.out]; have HB2 := Lib.hid hb2; clear hb2)
                  | (go_at_call 164; (with_reducible refine (q_held v (HT.out.below HB2.out) HO.out HW.out).mono ?_); rintro e w3 ⟨rfl, hb3⟩; rw [← HH.out]; have HB3 := Lib.hid (HB2.out.trans (hb3.mono HB2.out.size)); clear hb3)
                  | (go_at_call 165; (with_reducible refine (q_move picks_cold v n (HP.out.below HB3.out) HO.out HW.out HMV.out).mono ?_); rintro e w4 ⟨rfl, h4, hs4⟩; have HP4 := Lib.hid h4; have HS4 := Lib.hid hs4; clear h4 hs4))
                obtain ⟨hp5, hs5⟩ := Pool.set (j := 10) (u := .int .i64 td) (Q' := { Q1 with op := td }) HP4.out rfl rfl rfl (fun l f => by simp [PS.cells])
                have HP5 := Lib.hid hp5
                have HS5 : Hid (Safe x w (w4.setCell ⟨p, 10, none⟩ (.int .i64 td))) := Lib.hid (((safe_of_below HB3.out).then HS4.out).then hs5)
                obtain ⟨l4, f4, hpt4⟩ := HP4.out.parts
                have c10 := hpt4.c10
                have fr10 := hpt4.fr 10
                obtain ⟨l5, f5, hpt5⟩ := hp5.parts
                have d0 := hpt5.c0
                clear hp5 hs5 hpt4 hpt5
                go_wp2_with (first
                  | (go_at_call 166; (with_reducible refine (Pool.erase v HP5.out).mono ?_); rintro e w6 ⟨rfl, h6, hs6⟩; have HP6 := Lib.hid h6; have HS6 := Lib.hid hs6; obtain ⟨l6, f6, hpt6⟩ := h6.parts; have HT6 := Lib.hid hpt6; clear h6 hs6 hpt6)
                  | (go_at_call 120; (with_reducible refine (q_passed _ HT6.out (HO2.out.erase v)).mono ?_); rintro e w7 ⟨rfl, hb7⟩; (have hz : PS.passed { ({ Q1 with op := td } : PS) with S := (eraseL Q1.S v).2 } (eraseL Q1.S v).1 = ew := HEW.out.symm); rw [hz]; have HB7 := Lib.hid hb7; clear hb7 hz))
                go_ret
                rw [HX.out.1, HX.out.2]
                exact ⟨rfl, HP6.out.below HB7.out, HS5.out.then (HS6.out.then (safe_of_below HB7.out))⟩
          · rw [if_neg he] at hm
            have HE : Hid (er = e1 ∧ Q' = Q1) := Lib.hid (by simp at hm; exact ⟨hm.1.symm, hm.2.symm⟩)
            clear hm
            go_enter Tryz.func148, Tryz.ntmps148
            go_wp2_with (first
              | (go_at_call 163; (with_reducible refine (q_fewest HT.out HO.out).mono ?_); rintro e w2 ⟨rfl, hb2⟩; rw [← HD.out]; have HB2 := Lib.hid hb2; clear hb2)
              | (go_at_call 164; (with_reducible refine (q_held v (HT.out.below HB2.out) HO.out HW.out).mono ?_); rintro e w3 ⟨rfl, hb3⟩; rw [← HH.out]; have HB3 := Lib.hid (HB2.out.trans (hb3.mono HB2.out.size)); clear hb3)
              | (go_at_call 165; (with_reducible refine (q_move picks_cold v n (HP.out.below HB3.out) HO.out HW.out HMV.out).mono ?_); rintro e w4 ⟨rfl, h4, hs4⟩; have HP4 := Lib.hid h4; have HS4 := Lib.hid hs4; clear h4 hs4))
            go_ret
            rw [HE.out.1, HE.out.2]
            exact ⟨rfl, HP4.out, (safe_of_below HB3.out).then HS4.out⟩
      · rw [if_neg h3] at hm
        have HWD := Lib.hid hm
        have HH : Hid (Q.held v = 0) := Lib.hid (by omega)
        clear hm h3 ok
        obtain ⟨ew, hew⟩ : ∃ ew, ew = ((Q : PS).wipe v).1 := ⟨_, rfl⟩
        have HEW := Lib.hid hew
        by_cases h5 : ew = 0
        · have H5 : Hid (((Q : PS).wipe v).1 = 0) := Lib.hid (HEW.out.symm.trans h5)
          clear h5 HEW hew
          go_enter Tryz.func148, Tryz.ntmps148
          go_upto_region 9 with (first
            | (go_at_call 163; (with_reducible refine (q_fewest HT.out HO.out).mono ?_); rintro e w2 ⟨rfl, hb2⟩; rw [← HD.out]; have HB2 := Lib.hid hb2; clear hb2)
            | (go_at_call 164; (with_reducible refine (q_held v (HT.out.below HB2.out) HO.out HW.out).mono ?_); rintro e w3 ⟨rfl, hb3⟩; rw [HH.out]; have HB3 := Lib.hid (HB2.out.trans (hb3.mono HB2.out.size)); clear hb3))
          have HP5 := Lib.hid (HP.out.below HB3.out)
          have HS5 : Hid (Safe x w w3) := Lib.hid (safe_of_below HB3.out)
          have d0 := (HT.out.below HB3.out).c0
          go_wp2_with (first
            | (go_at_call 166; (with_reducible refine (Pool.erase v HP5.out).mono ?_); rintro e w6 ⟨rfl, h6, hs6⟩; have HP6 := Lib.hid h6; have HS6 := Lib.hid hs6; obtain ⟨l6, f6, hpt6⟩ := h6.parts; have HT6 := Lib.hid hpt6; clear h6 hs6 hpt6)
            | (go_at_call 120; (with_reducible refine (q_passed _ HT6.out (HO.out.erase v)).mono ?_); rintro e w7 ⟨rfl, hb7⟩; (have hz : PS.passed { (Q : PS) with S := (eraseL Q.S v).2 } (eraseL Q.S v).1 = 0 := H5.out); rw [hz]; have HB7 := Lib.hid hb7; clear hb7 hz)
            | (go_at_call 167; (with_reducible refine (q_level' n v HO.out H5.out HWD.out (HP6.out.below HB7.out)).mono ?_); rintro e w8 ⟨rfl, h8, hs8⟩; have HP8 := Lib.hid h8; have HS8 := Lib.hid hs8; clear h8 hs8))
          go_ret
          exact ⟨rfl, HP8.out, HS5.out.then ((HS6.out.then (safe_of_below HB7.out)).then HS8.out)⟩
        · have HX : Hid (er = ew ∧ Q' = ((Q : PS).wipe v).2) := Lib.hid (by have k := wiped_err (Q := Q) (by rw [← HEW.out]; exact h5) HWD.out; exact ⟨k.1.trans HEW.out.symm, k.2⟩)
          clear hew
          go_enter Tryz.func148, Tryz.ntmps148
          go_upto_region 9 with (first
            | (go_at_call 163; (with_reducible refine (q_fewest HT.out HO.out).mono ?_); rintro e w2 ⟨rfl, hb2⟩; rw [← HD.out]; have HB2 := Lib.hid hb2; clear hb2)
            | (go_at_call 164; (with_reducible refine (q_held v (HT.out.below HB2.out) HO.out HW.out).mono ?_); rintro e w3 ⟨rfl, hb3⟩; rw [HH.out]; have HB3 := Lib.hid (HB2.out.trans (hb3.mono HB2.out.size)); clear hb3))
          have HP5 := Lib.hid (HP.out.below HB3.out)
          have HS5 : Hid (Safe x w w3) := Lib.hid (safe_of_below HB3.out)
          have d0 := (HT.out.below HB3.out).c0
          go_wp2_with (first
            | (go_at_call 166; (with_reducible refine (Pool.erase v HP5.out).mono ?_); rintro e w6 ⟨rfl, h6, hs6⟩; have HP6 := Lib.hid h6; have HS6 := Lib.hid hs6; obtain ⟨l6, f6, hpt6⟩ := h6.parts; have HT6 := Lib.hid hpt6; clear h6 hs6 hpt6)
            | (go_at_call 120; (with_reducible refine (q_passed _ HT6.out (HO.out.erase v)).mono ?_); rintro e w7 ⟨rfl, hb7⟩; (have hz : PS.passed { (Q : PS) with S := (eraseL Q.S v).2 } (eraseL Q.S v).1 = ew := HEW.out.symm); rw [hz]; have HB7 := Lib.hid hb7; clear hb7 hz))
          go_ret
          rw [HX.out.1, HX.out.2]
          exact ⟨rfl, HP6.out.below HB7.out, HS5.out.then (HS6.out.then (safe_of_below HB7.out))⟩
end
end Go.Proofs.YtnadcdgpfopcaaaGreat
