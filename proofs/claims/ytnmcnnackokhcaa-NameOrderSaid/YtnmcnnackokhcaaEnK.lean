/- NameBack: what is put in and taken out again is as it was. -/
import Derived.Test.YtnmcnnackokhcaaEnJ
import Derived.Deep.RegionWith
namespace Go.Proofs.Ytnmcnnackokhcaa
open Go.RowKit Go.Lib

theorem withE_may {l : List Ent} {s : ByteArray} {n : Int} (h : (withE l s n).2 = 0) : mayEs l = true ∧ mayE (s, n) = true ∧ hasE l s = false ∧ l.length ≠ 10 ∧ (withE l s n).1 = putE l (s, n) := by
  unfold withE at h ⊢
  split at h
  · simp at h
  · next h1 =>
    split at h
    · simp at h
    · next h2 =>
      split at h
      · simp at h
      · next h3 =>
        rw [if_neg h1, if_neg h2, if_neg h3]
        refine ⟨?_, ?_, by simpa using h2, h3, rfl⟩
        · cases e : mayEs l with
          | true => rfl
          | false => exact absurd (.inl e) h1
        · cases e : mayE (s, n) with
          | true => rfl
          | false => exact absurd (.inr e) h1
theorem withE_err {l : List Ent} {s : ByteArray} {n : Int} (h : (withE l s n).2 ≠ 0) : (withE l s n).1 = [] ∧ ((withE l s n).2 = 1 ∨ (withE l s n).2 = 9 ∧ hasE l s = true ∧ mayEs l = true ∨ (withE l s n).2 = 14 ∧ l.length = 10) := by
  unfold withE at h ⊢
  split
  · exact ⟨rfl, .inl rfl⟩
  · next h1 =>
    split
    · next h2 => exact ⟨rfl, .inr (.inl ⟨rfl, h2, by
        cases e : mayEs l with
        | true => rfl
        | false => exact absurd (.inl e) h1⟩)⟩
    · split
      · next h3 => exact ⟨rfl, .inr (.inr ⟨rfl, h3⟩)⟩
      · next h2 h3 => rw [if_neg h1, if_neg h2, if_neg h3] at h; exact absurd rfl h
theorem has_put (l : List Ent) (e : Ent) : hasE (putE l e) e.1 = true := List.any_eq_true.2 ⟨e, putE_mem.2 (.inl rfl), by simp⟩
theorem mayE_node {s : ByteArray} {n m : Int} (h : mayE (s, n) = true) (h1 : 1 ≤ m) (h2 : m ≤ 11) : mayE (s, m) = true := by
  rw [mayE_eq] at h ⊢
  simp at h ⊢
  exact ⟨⟨h.1.1, h1⟩, h2⟩
theorem back_with {l : List Ent} {s : ByteArray} {n : Int} (h1 : mayEs l = true) (h2 : mayE (s, n) = true) (h3 : hasE l s = false) (h4 : l.length ≠ 10) : withE (putE l (s, n)) s 1 = ([], 9) := by
  unfold withE
  rw [if_neg (by rw [putE_may h1 h2 h3 h4, mayE_node h2 (by omega) (by omega)]; simp), if_pos (has_put l (s, n))]
theorem back_out {l : List Ent} {s : ByteArray} {n : Int} (h1 : mayEs l = true) (h2 : mayE (s, n) = true) (h3 : hasE l s = false) (h4 : l.length ≠ 10) : outE (putE l (s, n)) s = (l, 0) := by
  unfold outE
  rw [if_neg (by rw [putE_may h1 h2 h3 h4]; simp), if_neg (by rw [has_put l (s, n)]; simp), cut_put l (s, n)]
theorem find_put {l : List Ent} {s : ByteArray} {n : Int} (h1 : mayEs l = true) (h3 : hasE l s = false) : findE (putE l (s, n)) s = n :=
  find_mem (putE_ri (mayEs_iff.1 h1).2.2 h3) (x := (s, n)) (putE_mem.2 (.inl rfl))
theorem find_put_old {l : List Ent} {s : ByteArray} {n : Int} (h1 : mayEs l = true) (h3 : hasE l s = false) {x : Ent} (hx : x ∈ l) : findE (putE l (s, n)) x.1 = x.2 :=
  find_mem (putE_ri (mayEs_iff.1 h1).2.2 h3) (putE_mem.2 (.inr hx))
set_option maxRecDepth 100000 in
set_option maxHeartbeats 4000000 in
theorem back_law (A : Option Addr) (c : Nat) (l : List Ent) (s : ByteArray) (n : Int) (w : World) (hA : ELies w A l) (hn : A = none → l = [] ∧ c = 0) (hc : l.length ≤ c) (hl : l.length ≤ maxLen) :
    Calls Try.prog 4 #[.slice A l.length c, .string s, .int .i64 n] w fun e w' => e = .returned (.bool true) ∧ Below w.heap.size w w' := by
  have HA := Lib.hid hA
  have HLI := Lib.hid (light_any A c l w hA hl)
  have HLV := Lib.hid (lightV_cases l)
  generalize lightV l = R at HLI HLV
  rcases HLV.out with ⟨rfl, h60⟩ | rfl
  case inr =>
    go_enter Try.func4, Try.ntmps4
    go_wp2_with (first
      | (go_at_call 7; (with_reducible refine HLI.out.mono ?_); rintro e w1 ⟨rfl, hb1⟩; replace hb1 := Lib.hid hb1)
      | (go_at_call 8; (with_reducible refine (awake_any _).mono ?_); rintro e w99 ⟨rfl, hb99⟩; have HB99 := Lib.hid hb99; clear hb99)
      | fail)
    go_ret
    exact ⟨rfl, hb1.out.trans (HB99.out.mono hb1.out.size)⟩
  by_cases hs : (s.size : Int) ≤ 100
  case neg =>
    have d1 : decide ((100 : Int) < s.size) = true := decide_eq_true (by omega)
    go_enter Try.func4, Try.ntmps4
    go_wp2_with (first
      | (go_at_call 7; (with_reducible refine HLI.out.mono ?_); rintro e w1 ⟨rfl, hb1⟩; replace hb1 := Lib.hid hb1)
      | (go_at_call 8; (with_reducible refine (awake_any _).mono ?_); rintro e w99 ⟨rfl, hb99⟩; have HB99 := Lib.hid hb99; clear hb99)
      | fail)
    go_ret
    exact ⟨rfl, hb1.out.trans (HB99.out.mono hb1.out.size)⟩
  have d1 : decide ((100 : Int) < s.size) = false := decide_eq_false (by omega)
  have HM1 := Lib.hid fun w (h : ELies w A l) => mays_any A c l w h
  have HM2 := Lib.hid fun w (h : ELies w A l) => mayr_any A c l w h
  obtain ⟨V, hV⟩ : ∃ V, mayEs l = V := ⟨_, rfl⟩
  rw [hV] at HM1 HM2
  have HV := Lib.hid hV
  clear hV
  cases V with
  | false =>
    go_enter Try.func4, Try.ntmps4
    go_wp2_with (first
      | (go_at_call 7; (with_reducible refine HLI.out.mono ?_); rintro e w1 ⟨rfl, hb1⟩; replace hb1 := Lib.hid hb1)
      | (go_at_call 15; (with_reducible refine (HM1.out _ (HA.out.below hb1.out)).mono ?_); rintro e w2 ⟨rfl, hb2⟩; replace hb2 := Lib.hid (hb1.out.trans (hb2.mono hb1.out.size)))
      | (go_at_call 8; (with_reducible refine (awake_any _).mono ?_); rintro e w99 ⟨rfl, hb99⟩; have HB99 := Lib.hid hb99; clear hb99)
      | fail)
    go_ret
    exact ⟨rfl, hb2.out.trans (HB99.out.mono hb2.out.size)⟩
  | true =>
  have hw1 := fun w (h : ELies w A l) => with_any A c l s n w h hn hc
  have hP := Lib.hid (withE_err (l := l) (s := s) (n := n))
  have hP0 := Lib.hid (withE_may (l := l) (s := s) (n := n))
  have HPL := Lib.hid (withE_len l s n)
  generalize withE l s n = P at hw1 hP hP0 HPL
  obtain ⟨P, pe⟩ := P
  have HW1 := Lib.hid hw1
  clear hw1
  by_cases hpe : pe = 0
  case neg =>
    have HEM := Lib.hid (hP.out hpe)
    obtain rfl : P = [] := HEM.out.1
    have HF1 := Lib.hid fun w (h : ELies w A l) => find_any A c l s w h hl
    rcases HEM.out.2 with h | ⟨h, h2, h3⟩ | ⟨h, h2⟩
    · obtain rfl : pe = 1 := h
      clear hpe hP hP0 HEM
      go_enter Try.func4, Try.ntmps4
      go_wp2_with (first
        | (go_at_call 7; (with_reducible refine HLI.out.mono ?_); rintro e w1 ⟨rfl, hb1⟩; replace hb1 := Lib.hid hb1)
        | (go_at_call 15; (with_reducible refine (HM1.out _ (HA.out.below hb1.out)).mono ?_); rintro e w2 ⟨rfl, hb2⟩; replace hb2 := Lib.hid (hb1.out.trans (hb2.mono hb1.out.size)))
        | (go_at_call 16; (with_reducible refine (HM2.out _ (HA.out.below hb2.out)).mono ?_); rintro e w3 ⟨rfl, hb3⟩; replace hb3 := Lib.hid (hb2.out.trans (hb3.mono hb2.out.size)))
        | (go_at_call 9; (with_reducible refine (HW1.out _ (HA.out.below hb3.out)).mono ?_); rintro e w4 ⟨A1, c1, rfl, hl1, -, hn1, hc1, hb4⟩; replace hl1 := Lib.hid hl1; replace hn1 := Lib.hid hn1; replace hc1 := Lib.hid hc1; replace hb4 := Lib.hid (hb3.out.trans (hb4.mono hb3.out.size)))
        | (go_at_call 8; (with_reducible refine (awake_any _).mono ?_); rintro e w99 ⟨rfl, hb99⟩; have HB99 := Lib.hid hb99; clear hb99)
        | fail)
      go_ret
      exact ⟨rfl, hb4.out.trans (HB99.out.mono hb4.out.size)⟩
    · obtain rfl : pe = 9 := h
      have hfd : decide (0 ≤ findE l s) = true := (has_find h3 s).trans h2
      generalize findE l s = F at HF1 hfd
      clear hpe hP hP0 HEM h2 h3
      go_enter Try.func4, Try.ntmps4
      go_wp2_with (first
        | (go_at_call 7; (with_reducible refine HLI.out.mono ?_); rintro e w1 ⟨rfl, hb1⟩; replace hb1 := Lib.hid hb1)
        | (go_at_call 15; (with_reducible refine (HM1.out _ (HA.out.below hb1.out)).mono ?_); rintro e w2 ⟨rfl, hb2⟩; replace hb2 := Lib.hid (hb1.out.trans (hb2.mono hb1.out.size)))
        | (go_at_call 16; (with_reducible refine (HM2.out _ (HA.out.below hb2.out)).mono ?_); rintro e w3 ⟨rfl, hb3⟩; replace hb3 := Lib.hid (hb2.out.trans (hb3.mono hb2.out.size)))
        | (go_at_call 9; (with_reducible refine (HW1.out _ (HA.out.below hb3.out)).mono ?_); rintro e w4 ⟨A1, c1, rfl, hl1, -, hn1, hc1, hb4⟩; replace hl1 := Lib.hid hl1; replace hn1 := Lib.hid hn1; replace hc1 := Lib.hid hc1; replace hb4 := Lib.hid (hb3.out.trans (hb4.mono hb3.out.size)))
        | (go_at_call 17; (with_reducible refine (HF1.out _ (HA.out.below hb4.out)).mono ?_); rintro e w5 ⟨rfl, hb5⟩; replace hb5 := Lib.hid (hb4.out.trans (hb5.mono hb4.out.size)))
        | (go_at_call 8; (with_reducible refine (awake_any _).mono ?_); rintro e w99 ⟨rfl, hb99⟩; have HB99 := Lib.hid hb99; clear hb99)
        | fail)
      go_ret
      exact ⟨rfl, hb5.out.trans (HB99.out.mono hb5.out.size)⟩
    · obtain rfl : pe = 14 := h
      have d2 : ((l.length : Int) == 10) = true := by rw [beq_iff_eq]; omega
      clear hpe hP hP0 HEM h2 h60 hc hl
      go_enter Try.func4, Try.ntmps4
      go_wp2_with (first
        | (go_at_call 7; (with_reducible refine HLI.out.mono ?_); rintro e w1 ⟨rfl, hb1⟩; replace hb1 := Lib.hid hb1)
        | (go_at_call 15; (with_reducible refine (HM1.out _ (HA.out.below hb1.out)).mono ?_); rintro e w2 ⟨rfl, hb2⟩; replace hb2 := Lib.hid (hb1.out.trans (hb2.mono hb1.out.size)))
        | (go_at_call 16; (with_reducible refine (HM2.out _ (HA.out.below hb2.out)).mono ?_); rintro e w3 ⟨rfl, hb3⟩; replace hb3 := Lib.hid (hb2.out.trans (hb3.mono hb2.out.size)))
        | (go_at_call 9; (with_reducible refine (HW1.out _ (HA.out.below hb3.out)).mono ?_); rintro e w4 ⟨A1, c1, rfl, hl1, -, hn1, hc1, hb4⟩; replace hl1 := Lib.hid hl1; replace hn1 := Lib.hid hn1; replace hc1 := Lib.hid hc1; replace hb4 := Lib.hid (hb3.out.trans (hb4.mono hb3.out.size)))
        | (go_at_call 8; (with_reducible refine (awake_any _).mono ?_); rintro e w99 ⟨rfl, hb99⟩; have HB99 := Lib.hid hb99; clear hb99)
        | fail)
      go_ret
      exact ⟨rfl, hb4.out.trans (HB99.out.mono hb4.out.size)⟩
  subst hpe
  obtain ⟨-, hm, hh, hten, hPP⟩ := hP0.out rfl
  obtain rfl : P = putE l (s, n) := hPP
  have HWB := Lib.hid fun A1 c1 w (h : ELies w A1 (putE l (s, n))) h1 h2 => with_any A1 c1 (putE l (s, n)) s 1 w h h1 h2
  rw [back_with HV.out hm hh hten] at HWB
  have HOB := Lib.hid fun A1 c1 w (h : ELies w A1 (putE l (s, n))) h1 h2 => out_any A1 c1 (putE l (s, n)) s w h h1 h2
  rw [back_out HV.out hm hh hten] at HOB
  have HMB := Lib.hid fun A1 c1 w (h : ELies w A1 (putE l (s, n))) => mays_any A1 c1 (putE l (s, n)) w h
  rw [putE_may HV.out hm hh hten] at HMB
  have hpl : (putE l (s, n)).length = l.length + 1 := putE_len l (s, n)
  have hpm : (putE l (s, n)).length ≤ maxLen := by unfold maxLen; omega
  have HFB := Lib.hid fun A1 c1 w (h : ELies w A1 (putE l (s, n))) => find_any A1 c1 (putE l (s, n)) s w h hpm
  rw [find_put HV.out hh] at HFB
  have HFX := Lib.hid fun A1 c1 w (x : Ent) (hx : x ∈ l) (h : ELies w A1 (putE l (s, n))) => (find_put_old (s := s) (n := n) HV.out hh hx) ▸ find_any A1 c1 (putE l (s, n)) x.1 w h hpm
  generalize putE l (s, n) = P at HW1 HWB HOB HMB HFB HFX hpl hpm
  have d3 : ((P.length : Int) != ((l.length : Int) + 1)) = false := by rw [bne_eq_false_iff_eq]; omega
  have d4 : ((P.length : Int) == 0) = false := by rw [beq_eq_false_iff_ne]; omega
  have hsm := fun A3 c3 w (h : ELies w A3 l) (h' : ELies w A l) => same_any A3 A c3 c l l w h h' hl hl
  simp only [decide_true] at hsm
  have HSM := Lib.hid hsm
  clear hsm
  clear hpl hpm hm hh hten hP hP0 HPL hA hn hc HLV
  go_enter Try.func4, Try.ntmps4
  go_wp2_with (first
    | (go_at_call 7; (with_reducible refine HLI.out.mono ?_); rintro e w1 ⟨rfl, hb1⟩; replace hb1 := Lib.hid hb1)
    | (go_at_call 15; (with_reducible refine (HM1.out _ (HA.out.below hb1.out)).mono ?_); rintro e w2 ⟨rfl, hb2⟩; replace hb2 := Lib.hid (hb1.out.trans (hb2.mono hb1.out.size)))
    | (go_at_call 16; (with_reducible refine (HM2.out _ (HA.out.below hb2.out)).mono ?_); rintro e w3 ⟨rfl, hb3⟩; replace hb3 := Lib.hid (hb2.out.trans (hb3.mono hb2.out.size)))
    | (go_at_call 9; (with_reducible refine (HW1.out _ (HA.out.below hb3.out)).mono ?_); rintro e w4 ⟨A1, c1, rfl, hl1, -, hn1, hc1, hb4⟩; replace hl1 := Lib.hid hl1; replace hn1 := Lib.hid hn1; replace hc1 := Lib.hid hc1; replace hb4 := Lib.hid (hb3.out.trans (hb4.mono hb3.out.size)))
    | (go_at_call 9; (with_reducible refine (HWB.out A1 c1 _ hl1.out hn1.out hc1.out).mono ?_); rintro e w5 ⟨A2, c2, rfl, -, -, -, -, hb5⟩; have HP5 := Lib.hid (hl1.out.below hb5); replace hb5 := Lib.hid (hb4.out.trans (hb5.mono hb4.out.size)))
    | (go_at_call 11; (with_reducible refine (HOB.out A1 c1 _ HP5.out hn1.out hc1.out).mono ?_); rintro e w6 ⟨A3, c3, rfl, hl3, -, -, -, hb6⟩; replace hl3 := Lib.hid hl3; have HP6 := Lib.hid (HP5.out.below hb6); replace hb6 := Lib.hid (hb5.out.trans (hb6.mono hb5.out.size)))
    | (go_at_call 14; (with_reducible refine (HSM.out A3 c3 _ hl3.out (HA.out.below hb6.out)).mono ?_); rintro e w7 ⟨rfl, hb7⟩; have HP7 := Lib.hid (HP6.out.below hb7); replace hb7 := Lib.hid (hb6.out.trans (hb7.mono hb6.out.size)))
    | (go_at_call 15; (with_reducible refine (HMB.out A1 c1 _ HP7.out).mono ?_); rintro e w8 ⟨rfl, hb8⟩; have HP8 := Lib.hid (HP7.out.below hb8); replace hb8 := Lib.hid (hb7.out.trans (hb8.mono hb7.out.size)))
    | (go_at_call 17; (with_reducible refine (HFB.out A1 c1 _ HP8.out).mono ?_); rintro e w9 ⟨rfl, hb9⟩; have HP9 := Lib.hid (HP8.out.below hb9); replace hb9 := Lib.hid (hb8.out.trans (hb9.mono hb8.out.size)))
    | fail)
  clear hb1 hb2 hb3 hb4 hb5 hb6 hb7 hb8 HP5 HP6 HP7 HP8 hl1 hl3 HWB HOB HSM HMB HFB HW1 HM1 HM2 HLI
  go_loopw [14, 118] (fun _ v118 wr => ∃ j : Nat, j ≤ l.length ∧ v118 = .int .i64 j ∧ Hid (Below w9.heap.size w9 wr)) (fun _ v118 _ => l.length - (RowKit.intOf v118).toNat)
  case atStart => exact ⟨0, Nat.zero_le _, rfl, Lib.hid (Below.refl _ _)⟩
  case round =>
    obtain ⟨j, hj, rfl, HB⟩ := hrel
    have HBB : Hid (Below w.heap.size w wr) := Lib.hid (hb9.out.trans (HB.out.mono hb9.out.size))
    by_cases hj1 : j < l.length
    · obtain ⟨B, o, rfl, hBs, hcc⟩ := (HA.out.below HBB.out) (by omega)
      have d2 : decide ((j : Int) < (l.length : Int)) = true := decide_eq_true (by omega)
      obtain ⟨k0, k1⟩ := hcc j hj1
      have hmem : l[j] ∈ l := List.getElem_mem hj1
      generalize l[j] = x at k0 k1 hmem
      obtain ⟨t, z⟩ := x
      have HFJ := Lib.hid fun w h => HFX.out A1 c1 w (t, z) hmem h
      have HBW := Lib.hid (HB.out.alloc HB.out.size (.cells #[.string t, .int .i64 z] 32))
      obtain ⟨x0, x1⟩ := box_cells wr (.string t) (.int .i64 z) 32
      have HPW := Lib.hid (HP9.out.below HBW.out)
      clear hcc hmem
      go_wp2_with fail
      generalize wr.alloc (.cells #[.string t, .int .i64 z] 32) = W at x0 x1 HBW HPW ⊢
      have hg0 := World.block_lt_of_cell? _ _ x1
      go_region_with (first
        | (go_at_call 17; refine (HFJ.out _ (HPW.out.below (Below.refl _ _).drew)).mono ?_; rintro e w10 ⟨rfl, hb10⟩; have y1 : w10.cell? ⟨wr.heap.size, 1, none⟩ = some (.int .i64 z) := (hb10.cell (p := ⟨wr.heap.size, 1, none⟩) hg0).trans x1; have HB10 : Hid (Below w9.heap.size w9 w10) := Lib.hid (HBW.out.drew.trans (hb10.mono HBW.out.size)); clear hb10)
        | fail)
      all_goals
        go_wp2_with fail
        go_roundw
        case rel => exact ⟨j + 1, by omega, by go_num, HB10⟩
        case measure => simp [RowKit.intOf]; omega
    · have d2 : decide ((j : Int) < (l.length : Int)) = false := decide_eq_false (by omega)
      go_wp2_with (first
        | (go_at_call 8; (with_reducible refine (awake_any _).mono ?_); rintro e w99 ⟨rfl, hb99⟩; have HB99 := Lib.hid hb99; clear hb99)
        | fail)
      go_ret
      exact ⟨rfl, HBB.out.trans (HB99.out.mono HBB.out.size)⟩
end Go.Proofs.Ytnmcnnackokhcaa
