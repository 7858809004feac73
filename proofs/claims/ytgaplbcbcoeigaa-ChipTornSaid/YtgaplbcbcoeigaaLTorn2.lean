/- ChipTorn: the law's walk. -/
import Derived.Test.YtgaplbcbcoeigaaLTorn
import Derived.StillTailTactics
namespace Go.Proofs.Ytgaplbcbcoeigaa
open Go.RowKit

set_option maxRecDepth 100000 in
set_option maxHeartbeats 8000000 in
theorem torn_in (K P : Int) (A : Option Addr) (c : Nat) (l : List UInt8) (w : World) (hr : RB w w.heap.size A l) (h1 : 1 ≤ l.length) (h2 : l.length ≤ 2000) (hlc : l.length ≤ c) :
    Calls Try.prog 6 #[.slice A l.length c, .int .i64 K, .int .i64 P] w (Holds w) := by
  obtain ⟨s, hs1, hs⟩ := small_of P 32 (by omega) (by omega)
  obtain ⟨kp, hk1, hk⟩ := small_of K 2100 (by omega) (by omega)
  obtain ⟨np, hnp⟩ : ∃ np : Nat, 1 + (s : Int) = (np : Int) := ⟨s + 1, by omega⟩
  have hnp1 : 1 ≤ np := by omega
  have hnp2 : np ≤ 32 := by omega
  have HN := Lib.hid (held_new (w := w) 2 np none 0 [] (fun h => absurd h (by simp)) (by decide) (by decide) (by decide) (by omega) (by omega))
  have HC := Lib.hid (cb_of hr)
  clear hr
  obtain ⟨ad, hAd, _, _⟩ := HC.out (by omega)
  subst hAd
  obtain ⟨S1, hp1, hd1, hh1, ht1⟩ := torn_prog (keep := kp) (tn0_two np) hnp1 rfl l h1 h2 (by simp [newBk])
  have HP1 := Lib.hid hp1
  have HD1 := Lib.hid (dark_read hd1 hh1)
  have HT1 := Lib.hid ht1
  have HR1 := Lib.hid (two_read0 ht1 hnp1)
  clear hp1 hd1 hh1 ht1
  go_enter Try.func6, Try.ntmps6
  go_wp2_with (first
    | (go_at_call 12; refine HN.out.mono ?_; rintro e w1 ⟨p, rfl, hH, hB⟩; have H0 := Lib.hid hH; have HB0 := Lib.hid hB; clear hH hB)
    | (go_at_call 22; (with_reducible refine (held_cut 0 kp (by decide) H0.out).mono ?_); rintro e w2 ⟨rfl, hH2, hs2⟩; have H2 := Lib.hid hH2; have HB2 := Lib.hid (HB0.out.trans (Safe.below hs2 (fun b hb => hb) HB0.out.size)); clear hH2 hs2)
    | (go_at_call 26; (with_reducible refine (held_prog (some ad) c l 0 0 H2.out (HC.out.keep (fun b hb => HB2.out.block b hb) (fun _ h => h))).mono ?_); rintro e w3 ⟨rfl, hH3, hs3⟩; rw [show ((max 0 (kp : Int))) = (kp : Int) by omega] at hH3 ⊢; rw [show ({ madeS 2 np [] with c := behindS 0, keep := (kp : Int) } : LS) = { tn0 np with c := behindS 0, keep := (kp : Int) } from rfl, HP1.out] at hH3 ⊢; have H3 := Lib.hid hH3; have HB3 := Lib.hid (HB2.out.trans (Safe.below hs3 (fun b hb => hb) HB2.out.size)); clear hH3 hs3)
    | (go_at_call 14; (with_reducible refine (held_read 0 0 H3.out).mono ?_); rintro e w4 ⟨A4, L4, rfl, hL4, hc4, hH4, hs4⟩; rw [HD1.out] at hH4 ⊢; have H4 := Lib.hid (hH4.less fun b hb => .inl hb); have HB4 := Lib.hid (HB3.out.trans (Safe.below hs4 (fun b hb => hb) HB3.out.size)); clear hH4 hs4 hL4 hc4)
    | (go_at_call 24; (with_reducible refine (held_power H4.out).mono ?_); rintro e w5 ⟨rfl, hH5, hs5⟩; have H5 := Lib.hid hH5; have HB5 := Lib.hid (HB4.out.trans (Safe.below hs5 (fun b hb => hb) HB4.out.size)); clear hH5 hs5)
    | (go_at_call 14; (with_reducible refine (held_read 0 0 H5.out).mono ?_); rintro e w6 ⟨A6, L6, rfl, hL6, hc6, hH6, hs6⟩; have hrd := HR1.out.1; rw [hrd] at hL6 ⊢; have hL := Lib.hid hL6.out; have hC6 := Lib.hid hc6; have H6 := Lib.hid (hH6.less fun b hb => .inl hb); have HB6 := Lib.hid (HB5.out.trans (Safe.below hs6 (fun b hb => hb) HB5.out.size)); clear hH6 hs6 hL6 hc6 hrd))
  have hpg : ((newBk np).pages.set 0 (l.take kp)).getD 0 [] = l.take kp := by
    obtain ⟨m, rfl⟩ : ∃ m, np = m + 1 := ⟨np - 1, by omega⟩
    simp [newBk, List.replicate_succ]
  obtain ⟨m, hm⟩ : ∃ m : Nat, m = min kp l.length := ⟨_, rfl⟩
  have hmi : (if l.length < kp then (l.length : Int) else (kp : Int)) = (m : Int) := by split <;> omega
  have hmc : m ≤ c := by omega
  have hst1 : ∀ k, (convert 32 9 (.slice A6 L6.length L6.length)).run Try.prog (w6.drewN k) = .ok (.string (strOf (l.take m))) (w6.drewN k) := fun k => by
    have := run_str ((hC6.out.rb (B := w6.heap.size) (fun b hb => hb.2)).drewN k) L6.length
    rw [show strOf L6 = strOf (l.take m) from congrArg strOf ((hL.out.trans hpg).trans (by rw [hm, List.take_eq_take_iff]; omega))] at this
    exact this
  have hst2 : ∀ k, (convert 32 9 (.slice (some ad) m c)).run Try.prog (w6.drewN k) = .ok (.string (strOf (l.take m))) (w6.drewN k) := fun k => by
    have h9 : m = (l.take m).length := by rw [List.length_take]; omega
    rw [show (Value.slice (some ad) m c) = Value.slice (some ad) (l.take m).length c by rw [← h9]]
    exact run_str ((((HC.out.keep (fun b hb => HB6.out.block b hb) (fun _ h => h)).rb (B := w6.heap.size) (fun b hb => Nat.lt_of_lt_of_le hb HB6.out.size)).take _).drewN k) c
  have hs1 := hst1 1
  have hs2 := hst2 1
  rw [show w6.drewN 1 = w6.drew from rfl] at hs1 hs2
  clear hm hpg
  go_still_tail 24, (by kernel_rfl)
  clear hs1 hs2 hst1 hst2 hmi
  change wpList _ _ _ _ _ w6.drew
  obtain ⟨S2, hS2⟩ : ∃ S2, (rdL { S1 with dark := false, c := ⟨false, 0⟩ } 0 0).2.2 = S2 := ⟨_, rfl⟩
  have ht2 := HR1.out.2
  have h6 := H6.out
  rw [hS2] at ht2 h6
  have HT2 := Lib.hid ht2
  obtain ⟨PG, hPG⟩ : ∃ PG : List (List UInt8), tellB S2 0 = ⟨false, 1, 0, PG⟩ := ⟨_, two_tell0 ht2⟩
  have HE2 := Lib.hid hPG
  clear hPG
  have H7 := Lib.hid h6.drew
  have HB7 := Lib.hid (drewN_below HB6.out 1)
  clear ht2 h6 hS2
  generalize hw7 : w6.drew = w7 at H7
  rw [show w6.drewN 1 = w6.drew from rfl, hw7] at HB7
  clear hw7 HT1 HR1 H6 HB6 HN HP1 HD1 H0 HB0 H2 HB2 H3 HB3 H4 HB4 H5 HB5 hL hC6
  go_wp2_with (first
    | (go_at_call 31; (with_reducible refine (held_block 0 H7.out).mono ?_); rintro e w8 ⟨v, rfl, ⟨A8, c8, rfl, hv8⟩, hb8⟩; rw [HE2.out]; have fn8 := field_next false 1 0 A8 PG.length c8; have H8 := Lib.hid (H7.out.below hb8); have HB8 := Lib.hid (HB7.out.trans (hb8.mono HB7.out.size)); clear hb8 hv8))
  go_loopw [13, 88] (fun _ n wr => ∃ (j : Nat) (S : LS), j ≤ np ∧ n = .int .i64 j ∧ Two S np { newBk np with bad := false, next := 1, pages := (newBk np).pages.set 0 (l.take kp) } (sevens np j) ∧ Held wr p (fun b => b < w.heap.size) S ∧ Below w.heap.size w wr) (fun _ n _ => np - (intOf n).toNat)
  case atStart => exact ⟨0, S2, Nat.zero_le _, rfl, by rw [← sevens_new]; exact HT2.out, H8.out, HB8.out⟩
  case round =>
    obtain ⟨j, S, hj, rfl, hT, hH, hB⟩ := hrel
    have H1 := Lib.hid hH
    have HB1 := Lib.hid hB
    have HT := Lib.hid hT
    clear hH hB hT H8 HB8 HT2 HE2 H7 HB7
    by_cases hjn : j < np
    · obtain ⟨c1, c2⟩ := sevens_next HT.out hjn
      have h3 := held_prog_n (some ⟨wr.heap.size, 0, none⟩) 1 1 [UInt8.ofNat 7] 1 j rfl (H1.out.alloc (.cells #[.int .u8 ((7 : Nat) : Int)] 5)) (one_byte (by omega))
      rw [show ((7 : Nat) : Int) = 7 from rfl, show ([UInt8.ofNat 7] : List UInt8) = [7] from rfl] at h3
      have H3 := Lib.hid h3
      have C1 := Lib.hid c1
      have C2 := Lib.hid c2
      clear h3 c1 c2
      go_wp2_with (go_at_call 26; (with_reducible refine H3.out.mono ?_); rintro e w2 ⟨rfl, hH2, hs2⟩; rw [C1.out]; have H2 := Lib.hid hH2; have S2 := Lib.hid hs2; clear hH2 hs2)
      go_roundw
      case rel => exact ⟨j + 1, _, by omega, by simp, C2.out, H2.out.less (fun b hb => .inl hb), (HB1.out.alloc HB1.out.size _).trans (Safe.below S2.out (fun b hb => .inl hb) (by have := HB1.out.size; simp; omega))⟩
      case measure => simp [intOf]; omega
    · obtain rfl : np = j := by omega
      obtain ⟨S4, q1, q2, q3⟩ := torn_erase (keep := kp) HT.out
      have Q1 := Lib.hid q1
      have Q3 := Lib.hid (two_tell1 q3)
      clear q1 q2 q3
      obtain ⟨x, hx⟩ : ∃ x : Int, x = if np ≤ kp then 0 else (np : Int) := ⟨_, rfl⟩
      obtain ⟨NP, hNP, hNL, hNG⟩ := torn_pages np kp hnp1 x hx
      have HNP := Lib.hid hNP
      have HNG := Lib.hid hNG
      clear hNP hNG
      have hx0 : (x == 0) = decide (np ≤ kp) := by
        by_cases hk9 : np ≤ kp
        · rw [hx, if_pos hk9]; simp [hk9]
        · rw [hx, if_neg hk9]; simp [hk9]; omega
      clear hx
      go_wp2_with (first
        | (go_at_call 22; (with_reducible refine (held_cut 0 kp (by decide) H1.out).mono ?_); rintro e w2 ⟨rfl, hH2, hs2⟩; rw [show ((max 0 (kp : Int))) = (kp : Int) by omega] at hH2; have H2 := Lib.hid hH2; have HB2 := Lib.hid (HB1.out.trans (Safe.below hs2 (fun b hb => hb) HB1.out.size)); clear hH2 hs2)
        | (go_at_call 16; (with_reducible refine (held_erase 1 H2.out).mono ?_); rintro e w3 ⟨rfl, hH3, hs3⟩; rw [Q1.out] at hH3 ⊢; have H3 := Lib.hid hH3; have HB3 := Lib.hid (HB2.out.trans (Safe.below hs3 (fun b hb => hb) HB2.out.size)); clear hH3 hs3)
        | (go_at_call 24; (with_reducible refine (held_power H3.out).mono ?_); rintro e w5 ⟨rfl, hH5, hs5⟩; have H5 := Lib.hid hH5; have HB5 := Lib.hid (HB3.out.trans (Safe.below hs5 (fun b hb => hb) HB3.out.size)); clear hH5 hs5)
        | (go_at_call 31; (with_reducible refine (held_block 1 H5.out).mono ?_); rintro e w8 ⟨v, rfl, ⟨A8, c8, rfl, hc8, hv8⟩, hb8⟩; rw [Q3.out] at hv8 hc8 ⊢; rw [HNP.out] at hv8 hc8 ⊢; have HV8 := Lib.hid hv8; rw [show (⟨false, x, 1, NP⟩ : Bk).pages.length = np from hNL];  have HB8 := Lib.hid (HB5.out.trans (hb8.mono HB5.out.size)); clear hb8 hv8))
      obtain ⟨G, rfl, hG, hpp⟩ := HV8.out (by show 0 < NP.length; omega)
      have HPP := Lib.hid hpp
      clear hpp hG HV8 HNP H1 HB1 HT Q1 Q3 H2 HB2 H3 HB3 H5 HB5
      go_loopw [16, 17, 133] (fun _ _ n wr => ∃ j : Nat, j ≤ np ∧ n = .int .i64 j ∧ Below w8.heap.size w8 wr) (fun _ _ n _ => np - (intOf n).toNat)
      case atStart => exact ⟨0, Nat.zero_le _, rfl, (Below.refl _ _).alloc (Nat.le_refl _) _⟩
      case round =>
        obtain ⟨j, hj, rfl, hB⟩ := hrel
        have HB9 := Lib.hid hB
        clear hB
        by_cases hjn : j < np
        · obtain ⟨A9, c9, hcell, h91, h92, h93⟩ := HPP.out j (by show j < NP.length; omega)
          have hng := HNG.out j (by omega)
          have hlt : G < w8.heap.size := by
            refine Nat.lt_of_not_le fun hle => ?_
            have hnone : w8.heap[G]? = none := Array.getElem?_eq_none hle
            simp [World.cell?, hnone] at hcell
          have cb : wr.cell? ⟨G, j, none⟩ = some (.slice A9 NP[j].length c9) := (HB9.out.cell (p := ⟨G, j, none⟩) hlt).trans hcell
          rw [hng] at cb
          clear h91 h92 h93 hcell hng
          by_cases hjk : j < kp
          · rw [if_pos hjk] at cb
            go_wp2
            go_roundw
            case rel => exact ⟨j + 1, by omega, by simp, HB9.out⟩
            case measure => simp [intOf]; omega
          · rw [if_neg hjk] at cb
            go_wp2
            go_roundw
            case rel => exact ⟨j + 1, by omega, by simp, HB9.out⟩
            case measure => simp [intOf]; omega
        · go_wp2_with (go_at_call 11; (with_reducible refine (awake_any _).mono ?_); rintro e w9 ⟨rfl, hb9⟩)
          go_ret
          exact ⟨rfl, HB8.out.trans ((HB9.out.mono HB8.out.size).trans (hb9.mono (by have := HB8.out.size; have := HB9.out.size; omega)))⟩
theorem torn_any (K P : Int) (A : Option Addr) (c : Nat) (l : List UInt8) (w : World) (hr : RB w w.heap.size A l) (hlc : l.length ≤ c) :
    Calls Try.prog 6 #[.slice A l.length c, .int .i64 K, .int .i64 P] w (Holds w) := by
  by_cases h2 : 1 ≤ l.length
  · by_cases h3 : l.length ≤ 2000
    · exact torn_in K P A c l w hr h2 h3 hlc
    · go_enter Try.func6, Try.ntmps6
      go_wp2_with (go_at_call 11; (with_reducible refine (awake_any _).mono ?_); rintro e w9 ⟨rfl, hb9⟩)
      go_ret
      exact ⟨rfl, hb9⟩
  · go_enter Try.func6, Try.ntmps6
    go_wp2_with (go_at_call 11; (with_reducible refine (awake_any _).mono ?_); rintro e w9 ⟨rfl, hb9⟩)
    go_ret
    exact ⟨rfl, hb9⟩
end Go.Proofs.Ytgaplbcbcoeigaa
