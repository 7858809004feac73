/- ChipStands: the law's walk. -/
import Derived.Test.YtdajlmbpjaoelaaLStands2
import Derived.Deep.CutBlock
import Derived.Deep.DeepCutAuto
namespace Go.Proofs.Ytdajlmbpjaoelaa
open Go.RowKit

theorem heavy_dos (A : Option Addr) (n cap : Nat) (D : Nat → Dos) (w : World) (hn : n ≤ maxLen) (h : ∀ i, i < n → DosAt w A i (D i)) :
    Calls Try.prog 10 #[.slice A n cap] w fun e w' => ∃ k : Int, e = .returned (.int .i64 k) ∧ (k ≤ 0 → n ≤ 150 ∧ ∀ i, i < n → (D i).l.length ≤ 2500) ∧ Below w.heap.size w w' := by
  by_cases h0 : n = 0
  · subst h0
    go_enter Try.func10, Try.ntmps10
    go_wp2
    refine wp_loop_rounds 1 ?_
    rw [rounds_succ]
    go_wp2
    go_ret
    exact ⟨0, rfl, fun _ => ⟨Nat.zero_le _, fun i hi => by omega⟩, Below.refl _ _⟩
  · obtain ⟨b, o, rfl, hb, _⟩ := (h 0 (by omega)).at_
    refine heavy_any b o n cap (fun i => (D i).x) (fun i => (D i).A) (fun i => (D i).l.length) (fun i => (D i).c) w (fun _ => hb) hn fun i hi => ?_
    obtain ⟨b', o', e, _, h2⟩ := (h i hi).at_
    cases e
    exact h2
set_option maxRecDepth 100000 in
set_option maxHeartbeats 8000000 in
theorem stands_in (A : Option Addr) (n cap : Nat) (D : Nat → Dos) (A' : Option Addr) (c' : Nat) (l : List UInt8) (kk : Int) (w : World) (hn : n ≤ maxLen) (h : ∀ i, i < n → DosAt w A i (D i)) (hr : RB w w.heap.size A' l) (h1 : 1 ≤ l.length) (h2 : l.length ≤ 2000) :
    Calls Try.prog 5 #[.slice A n cap, .slice A' l.length c', .int .i64 kk] w (Holds w) := by
  obtain ⟨K, hK4, hK⟩ := small_of kk 4 (by omega) (by omega)
  have HKn := Lib.hid (show K < 4 by omega)
  have HK := Lib.hid hK
  clear hK
  have HH := Lib.hid (heavy_dos A n cap D w hn h)
  have HD := Lib.hid h
  have HC := Lib.hid (cb_of hr)
  unfold maxLen at hn
  clear h hr
  go_enter Try.func5, Try.ntmps5
  go_wp2_with fail
  refine HH.out.mono ?_
  rintro e w1 ⟨hv, rfl, hhv, hb1⟩
  by_cases hz : 0 < hv
  · go_wp2_with (go_at_call 11; (with_reducible refine (awake_any _).mono ?_); rintro e w9 ⟨rfl, hb9⟩)
    go_ret
    exact ⟨rfl, hb1.trans (hb9.mono hb1.size)⟩
  have HV := Lib.hid (hhv (by omega))
  have HB1 := Lib.hid hb1
  have hz' : hv ≤ 0 := by omega
  clear hhv hb1 hz HH
  have HN : Hid (Calls Try.prog 12 #[.int .i64 4, .int .i64 4, .slice none 0 0] w1 fun e w' => ∃ p, e = .returned (.pointer (some ⟨p, 0, none⟩)) ∧ Held w' p (fun b => b < w1.heap.size) (madeS 4 4 []) ∧ Below w1.heap.size w1 w') := held_new (w := w1) 4 4 none 0 [] (fun h => absurd h (by simp)) (by decide) (by decide) (by decide) (by decide) (by decide)
  go_wp2_with (go_at_call 12; (refine HN.out.mono ?_); rintro e w2 ⟨p, rfl, hH, hB⟩; have H2 := Lib.hid (hH.less (y := fun b => b < w.heap.size) fun b hb => Nat.lt_of_lt_of_le hb HB1.out.size); have HB2 := Lib.hid (HB1.out.trans (hB.mono HB1.out.size)); clear hH hB)
  clear HN
  rw [HK.out]
  go_loopw [35] (fun i wr => ∃ (j : Nat) (S : LS), j ≤ K ∧ i = .int .i64 j ∧ Ready S j ∧ Held wr p (fun b => b < w.heap.size) S ∧ Below w.heap.size w wr) (fun i _ => K - (intOf i).toNat)
  case atStart => exact ⟨0, _, Nat.zero_le _, rfl, ready_new, H2.out, HB2.out⟩
  case round =>
    obtain ⟨j, S, hj, rfl, hR, hH, hB⟩ := hrel
    have H3 := Lib.hid hH
    have HB3 := Lib.hid hB
    have HR := Lib.hid hR
    clear hH hB hR H2 HB2
    by_cases hjk : j < K
    · obtain ⟨c1, c2, _⟩ := ready_prog HR.out (by omega) [1] (by decide) (by decide)
      have h3 := held_prog_n (some ⟨wr.heap.size, 0, none⟩) 1 1 [UInt8.ofNat 1] 1 j rfl (H3.out.alloc (.cells #[.int .u8 ((1 : Nat) : Int)] 5)) (one_byte (by omega))
      rw [show ((1 : Nat) : Int) = 1 from rfl, show ([UInt8.ofNat 1] : List UInt8) = [1] from rfl] at h3
      have H4 := Lib.hid h3
      have C1 := Lib.hid c1
      have C2 := Lib.hid c2
      clear h3 c1 c2
      go_wp2_with (go_at_call 26; (with_reducible refine H4.out.mono ?_); rintro e w3 ⟨rfl, hH2, hs2⟩; rw [C1.out]; have H5 := Lib.hid hH2; have S5 := Lib.hid hs2; clear hH2 hs2)
      go_roundw
      case rel => exact ⟨j + 1, _, by omega, by simp, C2.out, H5.out.less (fun b hb => .inl hb), (HB3.out.alloc HB3.out.size _).trans (Safe.below S5.out (fun b hb => .inl hb) (by have := HB3.out.size; simp; omega))⟩
      case measure => simp [intOf]; omega
    · obtain rfl : K = j := by omega
      obtain ⟨c1, _, c3⟩ := ready_prog HR.out HKn.out l h1 h2
      have C1 := Lib.hid c1
      have C3 := Lib.hid c3
      clear c1 c3
      have H6 := Lib.hid (H3.out.alloc (.cells #[.int .i64 1, .int .i64 (K : Int)] 31))
      go_wp2_with (go_at_call 26; (with_reducible refine (held_prog A' c' l 1 K H6.out ((HC.out.keep (fun b hb => HB3.out.block b hb) (fun _ h => h)).keep (fun b hb => Below.heap_alloc wr _ b (Nat.lt_of_lt_of_le hb HB3.out.size)) (fun _ h => .inl h))).mono ?_); rintro e w3 ⟨rfl, hH2, hs2⟩; rw [C1.out]; have H7 := Lib.hid hH2; have S7 := Lib.hid hs2; clear hH2 hs2)
      obtain ⟨g9, hg9⟩ : ∃ g9, g9 = wr.heap.size := ⟨_, rfl⟩
      rw [← hg9] at H7 S7
      have hgw : w.heap.size ≤ g9 := by rw [hg9]; exact HB3.out.size
      have G9 : Hid (w3.heap[g9]? = some (.cells #[.int .i64 1, .int .i64 (K : Int)] 31 (0, 0))) := by
        rw [hg9] at S7 ⊢
        exact (Safe.block S7.out (by simp) (.inr rfl)).trans (heap_alloc_new _ _)
      have HB7 : Hid (Below w.heap.size w w3) := (HB3.out.alloc HB3.out.size _).trans (Safe.below S7.out (fun b hb => .inl hb) (by have := HB3.out.size; simp; omega))
      clear S7 H6 HR HB3 H3
      rw [← hg9]
      generalize progL S 1 K l = T at H7 C3
      obtain ⟨T0, S9⟩ := T
      have H7 : Hid (Held w3 p (fun b => b < w.heap.size ∨ b = g9) S9) := H7.out
      have C3 : Hid (Stood S9 K l) := C3.out
      clear hg9
      clear C1
      go_loopw [54] (fun i wx => ∃ (j : Nat) (S : LS), j ≤ n ∧ i = .int .i64 j ∧ Stood S K l ∧ Held wx p (fun b => b < w.heap.size ∨ b = g9) S ∧ Safe (fun b => b < w.heap.size ∨ b = g9) w3 wx) (fun i _ => n - (intOf i).toNat)
      case atStart => exact ⟨0, S9, Nat.zero_le _, rfl, C3.out, H7.out, safe_of_below (Below.refl _ _)⟩
      case round =>
        obtain ⟨j, S, hj, rfl, hst, hH, hS⟩ := hrel
        have HST := Lib.hid hst
        have H8 := Lib.hid hH
        have S8 := Lib.hid hS
        clear hst hH hS
        by_cases hjn : j < n
        · have hda := HD.out j hjn
          obtain ⟨b, o, hA, hbl, hdo⟩ := hda.at_
          have hrb := hda.rb
          have hwf := hda.wf
          clear hda
          generalize D j = q at hdo hrb hwf
          obtain ⟨⟨x0, x1, x2, x3, x4⟩, Ad, cd, ld⟩ := q
          simp only at hdo hrb hwf
          have HBx := Lib.hid (HB7.out.trans (Safe.below S8.out (fun b hb => .inl hb) HB7.out.size))
          obtain ⟨c0, c1, c2, c3, c4, c5⟩ := hdo.below HBx.out hbl
          simp only at c0 c1 c2 c3 c4 c5
          have hw1 := (wf_le hwf.2.1).2
          have HCd := Lib.hid ((cb_of hrb).keep (fun b hb => HBx.out.block b hb) (fun _ h => h) : CB wr (fun b => b < w.heap.size) Ad ld)
          subst hA
          clear hdo hrb hwf hbl
          have H9 := Lib.hid (H8.out.alloc (.cells #[.int .i64 x0, .int .i64 x1, .int .i64 x2, .int .i64 x3, .int .i64 x4, .slice Ad ld.length cd] 34))
          have HC9 := Lib.hid (HCd.out.keep (fun b hb => Below.heap_alloc wr (.cells #[.int .i64 x0, .int .i64 x1, .int .i64 x2, .int .i64 x3, .int .i64 x4, .slice Ad ld.length cd] 34) b (Nat.lt_of_lt_of_le hb HBx.out.size)) (fun _ h => .inl (.inl h)) : CB (wr.alloc (.cells #[.int .i64 x0, .int .i64 x1, .int .i64 x2, .int .i64 x3, .int .i64 x4, .slice Ad ld.length cd] 34)) (fun b => (b < w.heap.size ∨ b = g9) ∨ b = wr.heap.size) Ad ld)
          have S9' := Lib.hid (S8.out.then (safe_of_below ((Below.refl _ _).alloc (Nat.le_refl _) (.cells #[.int .i64 x0, .int .i64 x1, .int .i64 x2, .int .i64 x3, .int .i64 x4, .slice Ad ld.length cd] 34))))
          go_upto_block 4 with fail
          go_cut [] (fun wy => ∃ S', Stood S' K l ∧ Held wy p (fun b => b < w.heap.size ∨ b = g9) S' ∧ Safe (fun b => b < w.heap.size ∨ b = g9) w3 wy)
          case first => as_aux_lemma =>
            --DONE{
            by_cases e1 : x0 = 1
            · subst e1
              by_cases e2 : x3 = 1
              · subst e2
                go_wp2_with fail
                go_meet
                case rel => exact ⟨S, HST.out, H9.out.less (fun b hb => .inl hb), S9'.out⟩
              · have E2 := Lib.hid e2
                have e2' : (x3 == 1) = false := by simpa using e2
                clear e2
                go_wp2_with (go_at_call 16; (with_reducible refine (held_erase x3 H9.out).mono ?_); rintro e wz ⟨rfl, hHz, hsz⟩; have HZ := Lib.hid hHz; have SZ := Lib.hid hsz; clear hHz hsz)
                go_meet
                case rel => exact ⟨_, HST.out.erase x3 E2.out, HZ.out.less (fun b hb => .inl hb), S9'.out.then' SZ.out (fun b _ hb => .inl hb)⟩
            · have e1' : (x0 == 1) = false := by simpa using e1
              by_cases e2 : x0 = 2
              · subst e2
                go_wp2_with (go_at_call 18; (with_reducible refine (held_fail x1 hw1 H9.out).mono ?_); rintro e wz ⟨rfl, hHz, hsz⟩; have HZ := Lib.hid hHz; have SZ := Lib.hid hsz; clear hHz hsz)
                go_meet
                case rel => exact ⟨{ S with f := behindS x1 }, HST.out.same rfl rfl, HZ.out.less (fun b hb => .inl hb), S9'.out.then' SZ.out (fun b _ hb => .inl hb)⟩
              · have e2' : (x0 == 2) = false := by simpa using e2
                by_cases e3 : x0 = 4
                · subst e3
                  go_wp2_with (go_at_call 22; (with_reducible refine (held_cut x1 x2 hw1 H9.out).mono ?_); rintro e wz ⟨rfl, hHz, hsz⟩; have HZ := Lib.hid hHz; have SZ := Lib.hid hsz; clear hHz hsz)
                  go_meet
                  case rel => exact ⟨{ S with c := behindS x1, keep := max 0 x2 }, HST.out.same rfl rfl, HZ.out.less (fun b hb => .inl hb), S9'.out.then' SZ.out (fun b _ hb => .inl hb)⟩
                · have e3' : (x0 == 4) = false := by simpa using e3
                  by_cases e4 : x0 = 5
                  · subst e4
                    go_wp2_with (go_at_call 24; (with_reducible refine (held_power H9.out).mono ?_); rintro e wz ⟨rfl, hHz, hsz⟩; have HZ := Lib.hid hHz; have SZ := Lib.hid hsz; clear hHz hsz)
                    go_meet
                    case rel => exact ⟨{ S with dark := false, c := ⟨false, 0⟩ }, HST.out.same rfl rfl, HZ.out.less (fun b hb => .inl hb), S9'.out.then' SZ.out (fun b _ hb => .inl hb)⟩
                  · have e4' : (x0 == 5) = false := by simpa using e4
                    clear e1 e2 e3 e4
                    go_wp2_with (go_at_call 26; (with_reducible refine (held_prog Ad cd ld x3 x4 H9.out HC9.out).mono ?_); rintro e wz ⟨rfl, hHz, hsz⟩; have HZ := Lib.hid hHz; have SZ := Lib.hid hsz; clear hHz hsz)
                    go_meet
                    case rel => exact ⟨_, HST.out.prog x3 x4 ld, HZ.out.less (fun b hb => .inl hb), S9'.out.then' SZ.out (fun b _ hb => .inl hb)⟩
            --}DONE
          case rest =>
            obtain ⟨S', hst', hH', hS'⟩ := hcut
            obtain ⟨w5, rfl⟩ : ∃ w5 : World, w5 = wc := ⟨_, rfl⟩
            obtain ⟨bad, nx, P, ht, hP4, hPk, hnx⟩ := hst'.tell
            have HT := Lib.hid ht
            have HST5 := Lib.hid hst'
            have H5 := Lib.hid hH'
            have S5 := Lib.hid hS'
            have hKP : K < P.length := by omega
            have HPk := Lib.hid hPk
            have hnx' : decide (nx ≤ (K : Int)) = false := by simp; omega
            clear ht hst' hH' hS' hPk H9 HC9 S9' HCd c0 c1 c2 c3 c4 c5 H8 S8 HST HBx
            go_wp2_with (go_at_call 31; (with_reducible refine (held_block 1 H5.out).mono ?_); rintro e w8 ⟨v, rfl, ⟨A8, c8, rfl, hc8, hv8⟩, hb8⟩; rw [HT.out] at hv8 hc8 ⊢; have HV8 := Lib.hid hv8; rw [show (⟨bad, nx, 0, P⟩ : Bk).pages.length = 4 from hP4]; have HB8 := Lib.hid hb8; clear hb8 hv8)
            obtain ⟨G, rfl, hG, hpp⟩ := HV8.out (by show 0 < P.length; omega)
            obtain ⟨A9, c9, hcell, h91, h92, h93⟩ := hpp K hKP
            have hPK : P[K] = l := by have := HPk.out; rw [List.getD_eq_getElem?_getD, List.getElem?_eq_getElem hKP] at this; exact this
            rw [hPK] at hcell h91 h92 h93
            have hlt : G < w8.heap.size := by
              refine Nat.lt_of_not_le fun hle => ?_
              have hnone : w8.heap[G]? = none := Array.getElem?_eq_none hle
              simp [World.cell?, hnone] at hcell
            have HBw : Below w.heap.size w w8 := (HB7.out.trans (Safe.below S5.out (fun b hb => .inl hb) HB7.out.size)).trans (HB8.out.mono (Nat.le_trans HB7.out.size S5.out.size))
            have hz8 := HBw.size
            have cb : (w8.alloc (.cells #[.bool bad, .int .i64 nx, .int .i64 0, .slice (some ⟨G, 0, none⟩) 4 c8] 38)).cell? ⟨G, K, none⟩ = some (.slice A9 l.length c9) := (World.cell?_of_block (a := ⟨G, K, none⟩) (Below.heap_alloc w8 (.cells #[.bool bad, .int .i64 nx, .int .i64 0, .slice (some ⟨G, 0, none⟩) 4 c8] 38) G hlt)).trans hcell
            have hst1 : ∀ k, (convert 32 9 (.slice A9 l.length c9)).run Try.prog ((w8.alloc (.cells #[.bool bad, .int .i64 nx, .int .i64 0, .slice (some ⟨G, 0, none⟩) 4 c8] 38)).drewN k) = .ok (.string (strOf l)) ((w8.alloc (.cells #[.bool bad, .int .i64 nx, .int .i64 0, .slice (some ⟨G, 0, none⟩) 4 c8] 38)).drewN k) := fun k => by
              have hrb : RB w8 w8.heap.size A9 l := fun hn0 => by
                obtain ⟨ad, e1, e2, e3⟩ := h93 hn0
                refine ⟨ad, e1, ?_, e3⟩
                have := e3 0 hn0
                have := World.block_lt_of_cell? w8 _ this
                rwa [block_add] at this
              exact run_str ((hrb.alloc (Nat.le_refl _) (.cells #[.bool bad, .int .i64 nx, .int .i64 0, .slice (some ⟨G, 0, none⟩) 4 c8] 38)).drewN k) c9
            have hst2 : ∀ k, (convert 32 9 (.slice A' l.length c')).run Try.prog ((w8.alloc (.cells #[.bool bad, .int .i64 nx, .int .i64 0, .slice (some ⟨G, 0, none⟩) 4 c8] 38)).drewN k) = .ok (.string (strOf l)) ((w8.alloc (.cells #[.bool bad, .int .i64 nx, .int .i64 0, .slice (some ⟨G, 0, none⟩) 4 c8] 38)).drewN k) := fun k => by
              exact run_str (((((HC.out.keep (fun b hb => HBw.block b hb) (fun _ h => h)).rb (B := w8.heap.size) (fun b hb => Nat.lt_of_lt_of_le hb HBw.size))).alloc (Nat.le_refl _) (.cells #[.bool bad, .int .i64 nx, .int .i64 0, .slice (some ⟨G, 0, none⟩) 4 c8] 38)).drewN k) c'
            have H10 := Lib.hid (H5.out.below (HB8.out.alloc HB8.out.size (.cells #[.bool bad, .int .i64 nx, .int .i64 0, .slice (some ⟨G, 0, none⟩) 4 c8] 38)))
            have S10 := Lib.hid (S5.out.then (safe_of_below (HB8.out.alloc HB8.out.size (.cells #[.bool bad, .int .i64 nx, .int .i64 0, .slice (some ⟨G, 0, none⟩) 4 c8] 38))))
            clear h91 h92 h93 hcell hpp hG HV8 hPK HBw hnx hc8
            go_quiet (fail)
            go_wp2
            go_roundw
            case rel => exact ⟨j + 1, S', by omega, by simp, HST5.out, H10.out.drewN _, S10.out.drewN _⟩
            case measure => simp [intOf]; omega
        · obtain rfl : j = n := by omega
          have hg9l : g9 < w3.heap.size := lt_size G9.out
          have HX : Hid (Held wr p (fun b => b < w.heap.size ∨ b = g9) S) := H8.out
          have SX := Lib.hid (held_power HX.out)
          go_wp2_with (go_at_call 24; (with_reducible refine SX.out.mono ?_); rintro e w5 ⟨rfl, hH5, hs5⟩; have H5 := Lib.hid hH5; have S5 := Lib.hid (S8.out.then hs5); clear hH5 hs5; have G5 := (Safe.block S5.out hg9l (.inr rfl)).trans G9.out; obtain ⟨d0, d1, _, _⟩ := cells2' G5)
          have hrd := (HST.out.same (S' := { S with dark := false, c := ⟨false, 0⟩ }) rfl rfl).read HKn.out rfl
          have HRD := Lib.hid hrd
          clear hrd d0 d1
          refine (held_read 1 K H5.out).mono ?_
          rintro e w6 ⟨A6, L6, rfl, hL6, hc6, hH6, hs6⟩
          rw [HRD.out.2]
          obtain rfl : L6 = l := hL6.out.trans HRD.out.1
          have S6 := Lib.hid (S5.out.then hs6)
          have HB6 := Lib.hid (HB7.out.trans (Safe.below S6.out (fun b hb => .inl hb) HB7.out.size))
          have ks1 := run_str (hc6.rb (B := w6.heap.size) (fun b hb => hb.2)) L6.length
          have ks2 := run_str ((HC.out.keep (fun b hb => HB6.out.block b hb) (fun _ h => h)).rb (B := w6.heap.size) (fun b hb => Nat.lt_of_lt_of_le hb HB6.out.size)) c'
          clear hL6 hH6 hs6 hc6
          go_wp2_with (go_at_call 11; (with_reducible refine (awake_any _).mono ?_); rintro e w9 ⟨rfl, hb9⟩)
          go_ret
          exact ⟨rfl, HB6.out.trans (hb9.mono HB6.out.size)⟩
theorem stands_any (A : Option Addr) (n cap : Nat) (D : Nat → Dos) (A' : Option Addr) (c' : Nat) (l : List UInt8) (kk : Int) (w : World) (hn : n ≤ maxLen) (h : ∀ i, i < n → DosAt w A i (D i)) (hr : RB w w.heap.size A' l) :
    Calls Try.prog 5 #[.slice A n cap, .slice A' l.length c', .int .i64 kk] w (Holds w) := by
  by_cases h1 : 1 ≤ l.length ∧ l.length ≤ 2000
  · exact stands_in A n cap D A' c' l kk w hn h hr h1.1 h1.2
  · have HH := Lib.hid (heavy_dos A n cap D w hn h)
    have hx : (l.length : Int) < 1 ∨ (2000 : Int) < (l.length : Int) := by omega
    clear h hr h1
    go_enter Try.func5, Try.ntmps5
    go_wp2_with fail
    refine HH.out.mono ?_
    rintro e w1 ⟨hv, rfl, _, hb1⟩
    have HB1 := Lib.hid hb1
    clear hb1 HH
    go_wp2_with (go_at_call 11; (with_reducible refine (awake_any _).mono ?_); rintro e w9 ⟨rfl, hb9⟩)
    all_goals
      go_ret
      exact ⟨rfl, HB1.out.trans (hb9.mono HB1.out.size)⟩
end Go.Proofs.Ytdajlmbpjaoelaa
