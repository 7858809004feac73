/- NameOrder: the law's walk (written by mkorder.py). -/
import Derived.Test.YtnmcnnackokhcaaEnO
namespace Go.Proofs.Ytnmcnnackokhcaa
open Go.RowKit Go.Lib

theorem u64_rngE (x : Int) : 0 ≤ IntKind.u64.wrap x ∧ IntKind.u64.wrap x ≤ 18446744073709551615 := by
  have e : IntKind.u64.wrap x = x % 18446744073709551616 := by unfold IntKind.wrap; rfl
  rw [e]; omega
theorem u64_atE (x : Int) (n : Nat) (h : 0 < n) (h2 : n ≤ 100000) : ∃ i : Nat, i < n ∧ wrap64 (IntKind.u64.wrap x % (n : Int)) = (i : Int) := by
  have h1 := Int.emod_nonneg (IntKind.u64.wrap x) (show (n : Int) ≠ 0 by omega)
  have h3 := Int.emod_lt_of_pos (IntKind.u64.wrap x) (show 0 < (n : Int) by omega)
  refine ⟨(IntKind.u64.wrap x % (n : Int)).toNat, by omega, ?_⟩
  rw [show wrap64 (IntKind.u64.wrap x % (n : Int)) = IntKind.u64.wrap x % (n : Int) by unfold wrap64; omega]
  omega
set_option maxRecDepth 100000 in
set_option maxHeartbeats 8000000 in
theorem order_law (A : Option Addr) (c : Nat) (l : List ByteArray) (tn : Int) (w : World) (hA : TLies w A l) (hc : l.length ≤ c) :
    Calls Try.prog 5 #[.slice A l.length c, .int .i64 tn] w fun e w' => e = .returned (.bool true) ∧ Below w.heap.size w w' := by
  have HA := Lib.hid hA
  by_cases h10 : l.length ≤ 10
  case neg =>
    have d1 : decide ((10 : Int) < (l.length : Int)) = true := decide_eq_true (by omega)
    go_enter Try.func5, Try.ntmps5
    go_wp2_with (first
      | (go_at_call 8; (with_reducible refine (awake_any _).mono ?_); rintro e w99 ⟨rfl, hb99⟩; have HB99 := Lib.hid hb99; clear hb99)
      | fail)
    go_ret
    exact ⟨rfl, HB99.out⟩
  have d1 : decide ((10 : Int) < (l.length : Int)) = false := decide_eq_false (by omega)
  clear hA
  go_enter Try.func5, Try.ntmps5
  go_wp2_with fail
  go_loopw [5, 6, 8, 25, 38] (fun _ _ _ v25 _ wr => ∃ jx : Nat, jx ≤ l.length ∧ v25 = .int .i64 jx ∧ wr = w ∧ Hid (∀ i (h : i < l.length), i < jx → mayL (l[i]).data.toList = true ∧ ∀ k (h' : k < l.length), k < i → l[k] ≠ l[i])) (fun _ _ _ v25 _ _ => l.length - (RowKit.intOf v25).toNat)
  case atStart => exact ⟨0, Nat.zero_le _, rfl, rfl, Lib.hid fun i _ h => absurd h (Nat.not_lt_zero i)⟩
  case round =>
    obtain ⟨jx, hj, rfl, rfl, HI⟩ := hrel
    by_cases hj1 : jx < l.length
    · obtain ⟨B, o, rfl, hBs, hcc⟩ := HA.out (by omega)
      have d2 : decide ((jx : Int) < (l.length : Int)) = true := decide_eq_true (by omega)
      have k0 := hcc jx hj1
      have HCC := Lib.hid hcc
      obtain ⟨s, hs⟩ : ∃ s, l[jx] = s := ⟨_, rfl⟩
      rw [hs] at k0
      have HSJ := Lib.hid hs
      have hN := fun w => name_any s w
      obtain ⟨m, hm⟩ : ∃ m, mayL s.data.toList = m := ⟨_, rfl⟩
      rw [hm] at hN
      have HM := Lib.hid hm
      have HN := Lib.hid hN
      have HS1 : ∀ w, (Instr.slice 29 (.slice (some ⟨B, o, none⟩) l.length c) none (some (.int .i64 (jx : Nat))) none).run Try.prog w = .ok (.slice (some ⟨B, o, none⟩) jx c) w := fun w => by
        rw [run_slice_h (w := w) (t := 29) (a := some ⟨B, o, none⟩) (len := l.length) (cap := c) (ht := Try.underlying29) .i64 jx (by omega) (by omega)]
        rw [show (sizeOf (Try.prog.elem 29)).run Try.prog w = .ok 1 w by kernel_rfl]
        simp [Result.andThen, sliced, Addr.add]
      clear hcc hs hN hm
      cases m with
      | false =>
        go_wp2_with (first
          | (go_at_call 19; (with_reducible refine (HN.out _).mono ?_); rintro e w2 ⟨rfl, rfl⟩)
          | (go_at_call 8; (with_reducible refine (awake_any _).mono ?_); rintro e w99 ⟨rfl, hb99⟩; have HB99 := Lib.hid hb99; clear hb99)
          | fail)
        go_ret
        exact ⟨rfl, HB99.out⟩
      | true =>
        go_wp2_with (first
          | (go_at_call 19; (with_reducible refine (HN.out _).mono ?_); rintro e w2 ⟨rfl, hw2⟩; subst hw2)
          | fail)
        obtain ⟨W, hW⟩ : ∃ W, W = w2 := ⟨_, rfl⟩
        subst hW
        go_loopw [8, 38] (fun _ v38 wq => ∃ q : Nat, q ≤ jx ∧ v38 = .int .i64 q ∧ wq = W ∧ Hid (∀ k (h : k < l.length), k < q → l[k] ≠ s)) (fun _ v38 _ => jx - (RowKit.intOf v38).toNat)
        case atStart => exact ⟨0, Nat.zero_le _, rfl, rfl, Lib.hid fun i _ h => absurd h (Nat.not_lt_zero i)⟩
        case round =>
          obtain ⟨q, hq, rfl, rfl, HQ⟩ := hrel
          by_cases hq1 : q < jx
          · have hql : q < l.length := by omega
            have d3 : decide ((q : Int) < (jx : Int)) = true := decide_eq_true (by omega)
            have kq := HCC.out q hql
            obtain ⟨t, ht⟩ : ∃ t, l[q] = t := ⟨_, rfl⟩
            rw [ht] at kq
            have HT := Lib.hid ht
            clear ht
            by_cases e : s = t
            · have HE : (s.toList == t.toList) = true := by rw [eq_eqB, decide_eq_true e]
              clear e
              go_wp2_with (first
                | (go_at_call 8; (with_reducible refine (awake_any _).mono ?_); rintro e w99 ⟨rfl, hb99⟩; have HB99 := Lib.hid hb99; clear hb99)
                | fail)
              go_ret
              exact ⟨rfl, HB99.out⟩
            · have HE : (s.toList == t.toList) = false := by rw [eq_eqB, decide_eq_false e]
              have HNE := Lib.hid e
              clear e
              go_wp2_with fail
              go_roundw
              case rel =>
                refine ⟨q + 1, by omega, by go_num, by first | rfl | trivial, Lib.hid fun k h hkq => ?_⟩
                by_cases e : k = q
                · subst e; rw [HT.out]; exact fun x => HNE.out x.symm
                · exact HQ.out k h (by omega)
              case measure => simp [RowKit.intOf]; omega
          · obtain rfl : q = jx := by omega
            have d3 : decide ((q : Int) < (q : Int)) = false := decide_eq_false (by omega)
            go_wp2_with fail
            go_roundw
            case rel =>
              refine ⟨q + 1, by omega, by go_num, by first | rfl | trivial, Lib.hid fun i h hi => ?_⟩
              by_cases e : i = q
              · subst e
                refine ⟨by rw [HSJ.out]; exact HM.out, fun k h' hk => ?_⟩
                rw [HSJ.out]
                exact HQ.out k h' hk
              · exact HI.out i h (by omega)
            case measure => simp [RowKit.intOf]; omega
    · obtain rfl : jx = l.length := by omega
      have d2 : decide ((l.length : Int) < (l.length : Int)) = false := decide_eq_false (by omega)
      have HPU : Hid (Puts (entsO l)) := Lib.hid (entsO_puts h10 (fun s hs => by
        obtain ⟨i, hi, rfl⟩ := List.getElem_of_mem hs
        exact (HI.out i hi hi).1) (List.pairwise_iff_getElem.2 fun i k hi hk hik => (HI.out k hk hk).2 i hi hik))
      have r0 := u64_rngE tn
      obtain ⟨k, hk, hK⟩ := u64_atE tn (l.length + 1) (by omega) (by omega)
      have HK := Lib.hid hK
      clear hK HI
      go_upto_region 16 with fail
      have hK2 : wrap64 (IntKind.u64.wrap tn % ((l.length : Int) + 1)) = ((k : Nat) : Int) := by have := HK.out; simpa using this
      rw [hK2]
      clear hK2 HK r0
      have hkl : k ≤ l.length := by omega
      obtain ⟨W0, hW0⟩ : ∃ W0, W0 = wr := ⟨_, rfl⟩
      subst hW0
      go_wp2_with fail
      go_loopw [10, 11, 12, 13, 14, 15, 16, 58] (fun v10 v11 _ _ _ _ _ v58 wq => ∃ (jx : Nat) (A1 : Option Addr) (c1 : Nat) (P1 : List Ent) (A2 : Option Addr) (c2 : Nat) (P2 : List Ent), jx ≤ l.length ∧ v58 = .int .i64 jx ∧ v10 = .slice A1 P1.length c1 ∧ v11 = .slice A2 P2.length c2 ∧ Hid (P1 = insA ((entsO l).take jx)) ∧ Hid (P2 = insA ((rotE (entsO l) k).take jx)) ∧ Hid (ELies wq A1 P1) ∧ Hid (ELies wq A2 P2) ∧ Hid ((A1 = none → P1 = [] ∧ c1 = 0) ∧ P1.length ≤ c1) ∧ Hid ((A2 = none → P2 = [] ∧ c2 = 0) ∧ P2.length ≤ c2) ∧ Hid (Below W0.heap.size W0 wq)) (fun _ _ _ _ _ _ _ v58 _ => l.length - (RowKit.intOf v58).toNat)
      case atStart => exact ⟨0, none, 0, [], none, 0, [], Nat.zero_le _, rfl, rfl, rfl, Lib.hid rfl, Lib.hid rfl, Lib.hid (.nil _ _), Lib.hid (.nil _ _), Lib.hid ⟨fun _ => ⟨rfl, rfl⟩, Nat.le_refl _⟩, Lib.hid ⟨fun _ => ⟨rfl, rfl⟩, Nat.le_refl _⟩, Lib.hid (Below.refl _ _)⟩
      case round =>
        obtain ⟨jx, A1, c1, P1, A2, c2, P2, hj, rfl, rfl, rfl, HP1, HP2, HL1, HL2, HN1, HN2, HB⟩ := hrel
        by_cases hj1 : jx < l.length
        · obtain ⟨B, o, rfl, hBs, hcc⟩ := (HA.out.below HB.out) (by omega)
          have d3 : decide ((jx : Int) < (l.length : Int)) = true := decide_eq_true (by omega)
          have k0 := hcc jx hj1
          obtain ⟨r, hr⟩ : ∃ r, (jx + k) % l.length = r := ⟨_, rfl⟩
          have hrl : r < l.length := by rw [← hr]; exact Nat.mod_lt _ (by omega)
          have k1 := hcc r hrl
          have HR1 : ((jx : Int) + (k : Int)).tmod (l.length : Int) = (r : Int) := by rw [← hr, Int.tmod_eq_emod_of_nonneg (by omega)]; simp
          have HR2 : ((jx : Int) + (k : Int)) % (l.length : Int) = (r : Int) := by rw [← hr]; simp
          have hE1 : (entsO l)[jx]'(by rw [entsO_len]; exact hj1) = (l[jx], 1 + (jx : Int)) := by rw [entsO_at l jx hj1]; simp
          have hE2 : (rotE (entsO l) k)[jx]'(by rw [rot_len, entsO_len]; exact hj1) = (l[r], 1 + (r : Int)) := by
            rw [rot_at (entsO l) k jx (by rw [entsO_len]; exact hkl) (by rw [entsO_len]; exact hj1)]
            have hrr : (jx + k) % (entsO l).length = r := by rw [entsO_len]; exact hr
            simp only [hrr]
            rw [entsO_at l r hrl]; simp
          have hS1 := HPU.out.step (j := jx) (by rw [entsO_len]; exact hj1)
          rw [hE1, ← HP1.out] at hS1
          have hS2 := (HPU.out.perm (rot_perm (entsO l) k)).step (j := jx) (by rw [rot_len, entsO_len]; exact hj1)
          rw [hE2, ← HP2.out] at hS2
          obtain ⟨s, hs⟩ : ∃ s, l[jx] = s := ⟨_, rfl⟩
          obtain ⟨t, ht⟩ : ∃ t, l[r] = t := ⟨_, rfl⟩
          rw [hs] at k0 hS1
          rw [ht] at k1 hS2
          have HWA := Lib.hid fun w (h : ELies w A1 P1) => with_any A1 c1 P1 s (1 + (jx : Int)) w h HN1.out.1 HN1.out.2
          have HWB := Lib.hid fun w (h : ELies w A2 P2) => with_any A2 c2 P2 t (1 + (r : Int)) w h HN2.out.1 HN2.out.2
          rw [hS1] at HWA
          rw [hS2] at HWB
          obtain ⟨Q1, hQ1⟩ : ∃ Q1, insA ((entsO l).take (jx + 1)) = Q1 := ⟨_, rfl⟩
          obtain ⟨Q2, hQ2⟩ : ∃ Q2, insA ((rotE (entsO l) k).take (jx + 1)) = Q2 := ⟨_, rfl⟩
          rw [hQ1] at HWA
          rw [hQ2] at HWB
          have HQ1 := Lib.hid hQ1
          have HQ2 := Lib.hid hQ2
          have hz : ((l.length : Int) == 0) = false := by rw [beq_eq_false_iff_ne]; omega
          clear hcc hr hE1 hE2 hS1 hS2 hs ht hQ1 hQ2
          go_wp2_with fail
          go_quiet (fail)
          obtain ⟨V, hV⟩ : ∃ V, V = wr.drewN nq := ⟨_, rfl⟩
          have hdr : Below wr.heap.size wr V := by rw [hV]; exact drewN_below (Below.refl _ _) nq
          rw [← hV]
          have HL1v := Lib.hid (HL1.out.below hdr)
          have HL2v := Lib.hid (HL2.out.below hdr)
          have HBv := Lib.hid (HB.out.trans (hdr.mono HB.out.size))
          clear hV hdr k0 k1 hBs
          go_wp2_with (first
            | (go_at_call 9; (with_reducible refine (HWA.out _ HL1v.out).mono ?_); rintro e w2 ⟨A3, c3, rfl, hl3, -, hn3, hc3, hb3⟩; replace hl3 := Lib.hid hl3; replace hn3 := Lib.hid hn3; replace hc3 := Lib.hid hc3; have HL2b := Lib.hid (HL2v.out.below hb3); replace hb3 := Lib.hid (HBv.out.trans (hb3.mono HBv.out.size)))
            | (go_at_call 9; (with_reducible refine (HWB.out _ HL2b.out).mono ?_); rintro e w3 ⟨A4, c4, rfl, hl4, -, hn4, hc4, hb4⟩; replace hl4 := Lib.hid hl4; replace hn4 := Lib.hid hn4; replace hc4 := Lib.hid hc4; have HL3b := Lib.hid (hl3.out.below hb4); replace hb4 := Lib.hid (hb3.out.trans (hb4.mono hb3.out.size)))
            | fail)
          go_roundw
          case rel => exact ⟨jx + 1, A3, c3, Q1, A4, c4, Q2, by omega, by go_num, rfl, rfl, Lib.hid HQ1.out.symm, Lib.hid HQ2.out.symm, HL3b, hl4, Lib.hid ⟨hn3.out, hc3.out⟩, Lib.hid ⟨hn4.out, hc4.out⟩, hb4⟩
          case measure => simp [RowKit.intOf]; omega
        · obtain rfl : jx = l.length := by omega
          have d3 : decide ((l.length : Int) < (l.length : Int)) = false := decide_eq_false (by omega)
          have e1 : P1 = insA (entsO l) := by rw [HP1.out, List.take_of_length_le (by rw [entsO_len]; exact Nat.le_refl _)]
          have e2 : P2 = P1 := by rw [HP2.out, e1, List.take_of_length_le (by rw [rot_len, entsO_len]; exact Nat.le_refl _)]; exact HPU.out.same (rot_perm _ _)
          subst e2
          have hmy : mayEs P2 = true := by rw [e1]; exact HPU.out.mayEs
          have hln : P2.length = l.length := by rw [e1, HPU.out.len_ins, entsO_len]
          have HLN := Lib.hid hln
          have d4 : ((P2.length : Int) == (l.length : Int)) = true := by rw [beq_iff_eq]; omega
          have HWZ := Lib.hid fun w (h : ELies w A1 P2) => with_any A1 c1 P2 ⟨#[122, 122, 122]⟩ 1 w h HN1.out.1 HN1.out.2
          have hpm : P2.length ≤ maxLen := by unfold maxLen; omega
          have hsm := fun w (h : ELies w A1 P2) (h' : ELies w A2 P2) => same_any A1 A2 c1 c2 P2 P2 w h h' hpm hpm
          simp only [decide_true] at hsm
          have HSM := Lib.hid hsm
          have HMM := Lib.hid fun w (h : ELies w A1 P2) => mays_any A1 c1 P2 w h
          rw [hmy] at HMM
          have HFF := Lib.hid fun w (h : ELies w A1 P2) => find_any A1 c1 P2 ⟨#[122, 122, 122]⟩ w h hpm
          have hfd := has_find hmy ⟨#[122, 122, 122]⟩
          have hwz : (withE P2 ⟨#[122, 122, 122]⟩ 1).2 = if hasE P2 ⟨#[122, 122, 122]⟩ = true then 9 else if P2.length = 10 then 14 else 0 := by
            unfold withE
            rw [if_neg (by rw [hmy, show mayE (⟨#[122, 122, 122]⟩, 1) = true by decide]; simp)]
            split
            · rfl
            · split <;> rfl
          generalize withE P2 ⟨#[122, 122, 122]⟩ 1 = Z at HWZ hwz
          obtain ⟨Z, ze⟩ := Z
          generalize findE P2 ⟨#[122, 122, 122]⟩ = F at HFF hfd
          obtain ⟨T, hT⟩ : ∃ T, hasE P2 ⟨#[122, 122, 122]⟩ = T := ⟨_, rfl⟩
          rw [hT] at hfd hwz
          rw [hln] at hwz
          replace hwz : ze = if T = true then 9 else if l.length = 10 then 14 else 0 := hwz
          clear hmy hln hpm hsm e1 hT HP1 HP2 hj hj1 hkl
          by_cases hten : l.length = 10
          · have d5 : ((l.length : Int) == 10) = true := by rw [beq_iff_eq]; omega
            cases T with
            | true =>
              obtain rfl : ze = 9 := by rw [hwz]; rfl
              have d6 : decide (F < 0) = false := decide_eq_false (by have := of_decide_eq_true hfd; omega)
              clear hwz hfd hten
              go_wp2_with (first
                | (go_at_call 9; (with_reducible refine (HWZ.out _ HL1.out).mono ?_); rintro e w2 ⟨A3, c3, rfl, -, -, -, -, hb3⟩; have HL1b := Lib.hid (HL1.out.below hb3); have HL2b := Lib.hid (HL2.out.below hb3); replace hb3 := Lib.hid (HB.out.trans (hb3.mono HB.out.size)))
                | (go_at_call 14; (with_reducible refine (HSM.out _ HL1b.out HL2b.out).mono ?_); rintro e w4 ⟨rfl, hb4⟩; have HL1c := Lib.hid (HL1b.out.below hb4); replace hb4 := Lib.hid (hb3.out.trans (hb4.mono hb3.out.size)))
                | (go_at_call 15; (with_reducible refine (HMM.out _ HL1c.out).mono ?_); rintro e w5 ⟨rfl, hb5⟩; have HL1d := Lib.hid (HL1c.out.below hb5); replace hb5 := Lib.hid (hb4.out.trans (hb5.mono hb4.out.size)))
                | (go_at_call 17; (with_reducible refine (HFF.out _ HL1d.out).mono ?_); rintro e w6 ⟨rfl, hb6⟩; replace hb6 := Lib.hid (hb5.out.trans (hb6.mono hb5.out.size)))
                | (go_at_call 8; (with_reducible refine (awake_any _).mono ?_); rintro e w99 ⟨rfl, hb99⟩; have HB99 := Lib.hid hb99; clear hb99)
                | fail)
              go_ret
              exact ⟨rfl, (hb6.out.trans (HB99.out.mono hb6.out.size))⟩
            | false =>
              obtain rfl : ze = 14 := by rw [hwz, if_neg (by simp), if_pos hten]
              have d6 : decide (F < 0) = true := decide_eq_true (by have := of_decide_eq_false hfd; omega)
              clear hwz hfd hten
              go_wp2_with (first
                | (go_at_call 9; (with_reducible refine (HWZ.out _ HL1.out).mono ?_); rintro e w2 ⟨A3, c3, rfl, -, -, -, -, hb3⟩; have HL1b := Lib.hid (HL1.out.below hb3); have HL2b := Lib.hid (HL2.out.below hb3); replace hb3 := Lib.hid (HB.out.trans (hb3.mono HB.out.size)))
                | (go_at_call 14; (with_reducible refine (HSM.out _ HL1b.out HL2b.out).mono ?_); rintro e w4 ⟨rfl, hb4⟩; have HL1c := Lib.hid (HL1b.out.below hb4); replace hb4 := Lib.hid (hb3.out.trans (hb4.mono hb3.out.size)))
                | (go_at_call 15; (with_reducible refine (HMM.out _ HL1c.out).mono ?_); rintro e w5 ⟨rfl, hb5⟩; have HL1d := Lib.hid (HL1c.out.below hb5); replace hb5 := Lib.hid (hb4.out.trans (hb5.mono hb4.out.size)))
                | (go_at_call 17; (with_reducible refine (HFF.out _ HL1d.out).mono ?_); rintro e w6 ⟨rfl, hb6⟩; replace hb6 := Lib.hid (hb5.out.trans (hb6.mono hb5.out.size)))
                | (go_at_call 8; (with_reducible refine (awake_any _).mono ?_); rintro e w99 ⟨rfl, hb99⟩; have HB99 := Lib.hid hb99; clear hb99)
                | fail)
              go_ret
              exact ⟨rfl, (hb6.out.trans (HB99.out.mono hb6.out.size))⟩
          · have d5 : ((l.length : Int) == 10) = false := by rw [beq_eq_false_iff_ne]; omega
            cases T with
            | true =>
              obtain rfl : ze = 9 := by rw [hwz]; rfl
              clear hwz hfd hten
              go_wp2_with (first
                | (go_at_call 9; (with_reducible refine (HWZ.out _ HL1.out).mono ?_); rintro e w2 ⟨A3, c3, rfl, -, -, -, -, hb3⟩; have HL1b := Lib.hid (HL1.out.below hb3); have HL2b := Lib.hid (HL2.out.below hb3); replace hb3 := Lib.hid (HB.out.trans (hb3.mono HB.out.size)))
                | (go_at_call 14; (with_reducible refine (HSM.out _ HL1b.out HL2b.out).mono ?_); rintro e w4 ⟨rfl, hb4⟩; have HL1c := Lib.hid (HL1b.out.below hb4); replace hb4 := Lib.hid (hb3.out.trans (hb4.mono hb3.out.size)))
                | (go_at_call 15; (with_reducible refine (HMM.out _ HL1c.out).mono ?_); rintro e w5 ⟨rfl, hb5⟩; have HL1d := Lib.hid (HL1c.out.below hb5); replace hb5 := Lib.hid (hb4.out.trans (hb5.mono hb4.out.size)))
                | (go_at_call 17; (with_reducible refine (HFF.out _ HL1d.out).mono ?_); rintro e w6 ⟨rfl, hb6⟩; replace hb6 := Lib.hid (hb5.out.trans (hb6.mono hb5.out.size)))
                | (go_at_call 8; (with_reducible refine (awake_any _).mono ?_); rintro e w99 ⟨rfl, hb99⟩; have HB99 := Lib.hid hb99; clear hb99)
                | fail)
              go_ret
              exact ⟨rfl, (hb5.out.trans (HB99.out.mono hb5.out.size))⟩
            | false =>
              obtain rfl : ze = 0 := by rw [hwz, if_neg (by simp), if_neg hten]
              clear hwz hfd hten
              go_wp2_with (first
                | (go_at_call 9; (with_reducible refine (HWZ.out _ HL1.out).mono ?_); rintro e w2 ⟨A3, c3, rfl, -, -, -, -, hb3⟩; have HL1b := Lib.hid (HL1.out.below hb3); have HL2b := Lib.hid (HL2.out.below hb3); replace hb3 := Lib.hid (HB.out.trans (hb3.mono HB.out.size)))
                | (go_at_call 14; (with_reducible refine (HSM.out _ HL1b.out HL2b.out).mono ?_); rintro e w4 ⟨rfl, hb4⟩; have HL1c := Lib.hid (HL1b.out.below hb4); replace hb4 := Lib.hid (hb3.out.trans (hb4.mono hb3.out.size)))
                | (go_at_call 15; (with_reducible refine (HMM.out _ HL1c.out).mono ?_); rintro e w5 ⟨rfl, hb5⟩; have HL1d := Lib.hid (HL1c.out.below hb5); replace hb5 := Lib.hid (hb4.out.trans (hb5.mono hb4.out.size)))
                | (go_at_call 17; (with_reducible refine (HFF.out _ HL1d.out).mono ?_); rintro e w6 ⟨rfl, hb6⟩; replace hb6 := Lib.hid (hb5.out.trans (hb6.mono hb5.out.size)))
                | (go_at_call 8; (with_reducible refine (awake_any _).mono ?_); rintro e w99 ⟨rfl, hb99⟩; have HB99 := Lib.hid hb99; clear hb99)
                | fail)
              go_ret
              exact ⟨rfl, (hb5.out.trans (HB99.out.mono hb5.out.size))⟩
end Go.Proofs.Ytnmcnnackokhcaa
