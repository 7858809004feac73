/- MountNew: its walk. -/
import Derived.Test.YtnadcdgpfopcaaaMoPk
namespace Go.Proofs.Ytnadcdgpfopcaaa
open Go.RowKit Go.Maps Go.Shelf

attribute [local go_sem] Oper.semAt_some
theorem Laid.rdmono {S : LS} {B P rd rd' : Nat} {F : Nat → List Sh} (h : Laid S B P F rd) (hle : rd ≤ rd') : Laid S B P F rd' := { h with rd1 := by have := h.rd1; omega }
/-- What the law needs of a scan of a chip of one block of sheets. -/
structure NewSeen (M : MS) (S : LS) (B j : Nat) (xs : List Sh) : Prop where
  good : MGood M
  thr : M.thr = true
  tell : M.tell = fdL 0 0 (xs.take j)
  fd : M.fd.length ≤ 5000
  laid : Laid M.S B 10 (oneF 0 (xs.take j)) (10 * j + 10)
  rd0 : 0 ≤ S.rd ∧ S.rd ≤ 1000
  rd : S.rd ≤ M.S.rd ∧ M.S.rd ≤ S.rd + 10
  none : j = 0 → M.S.rd = S.rd
theorem new_seen {S : LS} {B j : Nat} {xs : List Sh} (h : Laid S B 10 (oneF 0 (xs.take j)) (10 * j)) (hB : 1 ≤ B ∧ B ≤ 6) (hj : j ≤ 10) (good : MGood (scanned S (B * 10))) : NewSeen (scanned S (B * 10)) S B j xs := by
  obtain ⟨h1, h2, h3, h4⟩ := h.whole (by omega) (by omega) (by omega)
  rw [oneF_fd B 0 (xs.take j) (by omega)] at h2
  obtain ⟨s1, s2, s3, s4, s5⟩ := h.scan (by decide) (by omega) (by omega) (B * 10) (Nat.le_refl _)
  have hs := seen_one h (by decide) (B * 10) (Nat.le_refl _)
  have h0 := h.rd0
  have h9 := h.rd1
  refine ⟨good, h1, by unfold MS.tell; rw [if_pos h1]; exact h2, by rw [h2, fdL_length, List.length_take]; omega, s3.rdmono ?_, by omega, ?_, ?_⟩
  · split at hs <;> omega
  · split at hs <;> omega
  · intro e
    subst e
    rw [if_pos (by simp)] at hs
    omega
theorem scanned_good {S : LS} {w : World} {p : Nat} {x : Nat → Prop} {B P rd : Nat} {F : Nat → List Sh} (hh : Held w p x S) (h : Laid S B P F rd) (hB : 1 ≤ B) (hP : 1 ≤ P) (e : Nat) (he : e ≤ B * P) : MGood (scanned S e) := by
  have good : MGood (scanned S 0) := (show MGood (startM S) from ⟨start_ok hh (by rw [h.len]; exact hB), by simp [startM]⟩)
  have h1 := scanned_step S 0 e (by rw [h.np]; omega)
  rw [h.len, h.np] at h1
  have h2 := good.stepped e
  rw [h1] at h2
  rwa [show 0 + min ((e : Int)).toNat (B * P - 0) = e by omega] at h2
theorem scanned_dark {S : LS} {B P rd : Nat} {F : Nat → List Sh} (h : Laid S B P F rd) (hP : 0 < P) (hr : rd ≤ 1000000) (hBP : B * P ≤ 5000) (e : Nat) (he : e ≤ B * P) : (scanned S e).S.dark = false := (h.scan hP hr hBP e he).2.2.1.dark
theorem bill_reads (a b d : Int) (w : World) : (Instr.field 60 (.agg #[.int .i64 a, .int .i64 b, .int .i64 d]) 0).run Try.prog w = .ok (.int .i64 a) w := by
  simp [Instr.field, go_sem]
  rfl
set_option maxRecDepth 100000 in
set_option maxHeartbeats 8000000 in
theorem new_law (A : Option Addr) (c : Nat) (l : List Shs) (p q : Int) (w : World) (h : ShLies w A l) (hl : l.length ≤ maxLen) :
    Calls Try.prog 7 #[.slice A l.length c, .int .i64 p, .int .i64 q] w fun e w' => e = .returned (.bool true) ∧ Below w.heap.size w w' := by
  have HL := Lib.hid h
  have hmx : maxLen = 9223372036854775807 := rfl
  clear h
  obtain ⟨B, hB1, hB2, hB⟩ : ∃ B : Nat, 1 ≤ B ∧ B ≤ 6 ∧ wrap64 (1 + wrap64 ((IntKind.u64.wrap p).tmod 6)) = (B : Int) := by
    obtain ⟨N, h1, h2⟩ := u64_idx p 6 (by decide) (by decide)
    exact ⟨N + 1, by omega, by omega, by rw [show ((6 : Nat) : Int) = 6 from rfl] at h2; rw [h2]; unfold wrap64; omega⟩
  obtain ⟨n, hn1, hn2, hn⟩ : ∃ n : Nat, 1 ≤ n ∧ n ≤ 30 ∧ wrap64 (1 + wrap64 ((IntKind.u64.wrap q).tmod 30)) = (n : Int) := by
    obtain ⟨N, h1, h2⟩ := u64_idx q 30 (by decide) (by decide)
    exact ⟨N + 1, by omega, by omega, by rw [show ((30 : Nat) : Int) = 30 from rfl] at h2; rw [h2]; unfold wrap64; omega⟩
  have HBn := Lib.hid hB
  have Hn := Lib.hid hn
  clear hB hn
  go_enter Try.func7, Try.ntmps7
  go_upto_region 2 with fail
  rw [HBn.out, Hn.out]
  by_cases hsz : 10 < l.length
  · go_wp2_with (first
      | (go_at_call 9; refine (awake_any _).mono ?_; rintro e w1 ⟨rfl, hb1⟩; have HB1 := Lib.hid hb1; clear hb1)
      | fail)
    go_ret
    exact ⟨rfl, HB1.out⟩
  · have hsz2 : l.length ≤ 10 := by omega
    clear hsz
    cases hlt : lightL l with
    | false =>
      have HLT := Lib.hid hlt
      clear hlt
      go_wp2_with (first
        | (go_at_call 8; refine (light_any A c l _ HL.out hl).mono ?_; rintro e w1 ⟨rfl, hb1⟩; rw [HLT.out]; have HB1 := Lib.hid hb1; clear hb1)
        | (go_at_call 9; refine (awake_any _).mono ?_; rintro e w2 ⟨rfl, hb2⟩; have HB2 := Lib.hid (HB1.out.trans (hb2.mono HB1.out.size)); clear hb2)
        | fail)
      go_ret
      exact ⟨rfl, HB2.out⟩
    | true =>
      have HLT := Lib.hid hlt
      clear hlt
      obtain ⟨xs, hxs⟩ : ∃ xs, l.map Shs.sh = xs := ⟨_, rfl⟩
      have HXS := Lib.hid hxs
      have hxl : xs.length = l.length := by rw [← hxs]; simp
      clear hxs
      go_wp2_with (first
        | (go_at_call 8; refine (light_any A c l _ HL.out hl).mono ?_; rintro e w1 ⟨rfl, hb1⟩; rw [HLT.out]; have HB1 := Lib.hid hb1; clear hb1)
        | fail)
      go_wp2_with (first
        | (go_at_call 11; refine (held_new B 10 none 0 [] (fun h => absurd h (by simp)) (by simp) (by omega) (by omega) (by decide) (by decide)).mono ?_; rintro e w2 ⟨ch, rfl, hH, hB⟩; have HB2 : Hid (Below w.heap.size w w2) := Lib.hid (HB1.out.trans (hB.mono HB1.out.size)); have HH : Hid (ChipIs w2 ch (fun b => b < w.heap.size) B 10 (oneF 0 []) 0) := Lib.hid ⟨_, hH.less fun b hb => Nat.lt_of_lt_of_le hb HB1.out.size, by rw [oneF_nil]; exact laid_new B 10⟩; clear hH hB)
        | fail)
      have hs2 := HB2.out.size
      go_loopw [8, 9] (fun v8 v9 wr => ∃ j : Nat, j ≤ l.length ∧ v9 = .int .i64 j ∧ v8 = .int .i64 (mxS (xs.take j)) ∧ ChipIs wr ch (fun b => b < w.heap.size) B 10 (oneF 0 (xs.take j)) (10 * j) ∧ Below w.heap.size w wr) (fun _ v9 _ => l.length - (intOf v9).toNat)
      case atStart => exact ⟨0, Nat.zero_le _, rfl, rfl, by simpa using HH.out, HB2.out⟩
      case round =>
        obtain ⟨j, hj, rfl, rfl, hch, hb⟩ := hrel
        have HB := Lib.hid hb
        obtain ⟨S, hS, hLa⟩ := hch
        have HS := Lib.hid hS
        have HLa := Lib.hid hLa
        have hs := hb.size
        have hblen : 1 ≤ S.bl.length := by rw [hLa.len]; exact hB1
        have HG := Lib.hid (scanned_good hS hLa (by omega) (by decide))
        have HDK := Lib.hid (scanned_dark hLa (by decide) (by omega) (by omega))
        have HSE := Lib.hid (new_seen hLa (by omega) (by omega) (HG.out _ (Nat.le_refl _)))
        have HST := Lib.hid (fun e m => scanned_step S e m (by rw [hLa.np]; decide))
        rw [hLa.len, hLa.np] at HST
        have HTH : Hid (∀ e, (scanned S e).thr = decide (e = B * 10)) := Lib.hid (fun e => by obtain ⟨a1, a2, a3, a4, a5⟩ := scanned_S S e; unfold MS.thr; rw [a3, a4, a5, hLa.len, hLa.np])
        obtain ⟨r1, hr1⟩ : ∃ r1, S.rd = r1 := ⟨_, rfl⟩
        have HR1 : Hid ((startM S).S.rd = r1) := Lib.hid hr1
        obtain ⟨K, hK⟩ : ∃ K, (2047 + n) / n = K := ⟨_, rfl⟩
        have HK := Lib.hid hK
        have HMX : Hid (0 ≤ mxS (xs.take j) ∧ mxS (xs.take j) ≤ 1099511627776) := Lib.hid (mxS_le _ fun x hx => hLa.may 0 x (by rwa [show oneF 0 (xs.take j) 0 = xs.take j from if_pos rfl]))
        have HR2 := Lib.hid hr1
        obtain ⟨mx, hmx1⟩ : ∃ mx, mxS (xs.take j) = mx := ⟨_, rfl⟩
        have HMXE := Lib.hid hmx1
        rw [hmx1] at HMX ⊢
        clear hb hS hLa hK hr1 hmx1
        go_wp2_with (first
          | (go_at_call 14; refine (m_new HS.out hblen).mono ?_; rintro e w7 ⟨s, rfl, hsc, hb7⟩; have HSC : Hid (Scan w7 s ch (fun b => b < w.heap.size) (startM S)) := Lib.hid (hsc.less fun b hb => .inl hb); have HB7 := Lib.hid (HB.out.trans (hb7.mono hs)); clear hsc hb7)
          | (go_at_call 22; refine (held_bill HSC.out.chip.choose_spec.1).mono ?_; rintro e w8 ⟨rfl, hb8⟩; have HB8 : Hid (Below w.heap.size w w8) := Lib.hid (HB7.out.trans (hb8.mono HB7.out.size)); have HSC8 := Lib.hid (HSC.out.below hb8); rw [HR1.out]; have kf := bill_reads r1 (startM S).S.pr (startM S).S.er; clear hb8)
          | (go_at_call 23; refine (steps_big n ⟨hn1, hn2⟩ _).mono ?_; rintro e w9 ⟨rfl, hb9⟩; rw [HK.out]; have HB9 : Hid (Below w.heap.size w w9) := Lib.hid (HB8.out.trans (hb9.mono HB8.out.size)); have HSC9 := Lib.hid (HSC8.out.below hb9); clear hb9 kf)
          | fail)
        obtain ⟨w0, rfl⟩ : ∃ w0, w0 = wr := ⟨_, rfl⟩
        go_loopw [47] (fun v47 wr => ∃ i : Nat, v47 = .int .i64 i ∧ i * n < B * 10 ∧ Scan wr s ch (fun b => b < w.heap.size) (scanned S (i * n)) ∧ Below w.heap.size w wr) (fun v47 _ => 61 - (intOf v47).toNat)
        case atStart => exact ⟨0, rfl, by omega, by rw [Nat.zero_mul]; exact HSC9.out, HB9.out⟩
        case round =>
          obtain ⟨i, rfl, hin, hsc, hb⟩ := hrel
          have HBI := Lib.hid hb
          have HSI := Lib.hid hsc
          have hsi := hb.size
          have hi60 : i < 60 := by
            have : i * 1 ≤ i * n := Nat.mul_le_mul_left i hn1
            omega
          have hiK : i < K := by
            rcases Nat.lt_or_ge i K with h | h
            · exact h
            · have h1 := Nat.div_add_mod (2047 + n) n
              have h2 := Nat.mod_lt (2047 + n) (show n > 0 by omega)
              rw [HK.out] at h1
              have h3 : n * K ≤ n * i := Nat.mul_le_mul_left n h
              rw [Nat.mul_comm n i] at h3
              omega
          obtain ⟨e1, he1⟩ : ∃ e1, i * n + min (n : Int).toNat (B * 10 - i * n) = e1 := ⟨_, rfl⟩
          have HE1 := Lib.hid he1
          have hsuc : (i + 1) * n = i * n + n := by rw [Nat.add_mul, Nat.one_mul]
          have HSU := Lib.hid hsuc
          obtain ⟨m, hm⟩ : ∃ m, i * n = m := ⟨_, rfl⟩
          have HM := Lib.hid hm
          rw [hm] at hin HSI HE1 HSU he1
          clear hb hsc hsuc hm
          by_cases hd : B * 10 ≤ m + n
          · have he : e1 = B * 10 := by omega
            subst he
            clear he1
            go_wp2_with (first
              | (go_at_call 15; refine (m_step n HSI.out (HG.out _ (by omega)) ⟨by omega, by omega⟩ (HDK.out _ (by omega))).mono ?_; rw [HST.out, HE1.out]; rintro e w10 ⟨rfl, hsc, hsf⟩; rw [HTH.out, decide_eq_true rfl]; have HSJ := Lib.hid hsc; have HBJ : Hid (Below w.heap.size w w10) := Lib.hid (safe_below HBI.out hsf fun b hb => hb); clear hsc hsf)
              | fail)
            obtain ⟨M, hM⟩ : ∃ M, scanned S (B * 10) = M := ⟨_, rfl⟩
            have hse := HSE.out
            have hsj := HSJ.out
            rw [hM] at hse hsj
            have HSM := Lib.hid hse
            have HSJM := Lib.hid hsj
            obtain ⟨r2, hr2⟩ : ∃ r2, M.S.rd = r2 := ⟨_, rfl⟩
            have HRM := Lib.hid hr2
            have f0 := hse.rd0
            have f1 := hse.rd
            have f2 := hse.none
            rw [HR2.out] at f0 f1 f2
            rw [hr2] at f1 f2
            obtain ⟨f01, f02⟩ := f0
            obtain ⟨f11, f12⟩ := f1
            have hlen : M.tell.length = j := by rw [hse.tell, fdL_length, List.length_take]; omega
            have hsq : seqL M.tell = mx := by rw [hse.tell, seqL_fdL, HMXE.out]
            have HLEN := Lib.hid hlen
            have HSQ := Lib.hid hsq
            obtain ⟨Y10, v10, A10, cap10, h10, g10⟩ := hsj
            have H10 := Lib.hid h10
            clear hM hse h10 g10 hr2 hlen hsq
            have f2h := Lib.hid f2
            clear f2
            by_cases hj0 : j = 0
            · have hr : r2 = r1 := f2h.out hj0
              rw [hr] at HRM
              have ej : ((j : Int) == 0) = true := by simp [hj0]
              clear hr f11 f12 f2h hj0
              go_wp2_with (first
                | (go_at_call 19; (with_reducible refine (m_found H10.out HSM.out.good.ok HSM.out.fd).mono ?_); rintro e w11 ⟨A11, c11, rfl, -, -, -, hb11⟩; rw [HLEN.out]; have HB11 := Lib.hid hb11; have H11 := Lib.hid (H10.out.grow (F := fun _ => False) (.of_below hb11) fun _ k => k.elim); clear hb11)
                | (go_at_call 18; (with_reducible refine (m_seq H11.out HSM.out.good.ok HSM.out.fd).mono ?_); rintro e w12 ⟨rfl, hb12⟩; rw [HSQ.out]; have HB12 := Lib.hid (HB11.out.trans (hb12.mono HB11.out.size)); have HS12 := Lib.hid (HSJM.out.below HB12.out); clear hb12)
                | fail)
              go_wp2_with (first
                | (go_at_call 22; (with_reducible refine (held_bill HS12.out.chip.choose_spec.1).mono ?_); rintro e w13 ⟨rfl, hb13⟩; rw [HRM.out]; have HB13 := Lib.hid (HB12.out.trans (hb13.mono HB12.out.size)); have HS13 := Lib.hid (HSJM.out.below HB13.out); have kf13 := bill_reads r1 M.S.pr M.S.er; clear hb13)
                | fail)
              go_upto_region 17 with (first
                | (go_at_call 22; (with_reducible refine (held_bill HS13.out.chip.choose_spec.1).mono ?_); rintro e w14 ⟨rfl, hb14⟩; rw [HRM.out]; have HB14 := Lib.hid (HB13.out.trans (hb14.mono HB13.out.size)); have HS14 := Lib.hid (HSJM.out.below HB14.out); clear hb14)
                | fail)
              clear ej kf13
              have HBW : Hid (Below w.heap.size w w14) := Lib.hid (HBJ.out.trans (HB14.out.mono HBJ.out.size))
              have hsw := HBW.out.size
              by_cases hjl : j = l.length
              · have ejl : ((j : Int) == (l.length : Int)) = true := by simp [hjl]
                clear hjl
                go_wp2_with (first
                  | (go_at_call 9; refine (awake_any _).mono ?_; rintro e w15 ⟨rfl, hb15⟩; have HB15 := Lib.hid hb15; clear hb15)
                  | fail)
                go_ret
                exact ⟨rfl, HBW.out.trans (HB15.out.mono hsw)⟩
              · have ejl : ((j : Int) == (l.length : Int)) = false := by simp; omega
                have hjl2 : j < l.length := by omega
                clear hjl
                obtain ⟨⟨b, o, rfl, hbw, q0, q1, q2⟩, hrb0, hlc, hlm, -⟩ := HL.out j hjl2
                have k0 := (HBW.out.cell (p := ⟨b, o + j * 3, none⟩) hbw).trans q0
                have k1 := (HBW.out.cell (p := ⟨b, o + j * 3 + 1, none⟩) hbw).trans q1
                have k2 := (HBW.out.cell (p := ⟨b, o + j * 3 + 2, none⟩) hbw).trans q2
                have hrb := (hrb0.below HBW.out (Nat.le_refl _)).mono hsw
                have hbl : b < w14.heap.size := by omega
                clear q0 q1 q2 hrb0
                obtain ⟨d, hd⟩ : ∃ d, l[j] = d := ⟨_, rfl⟩
                rw [hd] at k0 k1 k2 hrb hlc hlm
                have HT : Hid (xs.take (j + 1) = xs.take j ++ [d.sh]) := Lib.hid (by
                  rw [← HXS.out, List.take_add_one, List.getElem?_map, List.getElem?_eq_getElem hjl2, hd]; rfl)
                have HR1' := Lib.hid hrb
                clear hd hrb
                go_wp2_with fail
                refine (refsheet_any w14.heap.size d.p d.s d.A d.c d.l _ HR1'.out (Nat.le_refl _)).mono ?_
                rintro e w15 ⟨A15, c15, L15, er, rfl, hL15, her, hl15, hr15, hf15, hb15⟩
                have HB15 := Lib.hid hb15
                have HCB : Hid (CB w15 (fun b => b < w.heap.size ∨ New w14 w15 b) A15 L15) := Lib.hid (cb_new hr15 hf15)
                have HL15 := Lib.hid hL15.out
                have hs15 := hb15.size
                have m1 := (hb15.cell (p := ⟨b, o + j * 3 + 1, none⟩) hbl).trans k1
                clear hb15 hr15 hf15 hL15 k0 k1 k2
                by_cases hM : MayS d.p d.s d.l
                · have HM := Lib.hid hM
                  rw [if_pos hM] at her
                  subst her
                  have HLS : Hid (L15 = shL d.sh) := Lib.hid (by rw [HL15.out, if_pos HM.out]; rfl)
                  have hF : (oneF 0 (xs.take j) 0).length = j := by
                    unfold oneF; rw [if_pos rfl, List.length_take]; omega
                  obtain ⟨S', hp1, hp2, -⟩ := HSM.out.laid.prog (b := 0) (x := d.sh) (by omega) (by rw [hF]; omega) HM.out
                  rw [hF, ← HLS.out] at hp1
                  rw [oneF_upd, ← HT.out] at hp2
                  have HP1 := Lib.hid hp1
                  have HP2 := Lib.hid hp2
                  have HH15 : Hid (Held w15 ch (fun b => b < w.heap.size ∨ New w14 w15 b) M.S) := Lib.hid (by
                    obtain ⟨Yc, hc1, hc2, -⟩ := HS14.out.chip
                    exact (hc1.less hc2).more HB15.out)
                  have HQ := Lib.hid (mxS_snoc (xs.take j) d.sh)
                  have hq := HM.out.2.1
                  have hd2 : d.sh.2.1 = d.s := rfl
                  rw [← HT.out, hd2, HMXE.out] at HQ
                  have hmx2 := HMX.out
                  clear hM hp1 hp2 hF hd2
                  rcases Int.le_total mx d.s with hmm | hmm
                  all_goals
                    go_wp2_with (first
                      | (go_at_call 13; refine (held_prog A15 c15 L15 0 j HH15.out HCB.out).mono ?_; rw [show ((0 : Nat) : Int) = 0 from rfl] at HP1; rw [HP1.out]; rintro e w16 ⟨rfl, hh16, hsf16⟩; have HH16 := Lib.hid hh16; have HB16 : Hid (Below w.heap.size w w16) := Lib.hid (safe_below (HBW.out.trans (HB15.out.mono hsw)) hsf16 fun b hb => .inl hb); have m1 := (World.cell?_of_block (a := ⟨b, o + j * 3 + 1, none⟩) (hsf16.block (by show b < w15.heap.size; omega) (.inl hbw))).trans m1; clear hh16 hsf16)
                      | fail)
                    go_roundw
                    case rel => exact ⟨j + 1, by omega, by go_num, by first | (rw [HQ.out, Int.max_eq_right hmm]; done) | (rw [HQ.out, Int.max_eq_left hmm]; done), ⟨_, HH16.out.less fun b hb => .inl hb, HP2.out⟩, HB16.out⟩
                    case measure => simp [intOf]; omega
                · rw [if_neg hM] at her
                  subst her
                  clear hM
                  go_wp2_with (first
                    | (go_at_call 9; refine (awake_any _).mono ?_; rintro e w16 ⟨rfl, hb16⟩; have HB16 := Lib.hid hb16; clear hb16)
                    | fail)
                  go_ret
                  exact ⟨rfl, (HBW.out.trans (HB15.out.mono hsw)).trans (HB16.out.mono (by omega))⟩
            · have ej : ((j : Int) == 0) = false := by simp; omega
              clear f2h hj0
              go_wp2_with (first
                | (go_at_call 19; (with_reducible refine (m_found H10.out HSM.out.good.ok HSM.out.fd).mono ?_); rintro e w11 ⟨A11, c11, rfl, -, -, -, hb11⟩; rw [HLEN.out]; have HB11 := Lib.hid hb11; have H11 := Lib.hid (H10.out.grow (F := fun _ => False) (.of_below hb11) fun _ k => k.elim); clear hb11)
                | (go_at_call 18; (with_reducible refine (m_seq H11.out HSM.out.good.ok HSM.out.fd).mono ?_); rintro e w12 ⟨rfl, hb12⟩; rw [HSQ.out]; have HB12 := Lib.hid (HB11.out.trans (hb12.mono HB11.out.size)); have HS12 := Lib.hid (HSJM.out.below HB12.out); clear hb12)
                | fail)
              go_upto_region 17 with (first
                | (go_at_call 22; (with_reducible refine (held_bill HS12.out.chip.choose_spec.1).mono ?_); rintro e w14 ⟨rfl, hb14⟩; rw [HRM.out]; have HB14 := Lib.hid (HB12.out.trans (hb14.mono HB12.out.size)); have HS14 := Lib.hid (HSJM.out.below HB14.out); have kf14 := bill_reads r2 M.S.pr M.S.er; clear hb14)
                | fail)
              clear ej kf14
              have HBW : Hid (Below w.heap.size w w14) := Lib.hid (HBJ.out.trans (HB14.out.mono HBJ.out.size))
              have hsw := HBW.out.size
              by_cases hjl : j = l.length
              · have ejl : ((j : Int) == (l.length : Int)) = true := by simp [hjl]
                clear hjl
                go_wp2_with (first
                  | (go_at_call 9; refine (awake_any _).mono ?_; rintro e w15 ⟨rfl, hb15⟩; have HB15 := Lib.hid hb15; clear hb15)
                  | fail)
                go_ret
                exact ⟨rfl, HBW.out.trans (HB15.out.mono hsw)⟩
              · have ejl : ((j : Int) == (l.length : Int)) = false := by simp; omega
                have hjl2 : j < l.length := by omega
                clear hjl
                obtain ⟨⟨b, o, rfl, hbw, q0, q1, q2⟩, hrb0, hlc, hlm, -⟩ := HL.out j hjl2
                have k0 := (HBW.out.cell (p := ⟨b, o + j * 3, none⟩) hbw).trans q0
                have k1 := (HBW.out.cell (p := ⟨b, o + j * 3 + 1, none⟩) hbw).trans q1
                have k2 := (HBW.out.cell (p := ⟨b, o + j * 3 + 2, none⟩) hbw).trans q2
                have hrb := (hrb0.below HBW.out (Nat.le_refl _)).mono hsw
                have hbl : b < w14.heap.size := by omega
                clear q0 q1 q2 hrb0
                obtain ⟨d, hd⟩ : ∃ d, l[j] = d := ⟨_, rfl⟩
                rw [hd] at k0 k1 k2 hrb hlc hlm
                have HT : Hid (xs.take (j + 1) = xs.take j ++ [d.sh]) := Lib.hid (by
                  rw [← HXS.out, List.take_add_one, List.getElem?_map, List.getElem?_eq_getElem hjl2, hd]; rfl)
                have HR1' := Lib.hid hrb
                clear hd hrb
                go_wp2_with fail
                refine (refsheet_any w14.heap.size d.p d.s d.A d.c d.l _ HR1'.out (Nat.le_refl _)).mono ?_
                rintro e w15 ⟨A15, c15, L15, er, rfl, hL15, her, hl15, hr15, hf15, hb15⟩
                have HB15 := Lib.hid hb15
                have HCB : Hid (CB w15 (fun b => b < w.heap.size ∨ New w14 w15 b) A15 L15) := Lib.hid (cb_new hr15 hf15)
                have HL15 := Lib.hid hL15.out
                have hs15 := hb15.size
                have m1 := (hb15.cell (p := ⟨b, o + j * 3 + 1, none⟩) hbl).trans k1
                clear hb15 hr15 hf15 hL15 k0 k1 k2
                by_cases hM : MayS d.p d.s d.l
                · have HM := Lib.hid hM
                  rw [if_pos hM] at her
                  subst her
                  have HLS : Hid (L15 = shL d.sh) := Lib.hid (by rw [HL15.out, if_pos HM.out]; rfl)
                  have hF : (oneF 0 (xs.take j) 0).length = j := by
                    unfold oneF; rw [if_pos rfl, List.length_take]; omega
                  obtain ⟨S', hp1, hp2, -⟩ := HSM.out.laid.prog (b := 0) (x := d.sh) (by omega) (by rw [hF]; omega) HM.out
                  rw [hF, ← HLS.out] at hp1
                  rw [oneF_upd, ← HT.out] at hp2
                  have HP1 := Lib.hid hp1
                  have HP2 := Lib.hid hp2
                  have HH15 : Hid (Held w15 ch (fun b => b < w.heap.size ∨ New w14 w15 b) M.S) := Lib.hid (by
                    obtain ⟨Yc, hc1, hc2, -⟩ := HS14.out.chip
                    exact (hc1.less hc2).more HB15.out)
                  have HQ := Lib.hid (mxS_snoc (xs.take j) d.sh)
                  have hq := HM.out.2.1
                  have hd2 : d.sh.2.1 = d.s := rfl
                  rw [← HT.out, hd2, HMXE.out] at HQ
                  have hmx2 := HMX.out
                  clear hM hp1 hp2 hF hd2
                  rcases Int.le_total mx d.s with hmm | hmm
                  all_goals
                    go_wp2_with (first
                      | (go_at_call 13; refine (held_prog A15 c15 L15 0 j HH15.out HCB.out).mono ?_; rw [show ((0 : Nat) : Int) = 0 from rfl] at HP1; rw [HP1.out]; rintro e w16 ⟨rfl, hh16, hsf16⟩; have HH16 := Lib.hid hh16; have HB16 : Hid (Below w.heap.size w w16) := Lib.hid (safe_below (HBW.out.trans (HB15.out.mono hsw)) hsf16 fun b hb => .inl hb); have m1 := (World.cell?_of_block (a := ⟨b, o + j * 3 + 1, none⟩) (hsf16.block (by show b < w15.heap.size; omega) (.inl hbw))).trans m1; clear hh16 hsf16)
                      | fail)
                    go_roundw
                    case rel => exact ⟨j + 1, by omega, by go_num, by first | (rw [HQ.out, Int.max_eq_right hmm]; done) | (rw [HQ.out, Int.max_eq_left hmm]; done), ⟨_, HH16.out.less fun b hb => .inl hb, HP2.out⟩, HB16.out⟩
                    case measure => simp [intOf]; omega
                · rw [if_neg hM] at her
                  subst her
                  clear hM
                  go_wp2_with (first
                    | (go_at_call 9; refine (awake_any _).mono ?_; rintro e w16 ⟨rfl, hb16⟩; have HB16 := Lib.hid hb16; clear hb16)
                    | fail)
                  go_ret
                  exact ⟨rfl, (HBW.out.trans (HB15.out.mono hsw)).trans (HB16.out.mono (by omega))⟩
          · have he : e1 = m + n := by omega
            subst he
            clear he1
            go_wp2_with (first
              | (go_at_call 15; refine (m_step n HSI.out (HG.out _ (by omega)) ⟨by omega, by omega⟩ (HDK.out _ (by omega))).mono ?_; rw [HST.out, HE1.out]; rintro e w10 ⟨rfl, hsc, hsf⟩; rw [HTH.out, decide_eq_false (by omega)]; have HSJ := Lib.hid hsc; have HBJ : Hid (Below w.heap.size w w10) := Lib.hid (safe_below HBI.out hsf fun b hb => hb); clear hsc hsf)
              | fail)
            go_roundw
            case rel => exact ⟨i + 1, by go_num, by rw [HSU.out]; omega, by rw [HSU.out]; exact HSJ.out, HBJ.out⟩
            case measure => simp [intOf]; omega
end Go.Proofs.Ytnadcdgpfopcaaa
