/- MountPicks: its walk. -/
import Derived.Test.YtnadcdgpfopcaaaMoY
import Derived.Test.YtnadcdgpfopcaaaMoS
import Derived.Test.YtnadcdgpfopcaaaMoZ2
namespace Go.Proofs.Ytnadcdgpfopcaaa
open Go.RowKit Go.Maps Go.Shelf

attribute [local go_sem] Oper.semAt_some
/-- A chip with sheets, in memory: the blocks of x are safe from it. -/
def ChipIs (w : World) (p : Nat) (x : Nat → Prop) (B P : Nat) (F : Nat → List Sh) (rd : Nat) : Prop := ∃ S, Held w p x S ∧ Laid S B P F rd
section
theorem safe_below {w V V' : World} {x : Nat → Prop} (h : Below w.heap.size w V) (hs : Safe x V V') (hx : ∀ b, b < w.heap.size → x b) : Below w.heap.size w V' :=
  ⟨hs.os.trans h.os, hs.tape.trans h.tape, hs.output.trans h.output, Nat.le_trans h.size hs.size, fun b hb => (hs.block (Nat.lt_of_lt_of_le hb h.size) (hx b hb)).trans (h.block b hb)⟩
/-- A sheet's bytes in new memory are safe from the chip. -/
theorem cb_new {w w' : World} {N0 : Nat} {A : Option Addr} {L : List UInt8} (hr : RB w' w'.heap.size A L) (hf : ∀ ad, A = some ad → w.heap.size ≤ ad.block) : CB w' (fun b => b < N0 ∨ New w w' b) A L := fun h0 => by
  obtain ⟨ad, e, k1, k2⟩ := hr h0
  exact ⟨ad, e, .inr ⟨hf ad e, k1⟩, k2⟩
/-- What the law needs of a scan that is through. -/
structure Seen (M : MS) (B : Nat) (fd : List Fd) : Prop where
  good : MGood M
  thr : M.thr = true
  fd : M.fd = fd
  B : M.B = B
  rd : M.rd.length ≤ 2000
theorem seen_all {S : LS} {B P rd : Nat} {F : Nat → List Sh} {w : World} {p : Nat} {x : Nat → Prop} (hh : Held w p x S) (h : Laid S B P F rd) (hB : 1 ≤ B ∧ B ≤ 64) (hP : 1 ≤ P ∧ P ≤ 32) (hr : rd ≤ 1000000) (n : Int) (hn : (B * P : Nat) ≤ n) : Seen ((startM S).stepped n) B ((List.range B).flatMap fun (b : Nat) => fdL (b : Int) 0 (F b)) ∧ MGood (startM S) ∧ (startM S).S.dark = false := by
  have good : MGood (startM S) := ⟨start_ok hh (by rw [h.len]; exact hB.1), by simp [startM]⟩
  have e : (startM S).stepped n = scanned S (B * P) := by
    have h1 := scanned_step S 0 n (by rw [h.np]; omega)
    rw [scanned_zero] at h1
    rw [h1, h.len, h.np]
    congr 1; omega
  obtain ⟨h1, h2, h3, h4⟩ := h.whole hB hP hr
  rw [e]
  refine ⟨⟨by rw [← e]; exact good.stepped n, h1, h2, h3, h4⟩, good, h.dark⟩
theorem u64_idx (k : Int) (n : Nat) (hn : 0 < n) (h : n ≤ 9223372036854775807) : ∃ N : Nat, N < n ∧ wrap64 ((IntKind.u64.wrap k).tmod (n : Int)) = (N : Int) := by
  obtain ⟨N, h1, h2⟩ := u64_tmod k n hn h
  refine ⟨N, h2, ?_⟩
  rw [h1]
  unfold wrap64; omega
theorem eql_ref (a b : P2) (w : World) : Sem.run Try.prog (binOp BinOp.eql 31 (P2V a) (P2V b)) w = .ok (.bool (decide (a = b))) w := by
  have e : (a = b) ↔ (a.1 = b.1 ∧ a.2 = b.2) := Prod.ext_iff
  by_cases h1 : a.1 = b.1 <;> by_cases h2 : a.2 = b.2 <;> simp [go_sem, e, h1, h2]
theorem rlies_at1 {V : World} {q : Nat} (r : P2) {t : TypeId} (h : V.heap[q]? = some (.cells #[.int .i64 r.1, .int .i64 r.2] t (0, 0))) : RLies V (some ⟨q, 0, none⟩) [r] := fun _ => ⟨_, 0, rfl, lt_size h, fun j hj => by
  obtain rfl : j = 0 := by simpa using hj
  simp [World.cell?, h]⟩
theorem rlies_at2 {V : World} {q : Nat} (r z : P2) {t : TypeId} (h : V.heap[q]? = some (.cells #[.int .i64 r.1, .int .i64 r.2, .int .i64 z.1, .int .i64 z.2] t (0, 0))) : RLies V (some ⟨q, 0, none⟩) [r, z] := fun _ => ⟨_, 0, rfl, lt_size h, fun j hj => by
  obtain rfl | rfl : j = 0 ∨ j = 1 := by simp at hj; omega
  all_goals simp [World.cell?, h]⟩
theorem rlies_one (w : World) (r : P2) (t : TypeId) : RLies (w.alloc (.cells #[.int .i64 r.1, .int .i64 r.2] t)) (some ⟨w.heap.size, 0, none⟩) [r] := rlies_at1 r (heap_alloc_new w _)
theorem rlies_two (w : World) (r q : P2) (t : TypeId) : RLies (w.alloc (.cells #[.int .i64 r.1, .int .i64 r.2, .int .i64 q.1, .int .i64 q.2] t)) (some ⟨w.heap.size, 0, none⟩) [r, q] := rlies_at2 r q (heap_alloc_new w _)
set_option maxRecDepth 100000 in
set_option maxHeartbeats 4000000 in
theorem picks_law (A : Option Addr) (c : Nat) (l : List Shs) (k : Int) (w : World) (h : ShLies w A l) (hl : l.length ≤ maxLen) :
    Calls Try.prog 6 #[.slice A l.length c, .int .i64 k] w fun e w' => e = .returned (.bool true) ∧ Below w.heap.size w w' := by
  have HL := Lib.hid h
  have hmx : maxLen = 9223372036854775807 := rfl
  clear h
  go_enter Try.func6, Try.ntmps6
  by_cases hsz : l.length < 1 ∨ 20 < l.length
  · rcases hsz with hsz | hsz
    all_goals
      go_wp2_with (first
        | (go_at_call 9; refine (awake_any _).mono ?_; rintro e w1 ⟨rfl, hb1⟩; have HB1 := Lib.hid hb1; clear hb1)
        | fail)
      go_ret
      exact ⟨rfl, HB1.out⟩
  · have hsz1 : 1 ≤ l.length := by omega
    have hsz2 : l.length ≤ 20 := by omega
    clear hsz
    cases hlt : lightL l with
    | false =>
      have HLT := Lib.hid hlt
      clear hlt
      go_wp2_with (first
        | (go_at_call 8; refine (light_any A c l _ HL.out hl).mono ?_; rintro e w1 ⟨rfl, hb1⟩; rw [HLT.out]; have HB1 := Lib.hid hb1; clear hb1)
        | (go_at_call 9; refine (awake_any _).mono ?_; rintro e w2 ⟨rfl, hb2⟩; have HB2 := Lib.hid (HB1.out.trans (hb2.mono HB1.out.size)); clear hb2)
        | fail)
      go_ret
      exact ⟨rfl, HB2.out⟩
    | true =>
      have HLT := Lib.hid hlt
      clear hlt
      go_wp2_with (first
        | (go_at_call 8; refine (light_any A c l _ HL.out hl).mono ?_; rintro e w1 ⟨rfl, hb1⟩; rw [HLT.out]; have HB1 := Lib.hid hb1; clear hb1)
        | (go_at_call 11; refine (held_new 3 20 none 0 [] (fun h => absurd h (by simp)) (by simp) (by decide) (by decide) (by decide) (by decide)).mono ?_; rintro e w2 ⟨ch, rfl, hH, hB⟩; have HB2 : Hid (Below w.heap.size w w2) := Lib.hid (HB1.out.trans (hB.mono HB1.out.size)); have HH : Hid (ChipIs w2 ch (fun b => b < w.heap.size) 3 20 (oneF 1 []) 0) := Lib.hid ⟨_, hH.less fun b hb => Nat.lt_of_lt_of_le hb HB1.out.size, by rw [oneF_nil]; exact laid_new 3 20⟩; clear hH hB)
        | fail)
      have hs2 := HB2.out.size
      go_loopw [38] (fun v38 wr => ∃ j : Nat, j ≤ l.length ∧ v38 = .int .i64 j ∧ ChipIs wr ch (fun b => b < w.heap.size) 3 20 (oneF 1 ((l.map Shs.sh).take j)) 0 ∧ Below w.heap.size w wr) (fun v38 _ => l.length - (intOf v38).toNat)
      case atStart => exact ⟨0, Nat.zero_le _, rfl, by simpa using HH.out, HB2.out⟩
      case round =>
        obtain ⟨j, hj, rfl, hch, hb⟩ := hrel
        have HB := Lib.hid hb
        have HC := Lib.hid hch
        have hs := hb.size
        clear hb hch
        by_cases hlt : j < l.length
        · obtain ⟨⟨b, o, rfl, hbl, k0, k1, k2⟩, hrb, hlc, hlm, -⟩ := (HL.out.below HB.out) j hlt
          obtain ⟨d, hd⟩ : ∃ d, l[j] = d := ⟨_, rfl⟩
          rw [hd] at k0 k1 k2 hrb hlc hlm
          have HD := Lib.hid hd
          clear hd
          have HT : Hid ((l.map Shs.sh).take (j + 1) = (l.map Shs.sh).take j ++ [d.sh]) := Lib.hid (by
            rw [List.take_add_one, List.getElem?_map, List.getElem?_eq_getElem hlt, HD.out]; rfl)
          obtain ⟨W1, hW1⟩ : ∃ W1, W1 = wr.alloc (.cells #[.int .i64 d.p, .int .i64 d.s, .slice d.A d.l.length d.c] 28) := ⟨_, rfl⟩
          have hb1 : Below wr.heap.size wr W1 := by rw [hW1]; exact (Below.refl _ _).alloc (Nat.le_refl _) _
          have hr1 : RB W1 W1.heap.size d.A d.l := (hrb.below hb1 (Nat.le_refl _)).mono hb1.size
          have HB1' := Lib.hid hb1
          have HR1 := Lib.hid hr1
          have hz1 := hb1.size
          clear hb1 hr1 hrb
          go_wp2_with fail
          rw [← hW1]
          clear hW1
          refine (refsheet_any W1.heap.size d.p d.s d.A d.c d.l _ HR1.out (Nat.le_refl _)).mono ?_
          rintro e w4 ⟨A4, c4, L4, er, rfl, hL4, her, hl4, hr4, hf4, hb4⟩
          have hs4 := hb4.size
          have HB4 : Hid (Below wr.heap.size wr w4) := Lib.hid (HB1'.out.trans (hb4.mono hz1))
          have HCB : Hid (CB w4 (fun b => b < w.heap.size ∨ New wr w4 b) A4 L4) := Lib.hid (cb_new hr4 fun ad e => Nat.le_trans hz1 (hf4 ad e))
          have HL4 := Lib.hid hL4.out
          clear hb4 hr4 hf4 hL4 k0 k1 k2
          by_cases hM : MayS d.p d.s d.l
          · have HM := Lib.hid hM
            rw [if_pos hM] at her
            subst her
            have HLS : Hid (L4 = shL d.sh) := Lib.hid (by rw [HL4.out, if_pos HM.out]; rfl)
            obtain ⟨S, hS, hLa⟩ := HC.out
            have hF : (oneF 1 ((l.map Shs.sh).take j) 1).length = j := by
              unfold oneF; rw [if_pos rfl, List.length_take, List.length_map]; omega
            obtain ⟨S', hp1, hp2, -⟩ := hLa.prog (b := 1) (x := d.sh) (by omega) (by rw [hF]; omega) HM.out
            rw [hF, ← HLS.out] at hp1
            rw [oneF_upd, ← HT.out] at hp2
            have HP1 := Lib.hid hp1
            have HP2 := Lib.hid hp2
            have HH4 := Lib.hid (hS.more HB4.out)
            clear hM hS hLa hp1 hp2 hF
            go_wp2_with (go_at_call 13; refine (held_prog A4 c4 L4 1 j HH4.out HCB.out).mono ?_; rw [show ((1 : Nat) : Int) = 1 from rfl] at HP1; rw [HP1.out]; rintro e w5 ⟨rfl, hh5, hsf5⟩; have HH5 := Lib.hid hh5; have HS5 := Lib.hid hsf5; clear hh5 hsf5)
            go_roundw
            case rel => exact ⟨j + 1, by omega, by go_num, ⟨_, HH5.out.less fun b hb => .inl hb, HP2.out⟩, safe_below (HB.out.trans (HB4.out.mono hs)) HS5.out fun b hb => .inl hb⟩
            case measure => simp [intOf]; omega
          · rw [if_neg hM] at her
            subst her
            clear hM
            go_wp2_with (go_at_call 9; refine (awake_any _).mono ?_; rintro e w5 ⟨rfl, hb5⟩; have HB5 := Lib.hid (HB4.out.trans (hb5.mono HB4.out.size)); clear hb5)
            go_ret
            exact ⟨rfl, HB.out.trans (HB5.out.mono hs)⟩
        · obtain rfl : j = l.length := by omega
          rw [List.take_of_length_le (by simp)] at HC
          obtain ⟨xs, hxs⟩ : ∃ xs, l.map Shs.sh = xs := ⟨_, rfl⟩
          have HXS := Lib.hid hxs
          have hxl : xs.length = l.length := by rw [← hxs]; simp
          rw [hxs] at HC
          clear hxs
          obtain ⟨S, hS, hLa⟩ := HC.out
          have HS := Lib.hid hS
          have HLa := Lib.hid hLa
          obtain ⟨hseen, hg0, hdk⟩ := seen_all hS hLa (by omega) (by omega) (by omega) 100 (by decide)
          rw [oneF_fd 3 1 xs (by decide)] at hseen
          have hblen : 1 ≤ S.bl.length := by rw [hLa.len]; decide
          have hwf := hLa.fd_wf (by omega) (by omega)
          rw [oneF_fd 3 1 xs (by decide)] at hwf
          have hmay : ∀ x ∈ xs, ShOk x := by have := hLa.may 1; rwa [show oneF 1 xs 1 = xs from if_pos rfl] at this
          have HWF := Lib.hid hwf
          have HMAY := Lib.hid hmay
          have HG0 := Lib.hid hg0
          have HDK := Lib.hid hdk
          obtain ⟨M, hMe⟩ : ∃ M, (startM S).stepped 100 = M := ⟨_, rfl⟩
          rw [hMe] at hseen
          have HSE := Lib.hid hseen
          have HME := Lib.hid hMe
          clear hS hLa hseen hg0 hdk hwf hMe hmay
          go_wp2_with (first
            | (go_at_call 14; refine (m_new HS.out hblen).mono ?_; rintro e w7 ⟨s, rfl, hsc, hb7⟩; have HSC := Lib.hid hsc; have HB7 := Lib.hid (HB.out.trans (hb7.mono hs)); clear hsc hb7)
            | fail)
          go_wp2_with (first
            | (go_at_call 15; refine (m_step 100 HSC.out HG0.out (by decide) HDK.out).mono ?_; rw [HME.out]; rintro e w8 ⟨rfl, hsc, hsf⟩; rw [HSE.out.thr]; have HSC8 := Lib.hid hsc; have HB8 : Hid (Below w.heap.size w w8) := Lib.hid (safe_below HB7.out hsf fun b hb => .inl hb); clear hsc hsf)
            | fail)
          obtain ⟨Y8, v8, A8, cap8, h8, f8⟩ := HSC8.out
          have H8 := Lib.hid h8
          clear h8 f8
          obtain ⟨N, hN1, hN⟩ := u64_idx k l.length hsz1 (by omega)
          obtain ⟨⟨b, o, rfl, hbl, k0, k1, k2⟩, -⟩ := (HL.out.below HB8.out) N hN1
          obtain ⟨d, hd⟩ : ∃ d, l[N] = d := ⟨_, rfl⟩
          rw [hd] at k0 k1 k2
          have hNx : N < xs.length := by omega
          have hdx : (d.p, d.s) = (xs[N].1, xs[N].2.1) := by
            have : xs[N] = d.sh := by simp only [← HXS.out, List.getElem_map, hd]
            rw [this]; rfl
          obtain ⟨z, hz1, hz2⟩ := picks_one HSE.out.thr HSE.out.B HSE.out.fd hNx hdx
          have HP1 := Lib.hid hz1
          have HP2 := Lib.hid hz2
          have HD := Lib.hid hd
          clear hd hdx hz1 hz2
          have hs8 := HB8.out.size
          have hds := HMAY.out _ (List.getElem_mem hNx)
          rw [show xs[N] = d.sh by simp only [← HXS.out, List.getElem_map, HD.out]] at hds
          obtain ⟨⟨hp0, hp1⟩, ⟨hs0, hs1⟩, -⟩ := hds
          change 0 ≤ d.p at hp0
          change d.p ≤ 60 at hp1
          change 1 ≤ d.s at hs0
          change d.s ≤ 1099511627776 at hs1
          have hwr : WfP (d.p, d.s) := wfp_of ⟨by show -9223372036854775808 ≤ d.p; omega, by show d.p ≤ _; omega⟩ ⟨by show _ ≤ d.s; omega, by show d.s ≤ _; omega⟩
          have hwr2 : WfP (d.p, d.s + 1) := wfp_of ⟨by show -9223372036854775808 ≤ d.p; omega, by show d.p ≤ _; omega⟩ ⟨by show _ ≤ d.s + 1; omega, by show d.s + 1 ≤ _; omega⟩
          have HWR := Lib.hid hwr
          have HWR2 := Lib.hid hwr2
          have hfdl : M.fd.length ≤ 1000 := by rw [HSE.out.fd, fdL_length]; omega
          have hwfm : ∀ f ∈ M.fd, WfP f.1 ∧ WfP f.2 ∧ 0 ≤ f.2.1 ∧ f.2.1 < M.B := by rw [HSE.out.fd, HSE.out.B]; exact HWF.out
          have HFD := Lib.hid (And.intro hfdl hwfm)
          clear hwr hwr2 hfdl hwfm
          obtain ⟨W9, hW9⟩ : ∃ W9, W9 = ((w8.alloc (.cells #[.int .i64 d.p, .int .i64 d.s, .slice d.A d.l.length d.c] 28)).alloc (.cells #[.int .i64 d.p, .int .i64 d.s] 31)) := ⟨_, rfl⟩
          obtain ⟨W10, hW10⟩ : ∃ W10, W10 = W9.alloc (.cells #[.int .i64 d.p, .int .i64 d.s] 31) := ⟨_, rfl⟩
          have hz9 : W9.heap.size = w8.heap.size + 1 + 1 := by rw [hW9]; simp
          have HX9 : Hid (W9.heap[w8.heap.size + 1]? = some (.cells #[.int .i64 d.p, .int .i64 d.s] 31 (0, 0))) := Lib.hid (by rw [hW9]; have := heap_alloc_new (w8.alloc (.cells #[.int .i64 d.p, .int .i64 d.s, .slice d.A d.l.length d.c] 28)) (.cells #[.int .i64 d.p, .int .i64 d.s] 31); simpa using this)
          have HB9 : Hid (Below w8.heap.size w8 W9) := Lib.hid (by rw [hW9]; exact ((Below.refl _ _).alloc (Nat.le_refl _) _).alloc (by simp) _)
          have HB10 : Hid (Below w8.heap.size w8 W10) := Lib.hid (by rw [hW10]; exact HB9.out.alloc HB9.out.size _)
          have HB910 : Hid (Below W9.heap.size W9 W10) := Lib.hid (by rw [hW10]; exact (Below.refl _ _).alloc (Nat.le_refl _) _)
          have HRL : Hid (RLies W10 (some ⟨w8.heap.size + 1 + 1, 0, none⟩) [(d.p, d.s)]) := Lib.hid (by rw [hW10, ← hz9]; exact rlies_one W9 (d.p, d.s) _)
          have H10 := Lib.hid (H8.out.grow (F := fun _ => False) (.of_below HB10.out) fun _ k => k.elim)
          go_wp2_with fail
          rw [hN]
          go_simp
          go_wp2_with fail
          rw [← hW9, ← hW10]
          clear hN k0 k1 k2
          refine (m_pick H10.out HSE.out.good.ok HFD.out.2 HFD.out.1 (some ⟨w8.heap.size + 1 + 1, 0, none⟩) 1 [(d.p, d.s)] HRL.out (by simp) (by intro r hr; obtain rfl : r = (d.p, d.s) := (by simpa using hr); exact HWR.out)).mono ?_
          rintro e w11 ⟨A11, c11, rfl, fl11, -, -, hb11⟩
          rw [HP1.out] at fl11
          rw [HP1.out, HP2.out]
          obtain ⟨B11, o11, rfl, hB11, hc11⟩ := fl11 (by simp)
          have HC11 := Lib.hid (hc11 0 (by simp))
          have HB11 : Hid (Below W9.heap.size W9 w11) := Lib.hid (HB910.out.trans (hb11.mono HB910.out.size))
          have hx11 := (HB11.out.block (w8.heap.size + 1) (by omega)).trans HX9.out
          have HX11 := Lib.hid hx11
          obtain ⟨k0, k1, -, -⟩ := cells2q hx11
          have hl11 := lt_size hx11
          clear hW9 hW10 hc11 fl11 hb11 hx11
          obtain ⟨W12, hW12⟩ : ∃ W12, W12 = w11.alloc (.cells #[.int .i64 d.p, .int .i64 d.s, .int .i64 d.p, .int .i64 (d.s + 1)] 31) := ⟨_, rfl⟩
          have HB12 : Hid (Below w11.heap.size w11 W12) := Lib.hid (by rw [hW12]; exact (Below.refl _ _).alloc (Nat.le_refl _) _)
          have HRL2 : Hid (RLies W12 (some ⟨w11.heap.size, 0, none⟩) [(d.p, d.s), (d.p, d.s + 1)]) := Lib.hid (by rw [hW12]; exact rlies_two w11 (d.p, d.s) (d.p, d.s + 1) _)
          have HB811 : Hid (Below w8.heap.size w8 w11) := Lib.hid (HB9.out.trans (HB11.out.mono HB9.out.size))
          have HB812 : Hid (Below w8.heap.size w8 W12) := Lib.hid (HB811.out.trans (HB12.out.mono HB811.out.size))
          have H12 := Lib.hid (H8.out.grow (F := fun _ => False) (.of_below HB812.out) fun _ k => k.elim)
          go_wp2_with fail
          rw [← hW12]
          clear hW12
          refine (m_pick H12.out HSE.out.good.ok HFD.out.2 HFD.out.1 (some ⟨w11.heap.size, 0, none⟩) 2 [(d.p, d.s), (d.p, d.s + 1)] HRL2.out (by simp) (by intro r hr; rcases List.mem_cons.1 hr with rfl | hr; exact HWR.out; obtain rfl : r = (d.p, d.s + 1) := (by simpa using hr); exact HWR2.out)).mono ?_
          rintro e w13 ⟨A13, c13, rfl, -, -, -, hb13⟩
          rw [picks_twice HSE.out.thr]
          have HB13 : Hid (Below w11.heap.size w11 w13) := Lib.hid (HB12.out.trans (hb13.mono HB12.out.size))
          clear hb13
          obtain ⟨W14, hW14⟩ : ∃ W14, W14 = w13.alloc (.cells #[.int .i64 5, .int .i64 1099511627777] 31) := ⟨_, rfl⟩
          have HB14 : Hid (Below w11.heap.size w11 W14) := Lib.hid (by rw [hW14]; exact HB13.out.alloc HB13.out.size _)
          have HRL3 : Hid (RLies W14 (some ⟨w13.heap.size, 0, none⟩) [(5, 1099511627777)]) := Lib.hid (by rw [hW14]; exact rlies_one w13 (5, 1099511627777) _)
          have H14 := Lib.hid (H8.out.grow (F := fun _ => False) (.of_below (HB811.out.trans (HB14.out.mono HB811.out.size))) fun _ k => k.elim)
          go_wp2_with fail
          rw [← hW14]
          clear hW14
          refine (m_pick H14.out HSE.out.good.ok HFD.out.2 HFD.out.1 (some ⟨w13.heap.size, 0, none⟩) 1 [(5, 1099511627777)] HRL3.out (by simp) (by intro r hr; obtain rfl : r = (5, 1099511627777) := (by simpa using hr); exact wfp_of (by decide) (by decide))).mono ?_
          rintro e w15 ⟨A15, c15, rfl, -, -, -, hb15⟩
          rw [picks_not HSE.out.thr HSE.out.B HSE.out.fd HMAY.out]
          have HB15 : Hid (Below w11.heap.size w11 w15) := Lib.hid (HB14.out.trans (hb15.mono HB14.out.size))
          have H15 := Lib.hid (H8.out.grow (F := fun _ => False) (.of_below (HB811.out.trans (HB15.out.mono HB811.out.size))) fun _ k => k.elim)
          clear hb15
          go_wp2_with (go_at_call 16; refine (m_pick H15.out HSE.out.good.ok HFD.out.2 HFD.out.1 none 0 [] (fun h => absurd h (by simp)) (by simp) (by intro r hr; cases hr)).mono ?_; rintro e w16 ⟨A16, c16, rfl, -, -, -, hb16⟩; rw [(picks_none HSE.out.thr).1, (picks_none HSE.out.thr).2]; have HB16 : Hid (Below w11.heap.size w11 w16) := Lib.hid (HB15.out.trans (hb16.mono HB15.out.size)); clear hb16)
          have hB16 := HB16.out
          obtain ⟨g0, g1, g2, -⟩ := HC11.out
          simp only [Nat.zero_mul, Nat.add_zero, List.getElem_cons_zero] at g0 g1 g2
          have q0 := (hB16.cell (p := ⟨B11, o11, none⟩) hB11).trans g0
          have q1 := (hB16.cell (p := ⟨B11, o11 + 1, none⟩) hB11).trans g1
          have q2 := (hB16.cell (p := ⟨B11, o11 + 2, none⟩) hB11).trans g2
          obtain ⟨m0, m1, -, -⟩ := cells2q ((hB16.block (w8.heap.size + 1) hl11).trans HX11.out)
          have heq := eql_ref (d.p, d.s) (d.p, d.s)
          clear g0 g1 g2 hB16
          go_still_tail 41, (by kernel_rfl)
          change wpList _ _ _ _ _ w16.drew
          go_wp2_with (go_at_call 9; refine (awake_any _).mono ?_; rintro e w17 ⟨rfl, hb17⟩; have HB17 := Lib.hid hb17; clear hb17)
          go_ret
          exact ⟨rfl, HB8.out.trans ((HB811.out.trans (((HB16.out.trans (Below.refl _ _).drew).trans (HB17.out.mono HB16.out.size)).mono HB811.out.size)).mono hs8)⟩
end
end Go.Proofs.Ytnadcdgpfopcaaa
