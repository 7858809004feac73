/- MountTorn's walk (under way: up to its last region). -/
import Derived.Test.YtnadcdgpfopcaaaMoU
namespace Go.Proofs.Ytnadcdgpfopcaaa
open Go.RowKit Go.Maps Go.Shelf

attribute [local go_sem] Oper.semAt_some
section
theorem u_good (T : List UInt8) (k : Nat) {w : World} {c : Nat} {x : Nat → Prop} (h : Held w c x (uS2 T k)) : MGood (startM (uS2 T k)) := ⟨start_ok h (by show 1 ≤ 2; decide), by simp [startM]⟩
theorem m_root_any {w : World} {s c cap : Nat} {Y : Nat → Prop} {v : Value} {A : Option Addr} {M : MS} (h : ScanAt w s c Y v A cap M) (ok : MOk M) (hrd : M.rd.length ≤ 2000) : Calls Try.prog 17 #[PtrV s] w fun e w' => ∃ (a b : Int) (A2 : Option Addr) (n2 c2 : Nat), e = .returned (.tuple #[.agg #[.int .i64 a, .int .i64 b, .slice A2 n2 c2], .bool M.tells]) ∧ Below w.heap.size w w' := by
  refine (m_root h ok hrd).mono ?_
  rintro e w' ⟨A2, c2, L, rfl, -, -, hb⟩
  exact ⟨_, _, A2, L.length, c2, rfl, hb⟩
/-- What is found on it. -/
theorem u_facts {p q : Int} {d : List UInt8} {L : List UInt8} (N : Nat) (h : MayS p q d) (hL : L = sheetL p.toNat q.toNat d) {M : MS} (hMe : (startM (uS2 (L.take N) N)).stepped 10 = M) :
    M.thr = true ∧ M.tell.length = (if L.length ≤ N then 1 else 0) ∧ M.tells = (decide (L.length ≤ N) && decide (p = 0)) ∧ seqL M.tell = (if L.length ≤ N then q else 0) ∧ M.rd.length ≤ 2000 := by
  have hq := h.2.1.1
  have hdl := h.2.2.1
  by_cases hN : L.length ≤ N
  · rw [List.take_of_length_le hN, hL, u_some N h] at hMe
    obtain ⟨T, hT⟩ : ∃ T, sheetL p.toNat q.toNat d = T := ⟨_, rfl⟩
    rw [hT] at hMe
    rw [if_pos hN, if_pos hN, decide_eq_true hN, ← hMe]
    refine ⟨rfl, rfl, ?_, ?_, ?_⟩
    · unfold MS.tells
      by_cases hp : p = 0
      · have h0 : ¬ q = 0 := by omega
        simp only [if_pos hp, decide_eq_true hp]
        show (true && !(q == 0)) = (true && true)
        simp [h0]
      · simp only [if_neg hp, decide_eq_false hp]
        rfl
    · show max 0 q = q
      omega
    · show (if p = 0 then d else []).length ≤ 2000
      split
      · exact hdl
      · simp
  · have hn : NoSheet (L.take N) := by rw [hL] at hN ⊢; exact torn_none h (by omega)
    rw [u_none _ _ hn] at hMe
    rw [if_neg hN, if_neg hN, decide_eq_false hN, ← hMe]
    exact ⟨rfl, rfl, rfl, rfl, by simp [startM]⟩
set_option maxRecDepth 100000 in
set_option maxHeartbeats 4000000 in
theorem torn_law (p q : Int) (A : Option Addr) (c : Nat) (d : List UInt8) (keep : Int) (w : World) (hr : RB w w.heap.size A d) (hdl : d.length ≤ 9223372036854775807) :
    Calls Try.prog 5 #[.agg #[.int .i64 p, .int .i64 q, .slice A d.length c], .int .i64 keep] w fun e w' => e = .returned (.bool true) ∧ Below w.heap.size w w' := by
  obtain ⟨W0, hW0⟩ : ∃ W0, W0 = w.alloc (.cells #[.int .i64 p, .int .i64 q, .slice A d.length c] 28) := ⟨_, rfl⟩
  have HB0 : Hid (Below w.heap.size w W0) := Lib.hid (by rw [hW0]; exact (Below.refl _ _).alloc (Nat.le_refl _) _)
  have C0 : Hid (W0.heap[w.heap.size]? = some (.cells #[.int .i64 p, .int .i64 q, .slice A d.length c] 28 (0, 0))) := Lib.hid (by rw [hW0]; exact heap_alloc_new w _)
  have hz0 : W0.heap.size = w.heap.size + 1 := by rw [hW0]; simp
  have D0 := Lib.hid (hr.below HB0.out (Nat.le_refl _))
  obtain ⟨k0, k1, k2⟩ := cells3 C0.out
  clear hr
  go_enter Try.func5, Try.ntmps5
  by_cases hd : 100 < d.length
  · go_wp2_with fail
    rw [← hW0]
    go_wp2_with (go_at_call 9; refine (awake_any _).mono ?_; rintro e w1 ⟨rfl, hb1⟩; have HB1 := Lib.hid (HB0.out.trans (hb1.mono HB0.out.size)); clear hb1)
    go_ret
    exact ⟨rfl, HB1.out⟩
  · by_cases hM : MayS p q d
    · have HM := Lib.hid hM
      have hsl := hM.2.2.2
      obtain ⟨L, hL⟩ : ∃ L, L = sheetL p.toNat q.toNat d := ⟨_, rfl⟩
      have HLs := Lib.hid hL
      rw [← hL] at hsl
      have hl1 : 1 ≤ L.length := by rw [hL]; unfold sheetL; simp; omega
      obtain ⟨N, hN0, hN1⟩ := u64_tmod keep (L.length + 3) (by omega) (by omega)
      have hN : wrap64 ((IntKind.u64.wrap keep).tmod ((L.length : Int) + 3)) = (N : Int) := by
        have e : ((L.length + 3 : Nat) : Int) = (L.length : Int) + 3 := by omega
        rw [e] at hN0
        rw [hN0]
        unfold wrap64; omega
      clear hN0
      clear hM hL
      go_wp2_with fail
      rw [← hW0]
      refine (maysheet_any w.heap.size p q A c d _ D0.out (by omega)).mono ?_
      rintro e w1 ⟨rfl, hb1⟩
      rw [decide_eq_true HM.out]
      have hs1 := hb1.size
      have HB1 := Lib.hid (HB0.out.trans (hb1.mono HB0.out.size))
      have C1 := Lib.hid ((hb1.block w.heap.size (by omega)).trans C0.out)
      have D1 := Lib.hid (D0.out.below hb1 (by omega))
      clear hb1 k0 k1 k2
      obtain ⟨k0, k1, k2⟩ := cells3 C1.out
      go_wp2_with fail
      refine (refsheet_any w.heap.size p q A c d _ D1.out (by omega)).mono ?_
      rintro e w2 ⟨A2, c2, L2, er, rfl, hL2, her, hl2, hr2, hf2, hb2⟩
      obtain rfl : L = L2 := by rw [hL2.out, if_pos HM.out, HLs.out]
      rw [if_pos HM.out] at her
      subst her
      have hs2 := hb2.size
      have HB2 := Lib.hid (HB1.out.trans (hb2.mono (by omega)))
      have C2 := Lib.hid ((hb2.block w.heap.size (by omega)).trans C1.out)
      have HR2 := Lib.hid hr2
      clear hb2 hr2 hL2 hf2 k0 k1 k2
      go_wp2_with fail
      rw [hN]
      have HN1 := Lib.hid hN1
      clear hN hN1
      go_wp2_with (go_at_call 11; refine (held_new 2 2 none 0 [] (fun h => absurd h (by simp)) (by simp) (by decide) (by decide) (by decide) (by decide)).mono ?_; rintro e w3 ⟨ch, rfl, hH, hB⟩; have HH := Lib.hid hH; have HB3 := Lib.hid hB; have hs3 := hB.size; clear hH hB)
      obtain ⟨S', hS1, hS2⟩ := u_prog N L hl1 hsl
      go_wp2_with (go_at_call 20; refine (held_cut 0 (N : Int) (by decide) HH.out).mono ?_; rintro e w4 ⟨rfl, hh, hs⟩; have HH4 : Hid (Held w4 ch (fun b => b < w2.heap.size) (uS1 N)) := Lib.hid hh; have HS4 := Lib.hid hs; have hz4 := hs.size; clear hh hs)
      have HCB : Hid (CB w4 (fun b => b < w2.heap.size) A2 L) := Lib.hid fun h0 => by
        obtain ⟨ad, e, m1, m2⟩ := HR2.out h0
        refine ⟨ad, e, m1, fun j hj => ?_⟩
        have hb : (ad.add j).block = ad.block := block_add ad j
        exact (World.cell?_of_block ((HS4.out.block (by rw [hb]; omega) (by rw [hb]; exact m1)).trans (HB3.out.block _ (by rw [hb]; exact m1)))).trans (m2 j hj)
      go_wp2_with (go_at_call 13; refine (held_prog A2 c2 L 1 0 HH4.out HCB.out).mono ?_; rw [hS1]; rintro e w5 ⟨rfl, hh, hs⟩; have HH5 := Lib.hid hh; have HS5 := Lib.hid hs; have hz5 := hs.size; clear hh hs)
      go_wp2_with (go_at_call 21; refine (held_power HH5.out).mono ?_; rw [hS2]; rintro e w6 ⟨rfl, hh, hs⟩; have HH6 := Lib.hid hh; have HS6 := Lib.hid hs; have hz6 := hs.size; clear hh hs)
      obtain ⟨T, hT⟩ : ∃ T, L.take N = T := ⟨_, rfl⟩
      have hfacts := fun M h => u_facts (M := M) N HM.out HLs.out h
      rw [hT] at HH6 hfacts
      clear hT hS1 hS2
      go_wp2_with (go_at_call 14; refine (m_new (S := uS2 T N) HH6.out (by show 1 ≤ 2; decide)).mono ?_; rintro e w7 ⟨s, rfl, hsc, hb7⟩; have HSC := Lib.hid hsc; have HB7 := Lib.hid hb7; have hz7 := hb7.size; clear hsc hb7)
      have HG := Lib.hid (u_good T N HH6.out)
      obtain ⟨M, hMe⟩ : ∃ M, (startM (uS2 T N)).stepped 10 = M := ⟨_, rfl⟩
      have HME := Lib.hid hMe
      have HGM : Hid (MGood M) := Lib.hid (by rw [← hMe]; exact HG.out.stepped 10)
      obtain ⟨e1, e2, e3, e4, e5⟩ := hfacts M hMe
      have HTH := Lib.hid e1
      have HTL := Lib.hid e2
      have HTS := Lib.hid e3
      have HSQ := Lib.hid e4
      have HRD := Lib.hid e5
      clear hMe hfacts e1 e2 e3 e4 e5
      go_wp2_with (go_at_call 15; refine (m_step 10 HSC.out HG.out (by decide) rfl).mono ?_; rw [HME.out]; rintro e w8 ⟨rfl, hsc, hsf⟩; rw [HTH.out]; have HSC8 := Lib.hid hsc; have HS8 := Lib.hid hsf; have hz8 := hsf.size; clear hsc hsf)
      obtain ⟨Y8, v8, A8, cap8, h8, f8⟩ := HSC8.out
      have H8 := Lib.hid h8
      clear h8 f8
      have hfd : M.fd.length ≤ 5000 := by have := HGM.out.fd; have := HGM.out.ok.k; have := HGM.out.ok.mul; omega
      go_wp2_with (go_at_call 19; refine (m_found H8.out HGM.out.ok hfd).mono ?_; rintro e w9 ⟨A9, c9, rfl, -, -, -, hb9⟩; have HB9 := Lib.hid hb9; have hz9 := hb9.size; clear hb9)
      all_goals have H9 := Lib.hid (H8.out.grow (F := fun _ => False) (.of_below HB9.out) fun _ k => k.elim)
      all_goals go_wp2_with (go_at_call 17; refine (m_root_any H9.out HGM.out.ok HRD.out).mono ?_; rintro e w10 ⟨rr1, rr2, A10, n10, c10, rfl, hb10⟩; have HB10 := Lib.hid hb10; have hz10 := hb10.size; clear hb10)
      all_goals (obtain ⟨W11, hW11⟩ : ∃ W11, W11 = w10.alloc (.cells #[.int .i64 rr1, .int .i64 rr2, .slice A10 n10 c10] 28) := ⟨_, rfl⟩); rw [← hW11]
      all_goals (have hb11 : Below w10.heap.size w10 W11 := (by rw [hW11]; exact (Below.refl _ _).alloc (Nat.le_refl _) _))
      all_goals have HB911 := Lib.hid (HB10.out.trans (hb11.mono hz10))
      all_goals have H11 := Lib.hid (H9.out.grow (F := fun _ => False) (.of_below HB911.out) fun _ k => k.elim)
      all_goals clear hW11 hb11
      all_goals (have HK : Hid (W11.heap[w.heap.size]? = some (.cells #[.int .i64 p, .int .i64 q, .slice A d.length c] 28 (0, 0))) := Lib.hid (by
        have a0 : w.heap.size < w1.heap.size := by have := HB1.out.size; omega
        have a1 : w.heap.size < w2.heap.size := by have := HB2.out.size; omega
        have b3 := (HB3.out.block w.heap.size a1).trans C2.out
        have b4 := (HS4.out.block (by omega) a1).trans b3
        have b5 := (HS5.out.block (by omega) a1).trans b4
        have b6 := (HS6.out.block (by omega) a1).trans b5
        have b7 := (HB7.out.block w.heap.size (by omega)).trans b6
        have b8 := (HS8.out.block (by omega) (.inl a1)).trans b7
        have b9 := (HB9.out.block w.heap.size (by omega)).trans b8
        exact (HB911.out.block w.heap.size (by omega)).trans b9))
      all_goals (have HBW : Hid (Below w.heap.size w W11) := Lib.hid (by
        have g2 := HB2.out
        have g3 := g2.trans (HB3.out.mono g2.size)
        have st : ∀ (x : Nat → Prop) (V V' : World), (∀ b, b < w.heap.size → x b) → Below w.heap.size w V → Safe x V V' → Below w.heap.size w V' := fun x V V' hx hv hs => ⟨hs.os.trans hv.os, hs.tape.trans hv.tape, hs.output.trans hv.output, Nat.le_trans hv.size hs.size, fun b hb => (hs.block (Nat.lt_of_lt_of_le hb hv.size) (hx b hb)).trans (hv.block b hb)⟩
        have hx : ∀ b, b < w.heap.size → b < w2.heap.size := fun b hb => Nat.lt_of_lt_of_le hb g2.size
        have g4 := st _ _ _ hx g3 HS4.out
        have g5 := st _ _ _ hx g4 HS5.out
        have g6 := st _ _ _ hx g5 HS6.out
        have g7 := g6.trans (HB7.out.mono g6.size)
        have g8 := st _ _ _ (fun b hb => .inl (hx b hb)) g7 HS8.out
        have g9 := g8.trans (HB9.out.mono g8.size)
        exact g9.trans (HB911.out.mono g9.size)))
      all_goals (have hlw := lt_size HK.out)
      all_goals (obtain ⟨y0, y1, -⟩ := cells3 HK.out)
      all_goals (have Y0 := Lib.hid y0)
      all_goals (have Y1 := Lib.hid y1)
      all_goals clear y0 y1
      all_goals have hq1 := HM.out.2.1.1
      all_goals rw [HTL.out, HTS.out]
      · have hNL : L.length ≤ N := by omega
        rw [if_pos hNL, decide_eq_true hNL, Bool.true_and]
        have hsq := HSQ.out
        rw [if_pos hNL] at hsq
        have HSQ1 := Lib.hid hsq
        clear hsq
        refine region_inv2 (fun j v w' => match j with | 0 => v = .int .i64 2 | 1 => v = .bool true | 2 => v = .bool true | 3 => v = .bool true | 4 => v = .bool true | 5 => v = .bool true | 6 => v = .int .i64 0 | 7 => v = .bool true | 8 => v = .bool true | 9 => v = .bool true | 10 => v = .slice A9 1 c9 | 11 => v = .int .i64 1 | 12 => v = .int .i64 1 | 13 => v = .bool true | 14 => v = .bool true | 15 => v = .bool true | 16 => v = .bool (decide (p = 0)) | 17 => v = .int .i64 1 | 18 => v = .bool true | 19 => v = .bool true | 20 => v = .pointer (some ⟨w.heap.size, 0, none⟩) | 21 => v = .int .i64 p | 22 => v = .bool (decide (p = 0)) | 23 => v = .bool (decide (p = 0)) | 24 => v = .bool true | 25 => v = .bool true | 26 => v = .bool true | 27 => v = .pointer (some ⟨s, 0, none⟩) | 28 => v = .int .i64 q | 29 => v = .pointer (some ⟨w.heap.size, 1, none⟩) | 30 => v = .int .i64 q | 31 => v = .bool true | 32 => v = .int .i64 1 | 33 => v = .bool true | 34 => v = .bool true | 35 => v = .bool true | 36 => v = .bool true | 37 => v = .bool true | 38 => v = .bool true | 39 => v = .bool true | _ => True) (fun _ w' => Below W11.heap.size W11 w') (by kernel_rfl) (by kernel_rfl) (by kernel_rfl) ?hG ?hops ?hend
        case hG => exact (Below.refl _ _).drew
        case hops =>
          refine OpsOk2.cons ?o0 (OpsOk2.cons ?o1 (OpsOk2.cons ?o2 (OpsOk2.cons ?o3 (OpsOk2.cons ?o4 (OpsOk2.cons ?o5 (OpsOk2.cons ?o6 (OpsOk2.cons ?o7 (OpsOk2.cons ?o8 (OpsOk2.cons ?o9 (OpsOk2.cons ?o10 (OpsOk2.cons ?o11 (OpsOk2.cons ?o12 (OpsOk2.cons ?o13 (OpsOk2.cons ?o14 (OpsOk2.cons ?o15 (OpsOk2.cons ?o16 (OpsOk2.cons ?o17 (OpsOk2.cons ?o18 (OpsOk2.cons ?o19 (OpsOk2.cons ?o20 (OpsOk2.cons ?o21 (OpsOk2.cons ?o22 (OpsOk2.cons ?o23 (OpsOk2.cons ?o24 (OpsOk2.cons ?o25 (OpsOk2.cons ?o26 (OpsOk2.cons ?o27 (OpsOk2.cons ?o28 (OpsOk2.cons ?o29 (OpsOk2.cons ?o30 (OpsOk2.cons ?o31 (OpsOk2.cons ?o32 (OpsOk2.cons ?o33 (OpsOk2.cons ?o34 (OpsOk2.cons ?o35 (OpsOk2.cons ?o36 (OpsOk2.cons ?o37 (OpsOk2.cons ?o38 (OpsOk2.cons ?o39 OpsOk2.nil)))))))))))))))))))))))))))))))))))))))
          case o0 =>
            intro a w1 d Kx hd hG need old hsz hKx
            have e0 : a.tmps[8]?.getD undef = .int .i64 2 := by rw [← Array.getD_eq_getD_getElem?]; exact old 8 (by kernel_rfl)
            refine op_value (v := .int .i64 2) (wanted_none rfl) ?_ (hKx _ w1 rfl hG (fun _ _ _ _ h => h))
            simp [execOp, go_sem, e0]
          case o1 =>
            intro a w1 d Kx hd hG need old hsz hKx
            have e0 : a.tmps[67]?.getD undef = .int .i64 2 := by rw [← Array.getD_eq_getD_getElem?]; exact (need 0 (by kernel_rfl) (by kernel_rfl)).2
            refine op_value (v := .bool true) (wanted_none rfl) ?_ (hKx _ w1 rfl hG (fun _ _ _ _ h => h))
            simp [execOp, go_sem, e0]
          case o2 =>
            intro a w1 d Kx hd hG need old hsz hKx
            have e0 : a.tmps[68]?.getD undef = .bool true := by rw [← Array.getD_eq_getD_getElem?]; exact (need 1 (by kernel_rfl) (by kernel_rfl)).2
            refine op_value (v := .bool true) (wanted_none rfl) ?_ (hKx _ w1 rfl hG (fun _ _ _ _ h => h))
            simp [execOp, go_sem, e0]
          case o3 =>
            intro a w1 d Kx hd hG need old hsz hKx
            have e0 : a.tmps[10]?.getD undef = .bool true := by rw [← Array.getD_eq_getD_getElem?]; exact old 10 (by kernel_rfl)
            refine op_value (v := .bool true) (wanted_of (j := 2) rfl (need 2 (by kernel_rfl) (by kernel_rfl)).2) ?_ (hKx _ w1 rfl hG (fun _ _ _ _ h => h))
            simp [execOp, go_sem, e0]
          case o4 =>
            intro a w1 d Kx hd hG need old hsz hKx
            have e0 : a.tmps[69]?.getD undef = .bool true := by rw [← Array.getD_eq_getD_getElem?]; exact (need 2 (by kernel_rfl) (by kernel_rfl)).2
            have e1 : a.tmps[70]?.getD undef = .bool true := by rw [← Array.getD_eq_getD_getElem?]; exact (need 3 (by kernel_rfl) (by kernel_rfl)).2
            refine op_value (v := .bool true) (wanted_none rfl) ?_ (hKx _ w1 rfl hG (fun _ _ _ _ h => h))
            simp [execOp, go_sem, asBool, e0, e1]
          case o5 =>
            intro a w1 d Kx hd hG need old hsz hKx
            have e0 : a.tmps[71]?.getD undef = .bool true := by rw [← Array.getD_eq_getD_getElem?]; exact (need 4 (by kernel_rfl) (by kernel_rfl)).2
            refine op_value (v := .bool true) (wanted_none rfl) ?_ (hKx _ w1 rfl hG (fun _ _ _ _ h => h))
            simp [execOp, go_sem, e0]
          case o6 =>
            intro a w1 d Kx hd hG need old hsz hKx
            have e0 : a.tmps[11]?.getD undef = .int .i64 0 := by rw [← Array.getD_eq_getD_getElem?]; exact old 11 (by kernel_rfl)
            refine op_value (v := .int .i64 0) (wanted_of (j := 5) rfl (need 5 (by kernel_rfl) (by kernel_rfl)).2) ?_ (hKx _ w1 rfl hG (fun _ _ _ _ h => h))
            simp [execOp, go_sem, e0]
          case o7 =>
            intro a w1 d Kx hd hG need old hsz hKx
            have e0 : a.tmps[73]?.getD undef = .int .i64 0 := by rw [← Array.getD_eq_getD_getElem?]; exact (need 6 (by kernel_rfl) (by kernel_rfl)).2
            refine op_value (v := .bool true) (wanted_of (j := 5) rfl (need 5 (by kernel_rfl) (by kernel_rfl)).2) ?_ (hKx _ w1 rfl hG (fun _ _ _ _ h => h))
            simp [execOp, go_sem, e0]
          case o8 =>
            intro a w1 d Kx hd hG need old hsz hKx
            have e0 : a.tmps[72]?.getD undef = .bool true := by rw [← Array.getD_eq_getD_getElem?]; exact (need 5 (by kernel_rfl) (by kernel_rfl)).2
            have e1 : a.tmps[74]?.getD undef = .bool true := by rw [← Array.getD_eq_getD_getElem?]; exact (need 7 (by kernel_rfl) (by kernel_rfl)).2
            refine op_value (v := .bool true) (wanted_none rfl) ?_ (hKx _ w1 rfl hG (fun _ _ _ _ h => h))
            simp [execOp, go_sem, asBool, e0, e1]
          case o9 =>
            intro a w1 d Kx hd hG need old hsz hKx
            have e0 : a.tmps[75]?.getD undef = .bool true := by rw [← Array.getD_eq_getD_getElem?]; exact (need 8 (by kernel_rfl) (by kernel_rfl)).2
            refine op_value (v := .bool true) (wanted_none rfl) ?_ (hKx _ w1 rfl hG (fun _ _ _ _ h => h))
            simp [execOp, go_sem, e0]
          case o10 =>
            intro a w1 d Kx hd hG need old hsz hKx
            have e0 : a.tmps[12]?.getD undef = .slice A9 1 c9 := by rw [← Array.getD_eq_getD_getElem?]; exact old 12 (by kernel_rfl)
            refine op_value (v := .slice A9 1 c9) (wanted_of (j := 9) rfl (need 9 (by kernel_rfl) (by kernel_rfl)).2) ?_ (hKx _ w1 rfl hG (fun _ _ _ _ h => h))
            simp [execOp, go_sem, e0]
          case o11 =>
            intro a w1 d Kx hd hG need old hsz hKx
            have e0 : a.tmps[77]?.getD undef = .slice A9 1 c9 := by rw [← Array.getD_eq_getD_getElem?]; exact (need 10 (by kernel_rfl) (by kernel_rfl)).2
            refine op_value (v := .int .i64 1) (wanted_of (j := 9) rfl (need 9 (by kernel_rfl) (by kernel_rfl)).2) ?_ (hKx _ w1 rfl hG (fun _ _ _ _ h => h))
            simp [go_sem, e0]
          case o12 =>
            intro a w1 d Kx hd hG need old hsz hKx
            have e0 : a.tmps[13]?.getD undef = .int .i64 1 := by rw [← Array.getD_eq_getD_getElem?]; exact old 13 (by kernel_rfl)
            refine op_value (v := .int .i64 1) (wanted_of (j := 9) rfl (need 9 (by kernel_rfl) (by kernel_rfl)).2) ?_ (hKx _ w1 rfl hG (fun _ _ _ _ h => h))
            simp [execOp, go_sem, e0]
          case o13 =>
            intro a w1 d Kx hd hG need old hsz hKx
            have e0 : a.tmps[78]?.getD undef = .int .i64 1 := by rw [← Array.getD_eq_getD_getElem?]; exact (need 11 (by kernel_rfl) (by kernel_rfl)).2
            have e1 : a.tmps[79]?.getD undef = .int .i64 1 := by rw [← Array.getD_eq_getD_getElem?]; exact (need 12 (by kernel_rfl) (by kernel_rfl)).2
            refine op_value (v := .bool true) (wanted_of (j := 9) rfl (need 9 (by kernel_rfl) (by kernel_rfl)).2) ?_ (hKx _ w1 rfl hG (fun _ _ _ _ h => h))
            simp [execOp, go_sem, e0, e1]
          case o14 =>
            intro a w1 d Kx hd hG need old hsz hKx
            have e0 : a.tmps[76]?.getD undef = .bool true := by rw [← Array.getD_eq_getD_getElem?]; exact (need 9 (by kernel_rfl) (by kernel_rfl)).2
            have e1 : a.tmps[80]?.getD undef = .bool true := by rw [← Array.getD_eq_getD_getElem?]; exact (need 13 (by kernel_rfl) (by kernel_rfl)).2
            refine op_value (v := .bool true) (wanted_none rfl) ?_ (hKx _ w1 rfl hG (fun _ _ _ _ h => h))
            simp [execOp, go_sem, asBool, e0, e1]
          case o15 =>
            intro a w1 d Kx hd hG need old hsz hKx
            have e0 : a.tmps[81]?.getD undef = .bool true := by rw [← Array.getD_eq_getD_getElem?]; exact (need 14 (by kernel_rfl) (by kernel_rfl)).2
            refine op_value (v := .bool true) (wanted_none rfl) ?_ (hKx _ w1 rfl hG (fun _ _ _ _ h => h))
            simp [execOp, go_sem, e0]
          case o16 =>
            intro a w1 d Kx hd hG need old hsz hKx
            have e0 : a.tmps[15]?.getD undef = .bool (decide (p = 0)) := by rw [← Array.getD_eq_getD_getElem?]; exact old 15 (by kernel_rfl)
            refine op_value (v := .bool (decide (p = 0))) (wanted_of (j := 15) rfl (need 15 (by kernel_rfl) (by kernel_rfl)).2) ?_ (hKx _ w1 rfl hG (fun _ _ _ _ h => h))
            simp [execOp, go_sem, e0]
          case o17 =>
            intro a w1 d Kx hd hG need old hsz hKx
            have e0 : a.tmps[13]?.getD undef = .int .i64 1 := by rw [← Array.getD_eq_getD_getElem?]; exact old 13 (by kernel_rfl)
            refine op_value (v := .int .i64 1) (wanted_of (j := 15) rfl (need 15 (by kernel_rfl) (by kernel_rfl)).2) ?_ (hKx _ w1 rfl hG (fun _ _ _ _ h => h))
            simp [execOp, go_sem, e0]
          case o18 =>
            intro a w1 d Kx hd hG need old hsz hKx
            have e0 : a.tmps[84]?.getD undef = .int .i64 1 := by rw [← Array.getD_eq_getD_getElem?]; exact (need 17 (by kernel_rfl) (by kernel_rfl)).2
            refine op_value (v := .bool true) (wanted_of (j := 15) rfl (need 15 (by kernel_rfl) (by kernel_rfl)).2) ?_ (hKx _ w1 rfl hG (fun _ _ _ _ h => h))
            simp [execOp, go_sem, e0]
          case o19 =>
            intro a w1 d Kx hd hG need old hsz hKx
            have e0 : a.tmps[85]?.getD undef = .bool true := by rw [← Array.getD_eq_getD_getElem?]; exact (need 18 (by kernel_rfl) (by kernel_rfl)).2
            refine op_value (v := .bool true) (wanted_of (j := 15) rfl (need 15 (by kernel_rfl) (by kernel_rfl)).2) ?_ (hKx _ w1 rfl hG (fun _ _ _ _ h => h))
            simp [execOp, go_sem, e0]
          case o20 =>
            intro a w1 d Kx hd hG need old hsz hKx
            have e0 : a.tmps[2]?.getD undef = .pointer (some ⟨w.heap.size, 0, none⟩) := by rw [← Array.getD_eq_getD_getElem?]; exact old 2 (by kernel_rfl)
            refine op_value (v := .pointer (some ⟨w.heap.size, 0, none⟩)) (wanted_of (j := 19) rfl (need 19 (by kernel_rfl) (by kernel_rfl)).2) ?_ (hKx _ w1 rfl hG (fun _ _ _ _ h => h))
            simp [execOp, go_sem, e0]
          case o21 =>
            intro a w1 d Kx hd hG need old hsz hKx
            have e0 : a.tmps[87]?.getD undef = .pointer (some ⟨w.heap.size, 0, none⟩) := by rw [← Array.getD_eq_getD_getElem?]; exact (need 20 (by kernel_rfl) (by kernel_rfl)).2
            have k0 := (hG.cell (p := ⟨w.heap.size, 0, none⟩) hlw).trans Y0.out
            refine op_value (v := .int .i64 p) (wanted_of (j := 19) rfl (need 19 (by kernel_rfl) (by kernel_rfl)).2) ?_ (hKx _ w1 rfl hG (fun _ _ _ _ h => h))
            simp [execOp, go_sem, e0, k0]
          case o22 =>
            intro a w1 d Kx hd hG need old hsz hKx
            have e0 : a.tmps[88]?.getD undef = .int .i64 p := by rw [← Array.getD_eq_getD_getElem?]; exact (need 21 (by kernel_rfl) (by kernel_rfl)).2
            refine op_value (v := .bool (decide (p = 0))) (wanted_of (j := 19) rfl (need 19 (by kernel_rfl) (by kernel_rfl)).2) ?_ (hKx _ w1 rfl hG (fun _ _ _ _ h => h))
            simp [execOp, go_sem, e0]; rfl
          case o23 =>
            intro a w1 d Kx hd hG need old hsz hKx
            have e0 : a.tmps[86]?.getD undef = .bool true := by rw [← Array.getD_eq_getD_getElem?]; exact (need 19 (by kernel_rfl) (by kernel_rfl)).2
            have e1 : a.tmps[89]?.getD undef = .bool (decide (p = 0)) := by rw [← Array.getD_eq_getD_getElem?]; exact (need 22 (by kernel_rfl) (by kernel_rfl)).2
            refine op_value (v := .bool (decide (p = 0))) (wanted_of (j := 15) rfl (need 15 (by kernel_rfl) (by kernel_rfl)).2) ?_ (hKx _ w1 rfl hG (fun _ _ _ _ h => h))
            simp [execOp, go_sem, asBool, e0, e1]
          case o24 =>
            intro a w1 d Kx hd hG need old hsz hKx
            have e0 : a.tmps[83]?.getD undef = .bool (decide (p = 0)) := by rw [← Array.getD_eq_getD_getElem?]; exact (need 16 (by kernel_rfl) (by kernel_rfl)).2
            have e1 : a.tmps[90]?.getD undef = .bool (decide (p = 0)) := by rw [← Array.getD_eq_getD_getElem?]; exact (need 23 (by kernel_rfl) (by kernel_rfl)).2
            refine op_value (v := .bool true) (wanted_of (j := 15) rfl (need 15 (by kernel_rfl) (by kernel_rfl)).2) ?_ (hKx _ w1 rfl hG (fun _ _ _ _ h => h))
            simp [execOp, go_sem, e0, e1]
          case o25 =>
            intro a w1 d Kx hd hG need old hsz hKx
            have e0 : a.tmps[82]?.getD undef = .bool true := by rw [← Array.getD_eq_getD_getElem?]; exact (need 15 (by kernel_rfl) (by kernel_rfl)).2
            have e1 : a.tmps[91]?.getD undef = .bool true := by rw [← Array.getD_eq_getD_getElem?]; exact (need 24 (by kernel_rfl) (by kernel_rfl)).2
            refine op_value (v := .bool true) (wanted_none rfl) ?_ (hKx _ w1 rfl hG (fun _ _ _ _ h => h))
            simp [execOp, go_sem, asBool, e0, e1]
          case o26 =>
            intro a w1 d Kx hd hG need old hsz hKx
            have e0 : a.tmps[92]?.getD undef = .bool true := by rw [← Array.getD_eq_getD_getElem?]; exact (need 25 (by kernel_rfl) (by kernel_rfl)).2
            refine op_value (v := .bool true) (wanted_none rfl) ?_ (hKx _ w1 rfl hG (fun _ _ _ _ h => h))
            simp [execOp, go_sem, e0]
          case o27 =>
            intro a w1 d Kx hd hG need old hsz hKx
            have e0 : a.tmps[9]?.getD undef = .pointer (some ⟨s, 0, none⟩) := by rw [← Array.getD_eq_getD_getElem?]; exact old 9 (by kernel_rfl)
            refine op_value (v := .pointer (some ⟨s, 0, none⟩)) (wanted_of (j := 26) rfl (need 26 (by kernel_rfl) (by kernel_rfl)).2) ?_ (hKx _ w1 rfl hG (fun _ _ _ _ h => h))
            simp [execOp, go_sem, e0]
          case o28 =>
            intro a w1 d Kx hd hG need old hsz hKx
            have e0 : a.tmps[94]?.getD undef = .pointer (some ⟨s, 0, none⟩) := by rw [← Array.getD_eq_getD_getElem?]; exact (need 27 (by kernel_rfl) (by kernel_rfl)).2
            refine op_call (wanted_of (j := 26) rfl (need 26 (by kernel_rfl) (by kernel_rfl)).2) (f := 18) (args := #[.pointer (some ⟨s, 0, none⟩)]) ?run ((m_seq (H11.out.grow (F := fun _ => False) (.of_below hG) fun _ k => k.elim) HGM.out.ok hfd).mono ?post)
            case run => simp [go_sem, e0]
            case post =>
              rintro e w2 ⟨rfl, hb⟩
              rw [HSQ1.out]
              exact ⟨_, rfl, hKx _ w2 rfl (hG.trans (hb.mono hG.size)) (fun _ _ _ _ h => h)⟩
          case o29 =>
            intro a w1 d Kx hd hG need old hsz hKx
            have e0 : a.tmps[2]?.getD undef = .pointer (some ⟨w.heap.size, 0, none⟩) := by rw [← Array.getD_eq_getD_getElem?]; exact old 2 (by kernel_rfl)
            refine op_value (v := .pointer (some ⟨w.heap.size, 1, none⟩)) (wanted_of (j := 26) rfl (need 26 (by kernel_rfl) (by kernel_rfl)).2) ?_ (hKx _ w1 rfl hG (fun _ _ _ _ h => h))
            simp [execOp, go_sem, e0]
          case o30 =>
            intro a w1 d Kx hd hG need old hsz hKx
            have e0 : a.tmps[96]?.getD undef = .pointer (some ⟨w.heap.size, 1, none⟩) := by rw [← Array.getD_eq_getD_getElem?]; exact (need 29 (by kernel_rfl) (by kernel_rfl)).2
            have k0 := (hG.cell (p := ⟨w.heap.size, 1, none⟩) hlw).trans Y1.out
            refine op_value (v := .int .i64 q) (wanted_of (j := 26) rfl (need 26 (by kernel_rfl) (by kernel_rfl)).2) ?_ (hKx _ w1 rfl hG (fun _ _ _ _ h => h))
            simp [execOp, go_sem, e0, k0]
          case o31 =>
            intro a w1 d Kx hd hG need old hsz hKx
            have e0 : a.tmps[95]?.getD undef = .int .i64 q := by rw [← Array.getD_eq_getD_getElem?]; exact (need 28 (by kernel_rfl) (by kernel_rfl)).2
            have e1 : a.tmps[97]?.getD undef = .int .i64 q := by rw [← Array.getD_eq_getD_getElem?]; exact (need 30 (by kernel_rfl) (by kernel_rfl)).2
            refine op_value (v := .bool true) (wanted_of (j := 26) rfl (need 26 (by kernel_rfl) (by kernel_rfl)).2) ?_ (hKx _ w1 rfl hG (fun _ _ _ _ h => h))
            simp [execOp, go_sem, e0, e1]
          case o32 =>
            intro a w1 d Kx hd hG need old hsz hKx
            have e0 : a.tmps[13]?.getD undef = .int .i64 1 := by rw [← Array.getD_eq_getD_getElem?]; exact old 13 (by kernel_rfl)
            refine op_value (v := .int .i64 1) (wanted_of (j := 26) rfl (need 26 (by kernel_rfl) (by kernel_rfl)).2) ?_ (hKx _ w1 rfl hG (fun _ _ _ _ h => h))
            simp [execOp, go_sem, e0]
          case o33 =>
            intro a w1 d Kx hd hG need old hsz hKx
            have e0 : a.tmps[99]?.getD undef = .int .i64 1 := by rw [← Array.getD_eq_getD_getElem?]; exact (need 32 (by kernel_rfl) (by kernel_rfl)).2
            refine op_value (v := .bool true) (wanted_of (j := 26) rfl (need 26 (by kernel_rfl) (by kernel_rfl)).2) ?_ (hKx _ w1 rfl hG (fun _ _ _ _ h => h))
            simp [execOp, go_sem, e0]
          case o34 =>
            intro a w1 d Kx hd hG need old hsz hKx
            have e0 : a.tmps[98]?.getD undef = .bool true := by rw [← Array.getD_eq_getD_getElem?]; exact (need 31 (by kernel_rfl) (by kernel_rfl)).2
            have e1 : a.tmps[100]?.getD undef = .bool true := by rw [← Array.getD_eq_getD_getElem?]; exact (need 33 (by kernel_rfl) (by kernel_rfl)).2
            refine op_value (v := .bool true) (wanted_of (j := 26) rfl (need 26 (by kernel_rfl) (by kernel_rfl)).2) ?_ (hKx _ w1 rfl hG (fun _ _ _ _ h => h))
            simp [execOp, go_sem, e0, e1]
          case o35 =>
            intro a w1 d Kx hd hG need old hsz hKx
            have e0 : a.tmps[93]?.getD undef = .bool true := by rw [← Array.getD_eq_getD_getElem?]; exact (need 26 (by kernel_rfl) (by kernel_rfl)).2
            have e1 : a.tmps[101]?.getD undef = .bool true := by rw [← Array.getD_eq_getD_getElem?]; exact (need 34 (by kernel_rfl) (by kernel_rfl)).2
            refine op_value (v := .bool true) (wanted_none rfl) ?_ (hKx _ w1 rfl hG (fun _ _ _ _ h => h))
            simp [execOp, go_sem, asBool, e0, e1]
          case o36 =>
            intro a w1 d Kx hd hG need old hsz hKx
            have e0 : a.tmps[102]?.getD undef = .bool true := by rw [← Array.getD_eq_getD_getElem?]; exact (need 35 (by kernel_rfl) (by kernel_rfl)).2
            refine op_value (v := .bool true) (wanted_none rfl) ?_ (hKx _ w1 rfl hG (fun _ _ _ _ h => h))
            simp [execOp, go_sem, e0]
          case o37 =>
            intro a w1 d Kx hd hG need old hsz hKx
            refine op_call (wanted_of (j := 36) rfl (need 36 (by kernel_rfl) (by kernel_rfl)).2) (f := 9) (args := #[]) ?run ((awake_any w1).mono ?post)
            case run => simp [go_sem]
            case post =>
              rintro e w2 ⟨rfl, hb⟩
              exact ⟨_, rfl, hKx _ w2 rfl (hG.trans (hb.mono hG.size)) (fun _ _ _ _ h => h)⟩
          case o38 =>
            intro a w1 d Kx hd hG need old hsz hKx
            have e0 : a.tmps[103]?.getD undef = .bool true := by rw [← Array.getD_eq_getD_getElem?]; exact (need 36 (by kernel_rfl) (by kernel_rfl)).2
            have e1 : a.tmps[104]?.getD undef = .bool true := by rw [← Array.getD_eq_getD_getElem?]; exact (need 37 (by kernel_rfl) (by kernel_rfl)).2
            refine op_value (v := .bool true) (wanted_none rfl) ?_ (hKx _ w1 rfl hG (fun _ _ _ _ h => h))
            simp [execOp, go_sem, asBool, e0, e1]
          case o39 =>
            intro a w1 d Kx hd hG need old hsz hKx
            have e0 : a.tmps[105]?.getD undef = .bool true := by rw [← Array.getD_eq_getD_getElem?]; exact (need 38 (by kernel_rfl) (by kernel_rfl)).2
            refine op_value (v := .bool true) (wanted_none rfl) ?_ (hKx _ w1 rfl hG (fun _ _ _ _ h => h))
            simp [execOp, go_sem, e0]
        case hend =>
          intro a w6_ d hG hφ hde hsz hold
          obtain rfl := act_puts [(67, .int .i64 2), (68, .bool true), (69, .bool true), (70, .bool true), (71, .bool true), (72, .bool true), (73, .int .i64 0), (74, .bool true), (75, .bool true), (76, .bool true), (77, .slice A9 1 c9), (78, .int .i64 1), (79, .int .i64 1), (80, .bool true), (81, .bool true), (82, .bool true), (83, .bool (decide (p = 0))), (84, .int .i64 1), (85, .bool true), (86, .bool true), (87, .pointer (some ⟨w.heap.size, 0, none⟩)), (88, .int .i64 p), (89, .bool (decide (p = 0))), (90, .bool (decide (p = 0))), (91, .bool true), (92, .bool true), (93, .bool true), (94, .pointer (some ⟨s, 0, none⟩)), (95, .int .i64 q), (96, .pointer (some ⟨w.heap.size, 1, none⟩)), (97, .int .i64 q), (98, .bool true), (99, .int .i64 1), (100, .bool true), (101, .bool true), (102, .bool true), (103, .bool true), (104, .bool true), (105, .bool true), (4, .bool true)] [67, 68, 69, 70, 71, 72, 73, 74, 75, 76, 77, 78, 79, 80, 81, 82, 83, 84, 85, 86, 87, 88, 89, 90, 91, 92, 93, 94, 95, 96, 97, 98, 99, 100, 101, 102, 103, 104, 105, 4] rfl (by kernel_rfl) (by kernel_rfl) hde hsz (List.forall_mem_cons.2 ⟨(show a.tmps.getD 67 undef = .int .i64 2 from (hφ 0 (by kernel_rfl)).2), (List.forall_mem_cons.2 ⟨(show a.tmps.getD 68 undef = .bool true from (hφ 1 (by kernel_rfl)).2), (List.forall_mem_cons.2 ⟨(show a.tmps.getD 69 undef = .bool true from (hφ 2 (by kernel_rfl)).2), (List.forall_mem_cons.2 ⟨(show a.tmps.getD 70 undef = .bool true from (hφ 3 (by kernel_rfl)).2), (List.forall_mem_cons.2 ⟨(show a.tmps.getD 71 undef = .bool true from (hφ 4 (by kernel_rfl)).2), (List.forall_mem_cons.2 ⟨(show a.tmps.getD 72 undef = .bool true from (hφ 5 (by kernel_rfl)).2), (List.forall_mem_cons.2 ⟨(show a.tmps.getD 73 undef = .int .i64 0 from (hφ 6 (by kernel_rfl)).2), (List.forall_mem_cons.2 ⟨(show a.tmps.getD 74 undef = .bool true from (hφ 7 (by kernel_rfl)).2), (List.forall_mem_cons.2 ⟨(show a.tmps.getD 75 undef = .bool true from (hφ 8 (by kernel_rfl)).2), (List.forall_mem_cons.2 ⟨(show a.tmps.getD 76 undef = .bool true from (hφ 9 (by kernel_rfl)).2), (List.forall_mem_cons.2 ⟨(show a.tmps.getD 77 undef = .slice A9 1 c9 from (hφ 10 (by kernel_rfl)).2), (List.forall_mem_cons.2 ⟨(show a.tmps.getD 78 undef = .int .i64 1 from (hφ 11 (by kernel_rfl)).2), (List.forall_mem_cons.2 ⟨(show a.tmps.getD 79 undef = .int .i64 1 from (hφ 12 (by kernel_rfl)).2), (List.forall_mem_cons.2 ⟨(show a.tmps.getD 80 undef = .bool true from (hφ 13 (by kernel_rfl)).2), (List.forall_mem_cons.2 ⟨(show a.tmps.getD 81 undef = .bool true from (hφ 14 (by kernel_rfl)).2), (List.forall_mem_cons.2 ⟨(show a.tmps.getD 82 undef = .bool true from (hφ 15 (by kernel_rfl)).2), (List.forall_mem_cons.2 ⟨(show a.tmps.getD 83 undef = .bool (decide (p = 0)) from (hφ 16 (by kernel_rfl)).2), (List.forall_mem_cons.2 ⟨(show a.tmps.getD 84 undef = .int .i64 1 from (hφ 17 (by kernel_rfl)).2), (List.forall_mem_cons.2 ⟨(show a.tmps.getD 85 undef = .bool true from (hφ 18 (by kernel_rfl)).2), (List.forall_mem_cons.2 ⟨(show a.tmps.getD 86 undef = .bool true from (hφ 19 (by kernel_rfl)).2), (List.forall_mem_cons.2 ⟨(show a.tmps.getD 87 undef = .pointer (some ⟨w.heap.size, 0, none⟩) from (hφ 20 (by kernel_rfl)).2), (List.forall_mem_cons.2 ⟨(show a.tmps.getD 88 undef = .int .i64 p from (hφ 21 (by kernel_rfl)).2), (List.forall_mem_cons.2 ⟨(show a.tmps.getD 89 undef = .bool (decide (p = 0)) from (hφ 22 (by kernel_rfl)).2), (List.forall_mem_cons.2 ⟨(show a.tmps.getD 90 undef = .bool (decide (p = 0)) from (hφ 23 (by kernel_rfl)).2), (List.forall_mem_cons.2 ⟨(show a.tmps.getD 91 undef = .bool true from (hφ 24 (by kernel_rfl)).2), (List.forall_mem_cons.2 ⟨(show a.tmps.getD 92 undef = .bool true from (hφ 25 (by kernel_rfl)).2), (List.forall_mem_cons.2 ⟨(show a.tmps.getD 93 undef = .bool true from (hφ 26 (by kernel_rfl)).2), (List.forall_mem_cons.2 ⟨(show a.tmps.getD 94 undef = .pointer (some ⟨s, 0, none⟩) from (hφ 27 (by kernel_rfl)).2), (List.forall_mem_cons.2 ⟨(show a.tmps.getD 95 undef = .int .i64 q from (hφ 28 (by kernel_rfl)).2), (List.forall_mem_cons.2 ⟨(show a.tmps.getD 96 undef = .pointer (some ⟨w.heap.size, 1, none⟩) from (hφ 29 (by kernel_rfl)).2), (List.forall_mem_cons.2 ⟨(show a.tmps.getD 97 undef = .int .i64 q from (hφ 30 (by kernel_rfl)).2), (List.forall_mem_cons.2 ⟨(show a.tmps.getD 98 undef = .bool true from (hφ 31 (by kernel_rfl)).2), (List.forall_mem_cons.2 ⟨(show a.tmps.getD 99 undef = .int .i64 1 from (hφ 32 (by kernel_rfl)).2), (List.forall_mem_cons.2 ⟨(show a.tmps.getD 100 undef = .bool true from (hφ 33 (by kernel_rfl)).2), (List.forall_mem_cons.2 ⟨(show a.tmps.getD 101 undef = .bool true from (hφ 34 (by kernel_rfl)).2), (List.forall_mem_cons.2 ⟨(show a.tmps.getD 102 undef = .bool true from (hφ 35 (by kernel_rfl)).2), (List.forall_mem_cons.2 ⟨(show a.tmps.getD 103 undef = .bool true from (hφ 36 (by kernel_rfl)).2), (List.forall_mem_cons.2 ⟨(show a.tmps.getD 104 undef = .bool true from (hφ 37 (by kernel_rfl)).2), (List.forall_mem_cons.2 ⟨(show a.tmps.getD 105 undef = .bool true from (hφ 38 (by kernel_rfl)).2), (List.forall_mem_cons.2 ⟨(show a.tmps.getD 4 undef = .bool true from (hφ 39 (by kernel_rfl)).2), (fun _ h => absurd h (by simp))⟩)⟩)⟩)⟩)⟩)⟩)⟩)⟩)⟩)⟩)⟩)⟩)⟩)⟩)⟩)⟩)⟩)⟩)⟩)⟩)⟩)⟩)⟩)⟩)⟩)⟩)⟩)⟩)⟩)⟩)⟩)⟩)⟩)⟩)⟩)⟩)⟩)⟩)⟩)⟩) hold
          clear hφ hold hsz hde
          simp only [putAll]
          go_frame
          go_wp2_with fail
          go_ret
          exact ⟨rfl, HBW.out.trans (hG.mono HBW.out.size)⟩
      · have hNL : ¬ L.length ≤ N := by omega
        rw [if_neg hNL, decide_eq_false hNL, Bool.false_and]
        have hsq := HSQ.out
        rw [if_neg hNL] at hsq
        have HSQ1 := Lib.hid hsq
        clear hsq
        refine region_inv2 (fun j v w' => match j with | 0 => v = .int .i64 2 | 1 => v = .bool true | 2 => v = .bool true | 3 => v = .bool true | 4 => v = .bool true | 5 => v = .bool true | 6 => v = .int .i64 0 | 7 => v = .bool true | 8 => v = .bool true | 9 => v = .bool true | 10 => v = .slice A9 0 c9 | 11 => v = .int .i64 0 | 12 => v = .int .i64 0 | 13 => v = .bool true | 14 => v = .bool true | 15 => v = .bool true | 16 => v = .bool false | 17 => v = .int .i64 0 | 18 => v = .bool false | 19 => v = .bool false | 20 => v = undef | 21 => v = undef | 22 => v = undef | 23 => v = .bool false | 24 => v = .bool true | 25 => v = .bool true | 26 => v = .bool true | 27 => v = .pointer (some ⟨s, 0, none⟩) | 28 => v = .int .i64 0 | 29 => v = .pointer (some ⟨w.heap.size, 1, none⟩) | 30 => v = .int .i64 q | 31 => v = .bool false | 32 => v = .int .i64 0 | 33 => v = .bool false | 34 => v = .bool true | 35 => v = .bool true | 36 => v = .bool true | 37 => v = .bool true | 38 => v = .bool true | 39 => v = .bool true | _ => True) (fun _ w' => Below W11.heap.size W11 w') (by kernel_rfl) (by kernel_rfl) (by kernel_rfl) ?hG ?hops ?hend
        case hG => exact (Below.refl _ _).drew
        case hops =>
          refine OpsOk2.cons ?o0 (OpsOk2.cons ?o1 (OpsOk2.cons ?o2 (OpsOk2.cons ?o3 (OpsOk2.cons ?o4 (OpsOk2.cons ?o5 (OpsOk2.cons ?o6 (OpsOk2.cons ?o7 (OpsOk2.cons ?o8 (OpsOk2.cons ?o9 (OpsOk2.cons ?o10 (OpsOk2.cons ?o11 (OpsOk2.cons ?o12 (OpsOk2.cons ?o13 (OpsOk2.cons ?o14 (OpsOk2.cons ?o15 (OpsOk2.cons ?o16 (OpsOk2.cons ?o17 (OpsOk2.cons ?o18 (OpsOk2.cons ?o19 (OpsOk2.cons ?o20 (OpsOk2.cons ?o21 (OpsOk2.cons ?o22 (OpsOk2.cons ?o23 (OpsOk2.cons ?o24 (OpsOk2.cons ?o25 (OpsOk2.cons ?o26 (OpsOk2.cons ?o27 (OpsOk2.cons ?o28 (OpsOk2.cons ?o29 (OpsOk2.cons ?o30 (OpsOk2.cons ?o31 (OpsOk2.cons ?o32 (OpsOk2.cons ?o33 (OpsOk2.cons ?o34 (OpsOk2.cons ?o35 (OpsOk2.cons ?o36 (OpsOk2.cons ?o37 (OpsOk2.cons ?o38 (OpsOk2.cons ?o39 OpsOk2.nil)))))))))))))))))))))))))))))))))))))))
          case o0 =>
            intro a w1 d Kx hd hG need old hsz hKx
            have e0 : a.tmps[8]?.getD undef = .int .i64 2 := by rw [← Array.getD_eq_getD_getElem?]; exact old 8 (by kernel_rfl)
            refine op_value (v := .int .i64 2) (wanted_none rfl) ?_ (hKx _ w1 rfl hG (fun _ _ _ _ h => h))
            simp [execOp, go_sem, e0]
          case o1 =>
            intro a w1 d Kx hd hG need old hsz hKx
            have e0 : a.tmps[67]?.getD undef = .int .i64 2 := by rw [← Array.getD_eq_getD_getElem?]; exact (need 0 (by kernel_rfl) (by kernel_rfl)).2
            refine op_value (v := .bool true) (wanted_none rfl) ?_ (hKx _ w1 rfl hG (fun _ _ _ _ h => h))
            simp [execOp, go_sem, e0]
          case o2 =>
            intro a w1 d Kx hd hG need old hsz hKx
            have e0 : a.tmps[68]?.getD undef = .bool true := by rw [← Array.getD_eq_getD_getElem?]; exact (need 1 (by kernel_rfl) (by kernel_rfl)).2
            refine op_value (v := .bool true) (wanted_none rfl) ?_ (hKx _ w1 rfl hG (fun _ _ _ _ h => h))
            simp [execOp, go_sem, e0]
          case o3 =>
            intro a w1 d Kx hd hG need old hsz hKx
            have e0 : a.tmps[10]?.getD undef = .bool true := by rw [← Array.getD_eq_getD_getElem?]; exact old 10 (by kernel_rfl)
            refine op_value (v := .bool true) (wanted_of (j := 2) rfl (need 2 (by kernel_rfl) (by kernel_rfl)).2) ?_ (hKx _ w1 rfl hG (fun _ _ _ _ h => h))
            simp [execOp, go_sem, e0]
          case o4 =>
            intro a w1 d Kx hd hG need old hsz hKx
            have e0 : a.tmps[69]?.getD undef = .bool true := by rw [← Array.getD_eq_getD_getElem?]; exact (need 2 (by kernel_rfl) (by kernel_rfl)).2
            have e1 : a.tmps[70]?.getD undef = .bool true := by rw [← Array.getD_eq_getD_getElem?]; exact (need 3 (by kernel_rfl) (by kernel_rfl)).2
            refine op_value (v := .bool true) (wanted_none rfl) ?_ (hKx _ w1 rfl hG (fun _ _ _ _ h => h))
            simp [execOp, go_sem, asBool, e0, e1]
          case o5 =>
            intro a w1 d Kx hd hG need old hsz hKx
            have e0 : a.tmps[71]?.getD undef = .bool true := by rw [← Array.getD_eq_getD_getElem?]; exact (need 4 (by kernel_rfl) (by kernel_rfl)).2
            refine op_value (v := .bool true) (wanted_none rfl) ?_ (hKx _ w1 rfl hG (fun _ _ _ _ h => h))
            simp [execOp, go_sem, e0]
          case o6 =>
            intro a w1 d Kx hd hG need old hsz hKx
            have e0 : a.tmps[11]?.getD undef = .int .i64 0 := by rw [← Array.getD_eq_getD_getElem?]; exact old 11 (by kernel_rfl)
            refine op_value (v := .int .i64 0) (wanted_of (j := 5) rfl (need 5 (by kernel_rfl) (by kernel_rfl)).2) ?_ (hKx _ w1 rfl hG (fun _ _ _ _ h => h))
            simp [execOp, go_sem, e0]
          case o7 =>
            intro a w1 d Kx hd hG need old hsz hKx
            have e0 : a.tmps[73]?.getD undef = .int .i64 0 := by rw [← Array.getD_eq_getD_getElem?]; exact (need 6 (by kernel_rfl) (by kernel_rfl)).2
            refine op_value (v := .bool true) (wanted_of (j := 5) rfl (need 5 (by kernel_rfl) (by kernel_rfl)).2) ?_ (hKx _ w1 rfl hG (fun _ _ _ _ h => h))
            simp [execOp, go_sem, e0]
          case o8 =>
            intro a w1 d Kx hd hG need old hsz hKx
            have e0 : a.tmps[72]?.getD undef = .bool true := by rw [← Array.getD_eq_getD_getElem?]; exact (need 5 (by kernel_rfl) (by kernel_rfl)).2
            have e1 : a.tmps[74]?.getD undef = .bool true := by rw [← Array.getD_eq_getD_getElem?]; exact (need 7 (by kernel_rfl) (by kernel_rfl)).2
            refine op_value (v := .bool true) (wanted_none rfl) ?_ (hKx _ w1 rfl hG (fun _ _ _ _ h => h))
            simp [execOp, go_sem, asBool, e0, e1]
          case o9 =>
            intro a w1 d Kx hd hG need old hsz hKx
            have e0 : a.tmps[75]?.getD undef = .bool true := by rw [← Array.getD_eq_getD_getElem?]; exact (need 8 (by kernel_rfl) (by kernel_rfl)).2
            refine op_value (v := .bool true) (wanted_none rfl) ?_ (hKx _ w1 rfl hG (fun _ _ _ _ h => h))
            simp [execOp, go_sem, e0]
          case o10 =>
            intro a w1 d Kx hd hG need old hsz hKx
            have e0 : a.tmps[12]?.getD undef = .slice A9 0 c9 := by rw [← Array.getD_eq_getD_getElem?]; exact old 12 (by kernel_rfl)
            refine op_value (v := .slice A9 0 c9) (wanted_of (j := 9) rfl (need 9 (by kernel_rfl) (by kernel_rfl)).2) ?_ (hKx _ w1 rfl hG (fun _ _ _ _ h => h))
            simp [execOp, go_sem, e0]
          case o11 =>
            intro a w1 d Kx hd hG need old hsz hKx
            have e0 : a.tmps[77]?.getD undef = .slice A9 0 c9 := by rw [← Array.getD_eq_getD_getElem?]; exact (need 10 (by kernel_rfl) (by kernel_rfl)).2
            refine op_value (v := .int .i64 0) (wanted_of (j := 9) rfl (need 9 (by kernel_rfl) (by kernel_rfl)).2) ?_ (hKx _ w1 rfl hG (fun _ _ _ _ h => h))
            simp [go_sem, e0]
          case o12 =>
            intro a w1 d Kx hd hG need old hsz hKx
            have e0 : a.tmps[13]?.getD undef = .int .i64 0 := by rw [← Array.getD_eq_getD_getElem?]; exact old 13 (by kernel_rfl)
            refine op_value (v := .int .i64 0) (wanted_of (j := 9) rfl (need 9 (by kernel_rfl) (by kernel_rfl)).2) ?_ (hKx _ w1 rfl hG (fun _ _ _ _ h => h))
            simp [execOp, go_sem, e0]
          case o13 =>
            intro a w1 d Kx hd hG need old hsz hKx
            have e0 : a.tmps[78]?.getD undef = .int .i64 0 := by rw [← Array.getD_eq_getD_getElem?]; exact (need 11 (by kernel_rfl) (by kernel_rfl)).2
            have e1 : a.tmps[79]?.getD undef = .int .i64 0 := by rw [← Array.getD_eq_getD_getElem?]; exact (need 12 (by kernel_rfl) (by kernel_rfl)).2
            refine op_value (v := .bool true) (wanted_of (j := 9) rfl (need 9 (by kernel_rfl) (by kernel_rfl)).2) ?_ (hKx _ w1 rfl hG (fun _ _ _ _ h => h))
            simp [execOp, go_sem, e0, e1]
          case o14 =>
            intro a w1 d Kx hd hG need old hsz hKx
            have e0 : a.tmps[76]?.getD undef = .bool true := by rw [← Array.getD_eq_getD_getElem?]; exact (need 9 (by kernel_rfl) (by kernel_rfl)).2
            have e1 : a.tmps[80]?.getD undef = .bool true := by rw [← Array.getD_eq_getD_getElem?]; exact (need 13 (by kernel_rfl) (by kernel_rfl)).2
            refine op_value (v := .bool true) (wanted_none rfl) ?_ (hKx _ w1 rfl hG (fun _ _ _ _ h => h))
            simp [execOp, go_sem, asBool, e0, e1]
          case o15 =>
            intro a w1 d Kx hd hG need old hsz hKx
            have e0 : a.tmps[81]?.getD undef = .bool true := by rw [← Array.getD_eq_getD_getElem?]; exact (need 14 (by kernel_rfl) (by kernel_rfl)).2
            refine op_value (v := .bool true) (wanted_none rfl) ?_ (hKx _ w1 rfl hG (fun _ _ _ _ h => h))
            simp [execOp, go_sem, e0]
          case o16 =>
            intro a w1 d Kx hd hG need old hsz hKx
            have e0 : a.tmps[15]?.getD undef = .bool false := by rw [← Array.getD_eq_getD_getElem?]; exact old 15 (by kernel_rfl)
            refine op_value (v := .bool false) (wanted_of (j := 15) rfl (need 15 (by kernel_rfl) (by kernel_rfl)).2) ?_ (hKx _ w1 rfl hG (fun _ _ _ _ h => h))
            simp [execOp, go_sem, e0]
          case o17 =>
            intro a w1 d Kx hd hG need old hsz hKx
            have e0 : a.tmps[13]?.getD undef = .int .i64 0 := by rw [← Array.getD_eq_getD_getElem?]; exact old 13 (by kernel_rfl)
            refine op_value (v := .int .i64 0) (wanted_of (j := 15) rfl (need 15 (by kernel_rfl) (by kernel_rfl)).2) ?_ (hKx _ w1 rfl hG (fun _ _ _ _ h => h))
            simp [execOp, go_sem, e0]
          case o18 =>
            intro a w1 d Kx hd hG need old hsz hKx
            have e0 : a.tmps[84]?.getD undef = .int .i64 0 := by rw [← Array.getD_eq_getD_getElem?]; exact (need 17 (by kernel_rfl) (by kernel_rfl)).2
            refine op_value (v := .bool false) (wanted_of (j := 15) rfl (need 15 (by kernel_rfl) (by kernel_rfl)).2) ?_ (hKx _ w1 rfl hG (fun _ _ _ _ h => h))
            simp [execOp, go_sem, e0]
          case o19 =>
            intro a w1 d Kx hd hG need old hsz hKx
            have e0 : a.tmps[85]?.getD undef = .bool false := by rw [← Array.getD_eq_getD_getElem?]; exact (need 18 (by kernel_rfl) (by kernel_rfl)).2
            refine op_value (v := .bool false) (wanted_of (j := 15) rfl (need 15 (by kernel_rfl) (by kernel_rfl)).2) ?_ (hKx _ w1 rfl hG (fun _ _ _ _ h => h))
            simp [execOp, go_sem, e0]
          case o20 =>
            intro a w1 d Kx hd hG need old hsz hKx
            exact skip_op (j := 19) rfl (need 19 (by kernel_rfl) (by kernel_rfl)).2 (by decide) (hKx undef w1 rfl hG (fun _ _ _ _ h => h))
          case o21 =>
            intro a w1 d Kx hd hG need old hsz hKx
            exact skip_op (j := 19) rfl (need 19 (by kernel_rfl) (by kernel_rfl)).2 (by decide) (hKx undef w1 rfl hG (fun _ _ _ _ h => h))
          case o22 =>
            intro a w1 d Kx hd hG need old hsz hKx
            exact skip_op (j := 19) rfl (need 19 (by kernel_rfl) (by kernel_rfl)).2 (by decide) (hKx undef w1 rfl hG (fun _ _ _ _ h => h))
          case o23 =>
            intro a w1 d Kx hd hG need old hsz hKx
            have e0 : a.tmps[86]?.getD undef = .bool false := by rw [← Array.getD_eq_getD_getElem?]; exact (need 19 (by kernel_rfl) (by kernel_rfl)).2
            refine op_value (v := .bool false) (wanted_of (j := 15) rfl (need 15 (by kernel_rfl) (by kernel_rfl)).2) ?_ (hKx _ w1 rfl hG (fun _ _ _ _ h => h))
            simp [execOp, go_sem, asBool, e0]
          case o24 =>
            intro a w1 d Kx hd hG need old hsz hKx
            have e0 : a.tmps[83]?.getD undef = .bool false := by rw [← Array.getD_eq_getD_getElem?]; exact (need 16 (by kernel_rfl) (by kernel_rfl)).2
            have e1 : a.tmps[90]?.getD undef = .bool false := by rw [← Array.getD_eq_getD_getElem?]; exact (need 23 (by kernel_rfl) (by kernel_rfl)).2
            refine op_value (v := .bool true) (wanted_of (j := 15) rfl (need 15 (by kernel_rfl) (by kernel_rfl)).2) ?_ (hKx _ w1 rfl hG (fun _ _ _ _ h => h))
            simp [execOp, go_sem, e0, e1]
          case o25 =>
            intro a w1 d Kx hd hG need old hsz hKx
            have e0 : a.tmps[82]?.getD undef = .bool true := by rw [← Array.getD_eq_getD_getElem?]; exact (need 15 (by kernel_rfl) (by kernel_rfl)).2
            have e1 : a.tmps[91]?.getD undef = .bool true := by rw [← Array.getD_eq_getD_getElem?]; exact (need 24 (by kernel_rfl) (by kernel_rfl)).2
            refine op_value (v := .bool true) (wanted_none rfl) ?_ (hKx _ w1 rfl hG (fun _ _ _ _ h => h))
            simp [execOp, go_sem, asBool, e0, e1]
          case o26 =>
            intro a w1 d Kx hd hG need old hsz hKx
            have e0 : a.tmps[92]?.getD undef = .bool true := by rw [← Array.getD_eq_getD_getElem?]; exact (need 25 (by kernel_rfl) (by kernel_rfl)).2
            refine op_value (v := .bool true) (wanted_none rfl) ?_ (hKx _ w1 rfl hG (fun _ _ _ _ h => h))
            simp [execOp, go_sem, e0]
          case o27 =>
            intro a w1 d Kx hd hG need old hsz hKx
            have e0 : a.tmps[9]?.getD undef = .pointer (some ⟨s, 0, none⟩) := by rw [← Array.getD_eq_getD_getElem?]; exact old 9 (by kernel_rfl)
            refine op_value (v := .pointer (some ⟨s, 0, none⟩)) (wanted_of (j := 26) rfl (need 26 (by kernel_rfl) (by kernel_rfl)).2) ?_ (hKx _ w1 rfl hG (fun _ _ _ _ h => h))
            simp [execOp, go_sem, e0]
          case o28 =>
            intro a w1 d Kx hd hG need old hsz hKx
            have e0 : a.tmps[94]?.getD undef = .pointer (some ⟨s, 0, none⟩) := by rw [← Array.getD_eq_getD_getElem?]; exact (need 27 (by kernel_rfl) (by kernel_rfl)).2
            refine op_call (wanted_of (j := 26) rfl (need 26 (by kernel_rfl) (by kernel_rfl)).2) (f := 18) (args := #[.pointer (some ⟨s, 0, none⟩)]) ?run ((m_seq (H11.out.grow (F := fun _ => False) (.of_below hG) fun _ k => k.elim) HGM.out.ok hfd).mono ?post)
            case run => simp [go_sem, e0]
            case post =>
              rintro e w2 ⟨rfl, hb⟩
              rw [HSQ1.out]
              exact ⟨_, rfl, hKx _ w2 rfl (hG.trans (hb.mono hG.size)) (fun _ _ _ _ h => h)⟩
          case o29 =>
            intro a w1 d Kx hd hG need old hsz hKx
            have e0 : a.tmps[2]?.getD undef = .pointer (some ⟨w.heap.size, 0, none⟩) := by rw [← Array.getD_eq_getD_getElem?]; exact old 2 (by kernel_rfl)
            refine op_value (v := .pointer (some ⟨w.heap.size, 1, none⟩)) (wanted_of (j := 26) rfl (need 26 (by kernel_rfl) (by kernel_rfl)).2) ?_ (hKx _ w1 rfl hG (fun _ _ _ _ h => h))
            simp [execOp, go_sem, e0]
          case o30 =>
            intro a w1 d Kx hd hG need old hsz hKx
            have e0 : a.tmps[96]?.getD undef = .pointer (some ⟨w.heap.size, 1, none⟩) := by rw [← Array.getD_eq_getD_getElem?]; exact (need 29 (by kernel_rfl) (by kernel_rfl)).2
            have k0 := (hG.cell (p := ⟨w.heap.size, 1, none⟩) hlw).trans Y1.out
            refine op_value (v := .int .i64 q) (wanted_of (j := 26) rfl (need 26 (by kernel_rfl) (by kernel_rfl)).2) ?_ (hKx _ w1 rfl hG (fun _ _ _ _ h => h))
            simp [execOp, go_sem, e0, k0]
          case o31 =>
            intro a w1 d Kx hd hG need old hsz hKx
            have e0 : a.tmps[95]?.getD undef = .int .i64 0 := by rw [← Array.getD_eq_getD_getElem?]; exact (need 28 (by kernel_rfl) (by kernel_rfl)).2
            have e1 : a.tmps[97]?.getD undef = .int .i64 q := by rw [← Array.getD_eq_getD_getElem?]; exact (need 30 (by kernel_rfl) (by kernel_rfl)).2
            refine op_value (v := .bool false) (wanted_of (j := 26) rfl (need 26 (by kernel_rfl) (by kernel_rfl)).2) ?_ (hKx _ w1 rfl hG (fun _ _ _ _ h => h))
            simp [execOp, go_sem, e0, e1]; omega
          case o32 =>
            intro a w1 d Kx hd hG need old hsz hKx
            have e0 : a.tmps[13]?.getD undef = .int .i64 0 := by rw [← Array.getD_eq_getD_getElem?]; exact old 13 (by kernel_rfl)
            refine op_value (v := .int .i64 0) (wanted_of (j := 26) rfl (need 26 (by kernel_rfl) (by kernel_rfl)).2) ?_ (hKx _ w1 rfl hG (fun _ _ _ _ h => h))
            simp [execOp, go_sem, e0]
          case o33 =>
            intro a w1 d Kx hd hG need old hsz hKx
            have e0 : a.tmps[99]?.getD undef = .int .i64 0 := by rw [← Array.getD_eq_getD_getElem?]; exact (need 32 (by kernel_rfl) (by kernel_rfl)).2
            refine op_value (v := .bool false) (wanted_of (j := 26) rfl (need 26 (by kernel_rfl) (by kernel_rfl)).2) ?_ (hKx _ w1 rfl hG (fun _ _ _ _ h => h))
            simp [execOp, go_sem, e0]
          case o34 =>
            intro a w1 d Kx hd hG need old hsz hKx
            have e0 : a.tmps[98]?.getD undef = .bool false := by rw [← Array.getD_eq_getD_getElem?]; exact (need 31 (by kernel_rfl) (by kernel_rfl)).2
            have e1 : a.tmps[100]?.getD undef = .bool false := by rw [← Array.getD_eq_getD_getElem?]; exact (need 33 (by kernel_rfl) (by kernel_rfl)).2
            refine op_value (v := .bool true) (wanted_of (j := 26) rfl (need 26 (by kernel_rfl) (by kernel_rfl)).2) ?_ (hKx _ w1 rfl hG (fun _ _ _ _ h => h))
            simp [execOp, go_sem, e0, e1]
          case o35 =>
            intro a w1 d Kx hd hG need old hsz hKx
            have e0 : a.tmps[93]?.getD undef = .bool true := by rw [← Array.getD_eq_getD_getElem?]; exact (need 26 (by kernel_rfl) (by kernel_rfl)).2
            have e1 : a.tmps[101]?.getD undef = .bool true := by rw [← Array.getD_eq_getD_getElem?]; exact (need 34 (by kernel_rfl) (by kernel_rfl)).2
            refine op_value (v := .bool true) (wanted_none rfl) ?_ (hKx _ w1 rfl hG (fun _ _ _ _ h => h))
            simp [execOp, go_sem, asBool, e0, e1]
          case o36 =>
            intro a w1 d Kx hd hG need old hsz hKx
            have e0 : a.tmps[102]?.getD undef = .bool true := by rw [← Array.getD_eq_getD_getElem?]; exact (need 35 (by kernel_rfl) (by kernel_rfl)).2
            refine op_value (v := .bool true) (wanted_none rfl) ?_ (hKx _ w1 rfl hG (fun _ _ _ _ h => h))
            simp [execOp, go_sem, e0]
          case o37 =>
            intro a w1 d Kx hd hG need old hsz hKx
            refine op_call (wanted_of (j := 36) rfl (need 36 (by kernel_rfl) (by kernel_rfl)).2) (f := 9) (args := #[]) ?run ((awake_any w1).mono ?post)
            case run => simp [go_sem]
            case post =>
              rintro e w2 ⟨rfl, hb⟩
              exact ⟨_, rfl, hKx _ w2 rfl (hG.trans (hb.mono hG.size)) (fun _ _ _ _ h => h)⟩
          case o38 =>
            intro a w1 d Kx hd hG need old hsz hKx
            have e0 : a.tmps[103]?.getD undef = .bool true := by rw [← Array.getD_eq_getD_getElem?]; exact (need 36 (by kernel_rfl) (by kernel_rfl)).2
            have e1 : a.tmps[104]?.getD undef = .bool true := by rw [← Array.getD_eq_getD_getElem?]; exact (need 37 (by kernel_rfl) (by kernel_rfl)).2
            refine op_value (v := .bool true) (wanted_none rfl) ?_ (hKx _ w1 rfl hG (fun _ _ _ _ h => h))
            simp [execOp, go_sem, asBool, e0, e1]
          case o39 =>
            intro a w1 d Kx hd hG need old hsz hKx
            have e0 : a.tmps[105]?.getD undef = .bool true := by rw [← Array.getD_eq_getD_getElem?]; exact (need 38 (by kernel_rfl) (by kernel_rfl)).2
            refine op_value (v := .bool true) (wanted_none rfl) ?_ (hKx _ w1 rfl hG (fun _ _ _ _ h => h))
            simp [execOp, go_sem, e0]
        case hend =>
          intro a w6_ d hG hφ hde hsz hold
          obtain rfl := act_puts [(67, .int .i64 2), (68, .bool true), (69, .bool true), (70, .bool true), (71, .bool true), (72, .bool true), (73, .int .i64 0), (74, .bool true), (75, .bool true), (76, .bool true), (77, .slice A9 0 c9), (78, .int .i64 0), (79, .int .i64 0), (80, .bool true), (81, .bool true), (82, .bool true), (83, .bool false), (84, .int .i64 0), (85, .bool false), (86, .bool false), (87, undef), (88, undef), (89, undef), (90, .bool false), (91, .bool true), (92, .bool true), (93, .bool true), (94, .pointer (some ⟨s, 0, none⟩)), (95, .int .i64 0), (96, .pointer (some ⟨w.heap.size, 1, none⟩)), (97, .int .i64 q), (98, .bool false), (99, .int .i64 0), (100, .bool false), (101, .bool true), (102, .bool true), (103, .bool true), (104, .bool true), (105, .bool true), (4, .bool true)] [67, 68, 69, 70, 71, 72, 73, 74, 75, 76, 77, 78, 79, 80, 81, 82, 83, 84, 85, 86, 87, 88, 89, 90, 91, 92, 93, 94, 95, 96, 97, 98, 99, 100, 101, 102, 103, 104, 105, 4] rfl (by kernel_rfl) (by kernel_rfl) hde hsz (List.forall_mem_cons.2 ⟨(show a.tmps.getD 67 undef = .int .i64 2 from (hφ 0 (by kernel_rfl)).2), (List.forall_mem_cons.2 ⟨(show a.tmps.getD 68 undef = .bool true from (hφ 1 (by kernel_rfl)).2), (List.forall_mem_cons.2 ⟨(show a.tmps.getD 69 undef = .bool true from (hφ 2 (by kernel_rfl)).2), (List.forall_mem_cons.2 ⟨(show a.tmps.getD 70 undef = .bool true from (hφ 3 (by kernel_rfl)).2), (List.forall_mem_cons.2 ⟨(show a.tmps.getD 71 undef = .bool true from (hφ 4 (by kernel_rfl)).2), (List.forall_mem_cons.2 ⟨(show a.tmps.getD 72 undef = .bool true from (hφ 5 (by kernel_rfl)).2), (List.forall_mem_cons.2 ⟨(show a.tmps.getD 73 undef = .int .i64 0 from (hφ 6 (by kernel_rfl)).2), (List.forall_mem_cons.2 ⟨(show a.tmps.getD 74 undef = .bool true from (hφ 7 (by kernel_rfl)).2), (List.forall_mem_cons.2 ⟨(show a.tmps.getD 75 undef = .bool true from (hφ 8 (by kernel_rfl)).2), (List.forall_mem_cons.2 ⟨(show a.tmps.getD 76 undef = .bool true from (hφ 9 (by kernel_rfl)).2), (List.forall_mem_cons.2 ⟨(show a.tmps.getD 77 undef = .slice A9 0 c9 from (hφ 10 (by kernel_rfl)).2), (List.forall_mem_cons.2 ⟨(show a.tmps.getD 78 undef = .int .i64 0 from (hφ 11 (by kernel_rfl)).2), (List.forall_mem_cons.2 ⟨(show a.tmps.getD 79 undef = .int .i64 0 from (hφ 12 (by kernel_rfl)).2), (List.forall_mem_cons.2 ⟨(show a.tmps.getD 80 undef = .bool true from (hφ 13 (by kernel_rfl)).2), (List.forall_mem_cons.2 ⟨(show a.tmps.getD 81 undef = .bool true from (hφ 14 (by kernel_rfl)).2), (List.forall_mem_cons.2 ⟨(show a.tmps.getD 82 undef = .bool true from (hφ 15 (by kernel_rfl)).2), (List.forall_mem_cons.2 ⟨(show a.tmps.getD 83 undef = .bool false from (hφ 16 (by kernel_rfl)).2), (List.forall_mem_cons.2 ⟨(show a.tmps.getD 84 undef = .int .i64 0 from (hφ 17 (by kernel_rfl)).2), (List.forall_mem_cons.2 ⟨(show a.tmps.getD 85 undef = .bool false from (hφ 18 (by kernel_rfl)).2), (List.forall_mem_cons.2 ⟨(show a.tmps.getD 86 undef = .bool false from (hφ 19 (by kernel_rfl)).2), (List.forall_mem_cons.2 ⟨(show a.tmps.getD 87 undef = undef from (hφ 20 (by kernel_rfl)).2), (List.forall_mem_cons.2 ⟨(show a.tmps.getD 88 undef = undef from (hφ 21 (by kernel_rfl)).2), (List.forall_mem_cons.2 ⟨(show a.tmps.getD 89 undef = undef from (hφ 22 (by kernel_rfl)).2), (List.forall_mem_cons.2 ⟨(show a.tmps.getD 90 undef = .bool false from (hφ 23 (by kernel_rfl)).2), (List.forall_mem_cons.2 ⟨(show a.tmps.getD 91 undef = .bool true from (hφ 24 (by kernel_rfl)).2), (List.forall_mem_cons.2 ⟨(show a.tmps.getD 92 undef = .bool true from (hφ 25 (by kernel_rfl)).2), (List.forall_mem_cons.2 ⟨(show a.tmps.getD 93 undef = .bool true from (hφ 26 (by kernel_rfl)).2), (List.forall_mem_cons.2 ⟨(show a.tmps.getD 94 undef = .pointer (some ⟨s, 0, none⟩) from (hφ 27 (by kernel_rfl)).2), (List.forall_mem_cons.2 ⟨(show a.tmps.getD 95 undef = .int .i64 0 from (hφ 28 (by kernel_rfl)).2), (List.forall_mem_cons.2 ⟨(show a.tmps.getD 96 undef = .pointer (some ⟨w.heap.size, 1, none⟩) from (hφ 29 (by kernel_rfl)).2), (List.forall_mem_cons.2 ⟨(show a.tmps.getD 97 undef = .int .i64 q from (hφ 30 (by kernel_rfl)).2), (List.forall_mem_cons.2 ⟨(show a.tmps.getD 98 undef = .bool false from (hφ 31 (by kernel_rfl)).2), (List.forall_mem_cons.2 ⟨(show a.tmps.getD 99 undef = .int .i64 0 from (hφ 32 (by kernel_rfl)).2), (List.forall_mem_cons.2 ⟨(show a.tmps.getD 100 undef = .bool false from (hφ 33 (by kernel_rfl)).2), (List.forall_mem_cons.2 ⟨(show a.tmps.getD 101 undef = .bool true from (hφ 34 (by kernel_rfl)).2), (List.forall_mem_cons.2 ⟨(show a.tmps.getD 102 undef = .bool true from (hφ 35 (by kernel_rfl)).2), (List.forall_mem_cons.2 ⟨(show a.tmps.getD 103 undef = .bool true from (hφ 36 (by kernel_rfl)).2), (List.forall_mem_cons.2 ⟨(show a.tmps.getD 104 undef = .bool true from (hφ 37 (by kernel_rfl)).2), (List.forall_mem_cons.2 ⟨(show a.tmps.getD 105 undef = .bool true from (hφ 38 (by kernel_rfl)).2), (List.forall_mem_cons.2 ⟨(show a.tmps.getD 4 undef = .bool true from (hφ 39 (by kernel_rfl)).2), (fun _ h => absurd h (by simp))⟩)⟩)⟩)⟩)⟩)⟩)⟩)⟩)⟩)⟩)⟩)⟩)⟩)⟩)⟩)⟩)⟩)⟩)⟩)⟩)⟩)⟩)⟩)⟩)⟩)⟩)⟩)⟩)⟩)⟩)⟩)⟩)⟩)⟩)⟩)⟩)⟩)⟩)⟩)⟩) hold
          clear hφ hold hsz hde
          simp only [putAll]
          go_frame
          go_wp2_with fail
          go_ret
          exact ⟨rfl, HBW.out.trans (hG.mono HBW.out.size)⟩
    · have HM := Lib.hid hM
      clear hM
      go_wp2_with fail
      rw [← hW0]
      refine (maysheet_any w.heap.size p q A c d _ D0.out (by omega)).mono ?_
      rintro e w1 ⟨rfl, hb1⟩
      rw [decide_eq_false HM.out]
      have HB1 := Lib.hid (HB0.out.trans (hb1.mono HB0.out.size))
      clear hb1
      go_wp2_with (go_at_call 9; refine (awake_any _).mono ?_; rintro e w2 ⟨rfl, hb2⟩; have HB2 := Lib.hid (HB1.out.trans (hb2.mono HB1.out.size)); clear hb2)
      go_ret
      exact ⟨rfl, HB2.out⟩
end
end Go.Proofs.Ytnadcdgpfopcaaa
