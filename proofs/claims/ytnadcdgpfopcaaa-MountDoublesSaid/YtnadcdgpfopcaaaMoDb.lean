/- MountDoubles: its walk. -/
import Derived.Test.YtnadcdgpfopcaaaMoPk
import Derived.Test.YtnadcdgpfopcaaaMoRf
namespace Go.Proofs.Ytnadcdgpfopcaaa
open Go.RowKit Go.Maps Go.Shelf

attribute [local go_sem] Oper.semAt_some
theorem neq_ref (a : P2) (w : World) : Sem.run Try.prog (binOp BinOp.neq 31 (P2V a) (P2V a)) w = .ok (.bool false) w := by
  simp [go_sem]
theorem cells4q {w : World} {g : Nat} {a b c d : Value} {t : TypeId} (h : w.heap[g]? = some (.cells #[a, b, c, d] t (0, 0))) : w.cell? ⟨g, 0, none⟩ = some a ∧ w.cell? ⟨g, 1, none⟩ = some b ∧ w.cell? ⟨g, 2, none⟩ = some c ∧ w.cell? ⟨g, 3, none⟩ = some d := by
  simp [World.cell?, h]
theorem twice_pages {xs : List Sh} {i j : Nat} (hi : i < xs.length) (hj : j < xs.length) (hn : (xs.map (·.1)).Nodup) (e : xs[i].1 = xs[j].1) : i = j := nodup_at hn (by simpa using hi) (by simpa using hj) (by simpa using e)
theorem nodup_more {xs : List Sh} {j : Nat} (hj : j < xs.length) (hn : ((xs.take j).map (·.1)).Nodup) (h : ∀ i, i < j → ∀ hi : i < xs.length, xs[i].1 ≠ xs[j].1) : ((xs.take (j + 1)).map (·.1)).Nodup := by
  rw [List.take_succ_eq_append_getElem hj, List.map_append, List.nodup_append]
  refine ⟨hn, by simp, fun a ha b hb e => ?_⟩
  obtain ⟨x, hx, rfl⟩ := List.mem_map.1 ha
  obtain ⟨i, hi, rfl⟩ := List.getElem_of_mem hx
  have hi2 : i < j ∧ i < xs.length := by simp at hi; omega
  rw [List.getElem_take] at e
  exact h i hi2.1 hi2.2 (by simpa using e.trans (by simpa using hb))
set_option maxRecDepth 100000 in
set_option maxHeartbeats 8000000 in
theorem doubles_law (A : Option Addr) (c : Nat) (l : List Shs) (k : Int) (up : Bool) (w : World) (h : ShLies w A l) (hl : l.length ≤ maxLen) (hlc : l.length ≤ c) :
    Calls Try.prog 3 #[.slice A l.length c, .int .i64 k, .bool up] w fun e w' => e = .returned (.bool true) ∧ Below w.heap.size w w' := by
  obtain ⟨i0, hi0, hz0, hs0, hby0⟩ := info_parts info_ref
  have HL := Lib.hid h
  have hmx : maxLen = 9223372036854775807 := rfl
  clear h
  obtain ⟨xs, hxs⟩ : ∃ xs, l.map Shs.sh = xs := ⟨_, rfl⟩
  have HXS := Lib.hid hxs
  have hxl : xs.length = l.length := by rw [← hxs]; simp
  have HXG : Hid (∀ i (h : i < l.length) (h2 : i < xs.length), xs[i] = l[i].sh) := Lib.hid fun i h h2 => by simp only [← hxs, List.getElem_map]
  clear hxs
  go_enter Try.func3, Try.ntmps3
  by_cases hsz : 32 < l.length
  · go_wp2_with (first
      | (go_at_call 9; refine (awake_any _).mono ?_; rintro e w1 ⟨rfl, hb1⟩; have HB1 := Lib.hid hb1; clear hb1)
      | fail)
    go_ret
    exact ⟨rfl, HB1.out⟩
  · have hsz2 : l.length ≤ 32 := by omega
    clear hsz
    cases hlt : lightL l with
    | false =>
      have HLT := Lib.hid hlt
      clear hlt
      go_wp2_with (first
        | (go_at_call 8; refine (light_any A c l _ HL.out hl).mono ?_; rintro e w1 ⟨rfl, hb1⟩; rw [HLT.out]; have HB1 := Lib.hid hb1; clear hb1)
        | (go_at_call 9; refine (awake_any _).mono ?_; rintro e w2 ⟨rfl, hb2⟩; have HB2 := Lib.hid (HB1.out.trans (hb2.mono HB1.out.size)); clear hb2)
        | fail)
      go_ret
      exact ⟨rfl, HB2.out⟩
    | true =>
      have HLT := Lib.hid hlt
      clear hlt
      go_wp2_with (first
        | (go_at_call 8; refine (light_any A c l _ HL.out hl).mono ?_; rintro e w1 ⟨rfl, hb1⟩; rw [HLT.out]; have HB1 := Lib.hid hb1; clear hb1)
        | fail)
      have hs1 := HB1.out.size
      go_loopw [7, 35] (fun v7 v35 wr => ∃ j : Nat, j ≤ l.length ∧ v35 = .int .i64 j ∧ ROwn wr w.heap.size v7 ((xs.take j).map refOf) ∧ (∀ x ∈ xs.take j, ShOk x) ∧ ((xs.take j).map (·.1)).Nodup ∧ Below w.heap.size w wr) (fun _ v35 _ => l.length - (intOf v35).toNat)
      case atStart => exact ⟨0, Nat.zero_le _, rfl, .nil _ _, by simp, by simp, HB1.out⟩
      case round =>
        obtain ⟨j, hj, rfl, hO, hok, hnd, hb⟩ := hrel
        have HB := Lib.hid hb
        have HO := Lib.hid hO
        have HOK := Lib.hid hok
        have HND := Lib.hid hnd
        have hs := hb.size
        clear hb hO hok hnd
        by_cases hjl : j < l.length
        · obtain ⟨⟨b, o, rfl, hbw, q0, q1, q2⟩, hrb0, hlc1, hlm, -⟩ := HL.out j hjl
          have k0 := (HB.out.cell (p := ⟨b, o + j * 3, none⟩) hbw).trans q0
          have k1 := (HB.out.cell (p := ⟨b, o + j * 3 + 1, none⟩) hbw).trans q1
          have k2 := (HB.out.cell (p := ⟨b, o + j * 3 + 2, none⟩) hbw).trans q2
          obtain ⟨d, hd⟩ : ∃ d, l[j] = d := ⟨_, rfl⟩
          rw [hd] at k0 k1 k2 hrb0 hlc1 hlm
          have hxj : xs[j] = d.sh := by rw [HXG.out j hjl (by omega), hd]
          have HXJ := Lib.hid hxj
          have HTK : Hid (xs.take (j + 1) = xs.take j ++ [d.sh]) := Lib.hid (by rw [List.take_succ_eq_append_getElem (by omega), hxj])
          obtain ⟨W1, hW1⟩ : ∃ W1, W1 = wr.alloc (.cells #[.int .i64 d.p, .int .i64 d.s, .slice d.A d.l.length d.c] 28) := ⟨_, rfl⟩
          have HB1' : Hid (Below wr.heap.size wr W1) := Lib.hid (by rw [hW1]; exact (Below.refl _ _).alloc (Nat.le_refl _) _)
          have HX1 : Hid (W1.heap[wr.heap.size]? = some (.cells #[.int .i64 d.p, .int .i64 d.s, .slice d.A d.l.length d.c] 28 (0, 0))) := Lib.hid (by rw [hW1]; exact heap_alloc_new _ _)
          have HW1 : Hid (Below w.heap.size w W1) := Lib.hid (HB.out.trans (HB1'.out.mono hs))
          have HR1 : Hid (RB W1 W1.heap.size d.A d.l) := Lib.hid ((hrb0.below HW1.out (Nat.le_refl _)).mono HW1.out.size)
          have hlx := lt_size HX1.out
          clear q0 q1 q2 hrb0 hd hxj
          go_upto_region 7 with fail
          rw [← hW1]
          clear hW1 k0 k1 k2
          obtain ⟨k0, k1, k2⟩ := cells3 HX1.out
          by_cases hM : MayS d.p d.s d.l
          · have HM := Lib.hid hM
            clear hM
            go_wp2_with (first
              | (go_at_call 10; refine (maysheet_any W1.heap.size d.p d.s d.A d.c d.l _ HR1.out (Nat.le_refl _)).mono ?_; rintro e w2 ⟨rfl, hb2⟩; rw [decide_eq_true HM.out]; have HB2 := Lib.hid hb2; have hx2 := (hb2.block wr.heap.size hlx).trans HX1.out; have HX2 := Lib.hid hx2; clear hb2 hx2)
              | fail)
            have hs2 := HB2.out.size
            have HW2 : Hid (Below w.heap.size w w2) := Lib.hid (HW1.out.trans (HB2.out.mono HW1.out.size))
            have HB02 : Hid (Below wr.heap.size wr w2) := Lib.hid (HB1'.out.trans (HB2.out.mono HB1'.out.size))
            obtain ⟨w0, rfl⟩ : ∃ w0, w0 = wr := ⟨_, rfl⟩
            go_loopw [48] (fun v48 wr => ∃ i : Nat, i ≤ j ∧ v48 = .int .i64 i ∧ (∀ m, m < i → ∀ hm : m < xs.length, xs[m].1 ≠ d.p) ∧ Below w2.heap.size w2 wr) (fun v48 _ => j - (intOf v48).toNat)
            case atStart => exact ⟨0, Nat.zero_le _, rfl, fun m hm => absurd hm (by omega), Below.refl _ _⟩
            case round =>
              obtain ⟨i, hij, rfl, hall, hbi⟩ := hrel
              have HBI := Lib.hid hbi
              have HA := Lib.hid hall
              have hsi := hbi.size
              have HWI : Hid (Below w.heap.size w wr) := Lib.hid (HW2.out.trans (hbi.mono HW2.out.size))
              have hx3 := (hbi.block w0.heap.size (by omega)).trans HX2.out
              obtain ⟨k0, k1, k2⟩ := cells3 hx3
              have hlx3 := lt_size hx3
              clear hbi hall hx3
              by_cases hi : i < j
              · obtain ⟨⟨b', o', e, hbw', q0, q1, q2⟩, -⟩ := HL.out i (by omega)
                cases e
                obtain ⟨d2, hd2⟩ : ∃ d2, l[i] = d2 := ⟨_, rfl⟩
                rw [hd2] at q0 q1 q2
                have HX2' : Hid (∀ h2 : i < xs.length, xs[i].1 = d2.p) := Lib.hid fun h2 => by rw [HXG.out i (by omega) h2, hd2]; rfl
                have m0 := (HWI.out.cell (p := ⟨b, o + i * 3, none⟩) hbw).trans q0
                have m1 := (HWI.out.cell (p := ⟨b, o + i * 3 + 1, none⟩) hbw).trans q1
                have m2 := (HWI.out.cell (p := ⟨b, o + i * 3 + 2, none⟩) hbw).trans q2
                clear q0 q1 q2 hd2
                by_cases he : d2.p = d.p
                · have ee : (d2.p == d.p) = true := by simpa using he
                  clear he
                  go_wp2_with (first
                    | (go_at_call 9; refine (awake_any _).mono ?_; rintro e w3 ⟨rfl, hb3⟩; have HB3 := Lib.hid hb3; clear hb3)
                    | fail)
                  go_ret
                  exact ⟨rfl, HWI.out.trans ((((Below.refl _ _).alloc (Nat.le_refl _) _).trans (HB3.out.mono (by simp))).mono HWI.out.size)⟩
                · have ee : (d2.p == d.p) = false := by simpa using he
                  have HE := Lib.hid he
                  clear he
                  go_wp2_with fail
                  go_roundw
                  case rel =>
                    refine ⟨i + 1, by omega, by go_num, fun m hm h2 => ?_, HBI.out.alloc hsi _⟩
                    by_cases em : m = i
                    · subst em
                      rw [HX2'.out h2]
                      exact HE.out
                    · exact HA.out m (by omega) h2
                  case measure => simp [intOf]; omega
              · obtain rfl : i = j := by omega
                have HO2 := Lib.hid (HO.out.keep (HB02.out.trans (HBI.out.mono HB02.out.size)))
                obtain ⟨rs, hrs⟩ : ∃ rs, (xs.take i).map refOf = rs := ⟨_, rfl⟩
                have hrl : rs.length = i := by rw [← hrs]; simp; omega
                have HRS : Hid ((xs.take (i + 1)).map refOf = rs ++ [(d.p, d.s)]) := Lib.hid (by rw [HTK.out, List.map_append, hrs]; rfl)
                rw [hrs] at HO2
                have hown := HO2.out
                unfold ROwn at hown
                rw [hrl] at hown
                obtain ⟨V, mv, hv, _⟩ := own_slice hown
                subst hv
                have HOW := Lib.hid hown
                have HJL := Lib.hid hrl
                obtain ⟨W3, hW3⟩ : ∃ W3, wr.alloc (.cells #[.int .i64 d.p, .int .i64 d.s] 31) = W3 := ⟨_, rfl⟩
                have HB3 : Hid (Below wr.heap.size wr W3) := Lib.hid (by rw [← hW3]; exact (Below.refl _ _).alloc (Nat.le_refl _) _)
                have HG3 : Hid (W3.heap[wr.heap.size]? = some (.cells #[.int .i64 d.p, .int .i64 d.s] 31 (0, 0))) := Lib.hid (by rw [← hW3]; exact heap_alloc_new _ _)
                have HOW3 : Hid (W3.ownsRow w.heap.size 31 2 (.slice V i mv) i (rcells rs)) := Lib.hid (own_keep HOW.out fun k e => HB3.out.block k (World.ownsRow.lt HOW.out k e).2)
                have hs3 : w.heap.size ≤ W3.heap.size := Nat.le_trans HWI.out.size HB3.out.size
                clear hrs hrl hown
                go_wp2_with (at_builtin; refine wpList_append_at rfl _ _ _ rfl w.heap.size 31 i0 _ 2 16 Try.underlying25 hi0 hz0 hs0 hby0 rfl (by decide) (.slice V i mv) i (rcells rs) rfl HOW3.out ⟨wr.heap.size, 0, none⟩ 1 1 [.int .i64 d.p, .int .i64 d.s] rfl rfl (fun k u hu => by match k, hu with | 0, hu => (simp at hu; subst hu; simp [World.cell?, HG3.out, Addr.add]) | 1, hu => (simp at hu; subst hu; simp [World.cell?, HG3.out, Addr.add]) | n + 2, hu => simp at hu) (fun u hu => by simp at hu; rcases hu with rfl | rfl <;> rfl) (by unfold maxLen; omega) (by omega) hs3 ?_; intro q3 cap3 w4 hown4 hg4 hob4)
                have HO4 : Hid (ROwn w4 w.heap.size (.slice q3 (i + 1) cap3) (rs ++ [(d.p, d.s)])) := Lib.hid (by unfold ROwn; rw [rcells_snoc, List.length_append, HJL.out]; exact hown4)
                have HB4 : Hid (Below w.heap.size w w4) := Lib.hid ((HWI.out.trans (HB3.out.mono HWI.out.size)).grown hg4 hs3 fun k e => (World.ownsRow.lt HOW3.out k e).1)
                clear hown4 hg4 hob4 hW3
                go_roundw
                case rel =>
                  refine ⟨i + 1, by omega, by go_num, by rw [HRS.out]; exact HO4.out, ?_, ?_, HB4.out⟩
                  · intro x hx
                    rw [HTK.out] at hx
                    rcases List.mem_append.1 hx with hx | hx
                    · exact HOK.out x hx
                    · rw [List.mem_singleton.1 hx]; exact HM.out
                  · exact nodup_more (by omega) HND.out fun m hm h2 => by rw [HXJ.out]; exact HA.out m hm h2
                case measure => simp [intOf]; omega
          · have HM := Lib.hid hM
            clear hM
            go_wp2_with (first
              | (go_at_call 10; refine (maysheet_any W1.heap.size d.p d.s d.A d.c d.l _ HR1.out (Nat.le_refl _)).mono ?_; rintro e w2 ⟨rfl, hb2⟩; rw [decide_eq_false HM.out]; have HB2 := Lib.hid hb2; clear hb2)
              | (go_at_call 9; refine (awake_any _).mono ?_; rintro e w3 ⟨rfl, hb3⟩; have HB3 := Lib.hid (HB2.out.trans (hb3.mono HB2.out.size)); clear hb3)
              | fail)
            go_ret
            exact ⟨rfl, HW1.out.trans (HB3.out.mono HW1.out.size)⟩
        · obtain rfl : j = l.length := by omega
          have htk : xs.take l.length = xs := List.take_of_length_le (by omega)
          rw [htk] at HO HOK HND
          obtain ⟨V, mv, hv, _⟩ := own_slice HO.out
          subst hv
          have hml : (xs.map refOf).length = l.length := by simp; omega
          rw [hml] at HO ⊢
          have HR : Hid (RLies wr V (xs.map refOf)) := Lib.hid (ROwn.lies (base := w.heap.size) (m := mv) (by rw [hml]; exact HO.out)).1
          obtain ⟨cN, hc1, hc2⟩ := u64_idx k (l.length + 1) (by omega) (by omega)
          rw [show ((l.length + 1 : Nat) : Int) = (l.length : Int) + 1 by omega] at hc2
          have HML := Lib.hid hml
          clear htk hml HO
          go_upto_region 18 with fail
          rw [hc2]
          clear hc2
          obtain ⟨wa, rfl⟩ : ∃ wa, wa = wr := ⟨_, rfl⟩
          cases up
          · go_wp2_with (first
              | (go_at_call 11; refine (held_new 3 32 none 0 [] (fun h => absurd h (by simp)) (by simp) (by decide) (by decide) (by decide) (by decide)).mono ?_; rintro e w2 ⟨ch, rfl, hH, hB⟩; have HB2 : Hid (Below wa.heap.size wa w2) := Lib.hid hB; have HH : Hid (ChipIs w2 ch (fun b => b < wa.heap.size) 3 32 (twoF 0 2 [] []) 0) := Lib.hid ⟨_, hH, by rw [twoF_nil]; exact laid_new 3 32⟩; clear hH hB)
              | fail)
            go_loopw [80] (fun v80 wr => ∃ j : Nat, j ≤ l.length ∧ v80 = .int .i64 j ∧ ChipIs wr ch (fun b => b < wa.heap.size) 3 32 (twoF 0 2 (xs.take j) (xs.take (min j cN))) 0 ∧ Below wa.heap.size wa wr) (fun v80 _ => l.length - (intOf v80).toNat)
            case atStart => exact ⟨0, Nat.zero_le _, rfl, by simpa using HH.out, HB2.out⟩
            case round =>
              obtain ⟨j, hj, rfl, hch, hb⟩ := hrel
              have HBA := Lib.hid hb
              have HBW : Hid (Below w.heap.size w wr) := Lib.hid (HB.out.trans (hb.mono hs))
              have hsa := hb.size
              obtain ⟨S, hS, hLa⟩ := hch
              have HS := Lib.hid hS
              have HLa := Lib.hid hLa
              clear hb hS hLa
              by_cases hjl : j < l.length
              · obtain ⟨⟨b, o, rfl, hbw, q0, q1, q2⟩, hrb0, hlc1, hlm, -⟩ := HL.out j hjl
                have k0 := (HBW.out.cell (p := ⟨b, o + j * 3, none⟩) hbw).trans q0
                have k1 := (HBW.out.cell (p := ⟨b, o + j * 3 + 1, none⟩) hbw).trans q1
                have k2 := (HBW.out.cell (p := ⟨b, o + j * 3 + 2, none⟩) hbw).trans q2
                obtain ⟨d, hd⟩ : ∃ d, l[j] = d := ⟨_, rfl⟩
                rw [hd] at k0 k1 k2 hrb0 hlc1 hlm
                have hxj : xs[j] = d.sh := by rw [HXG.out j hjl (by omega), hd]
                have HM : Hid (MayS d.p d.s d.l) := Lib.hid (by have := HOK.out _ (List.getElem_mem (show j < xs.length by omega)); rw [hxj] at this; exact this)
                have HTK : Hid (xs.take (j + 1) = xs.take j ++ [d.sh]) := Lib.hid (by rw [List.take_succ_eq_append_getElem (by omega), hxj])
                obtain ⟨W1, hW1⟩ : ∃ W1, W1 = wr.alloc (.cells #[.int .i64 d.p, .int .i64 d.s, .slice d.A d.l.length d.c] 28) := ⟨_, rfl⟩
                have HB1' : Hid (Below wr.heap.size wr W1) := Lib.hid (by rw [hW1]; exact (Below.refl _ _).alloc (Nat.le_refl _) _)
                have HW1 : Hid (Below w.heap.size w W1) := Lib.hid (HBW.out.trans (HB1'.out.mono HBW.out.size))
                have HR1 : Hid (RB W1 W1.heap.size d.A d.l) := Lib.hid ((hrb0.below HW1.out (Nat.le_refl _)).mono HW1.out.size)
                clear q0 q1 q2 hrb0 hd hxj
                go_wp2_with fail
                rw [← hW1]
                clear hW1 k0 k1 k2
                refine (refsheet_any W1.heap.size d.p d.s d.A d.c d.l _ HR1.out (Nat.le_refl _)).mono ?_
                rintro e w4 ⟨A4, c4, L4, er, rfl, hL4, her, hl4, hr4, hf4, hb4⟩
                have HB4 : Hid (Below wr.heap.size wr w4) := Lib.hid (HB1'.out.trans (hb4.mono HB1'.out.size))
                have HCB : Hid (CB w4 (fun b => b < wa.heap.size ∨ New wr w4 b) A4 L4) := Lib.hid (cb_new hr4 fun ad e => Nat.le_trans HB1'.out.size (hf4 ad e))
                rw [if_pos HM.out] at her
                subst her
                have HLS : Hid (L4 = shL d.sh) := Lib.hid (by rw [hL4.out, if_pos HM.out]; rfl)
                have HH4 := Lib.hid (HS.out.more HB4.out)
                have hFa : (twoF 0 2 (xs.take j) (xs.take (min j cN)) 0).length = j := by rw [twoF_a, List.length_take]; omega
                obtain ⟨S1, hp1, hp2, -⟩ := HLa.out.prog (b := 0) (x := d.sh) (by decide) (by rw [hFa]; omega) HM.out
                rw [hFa, ← HLS.out] at hp1
                rw [twoF_upda, ← HTK.out] at hp2
                have HP1 : Hid (progL S 0 j L4 = (0, S1)) := Lib.hid hp1
                have HP2 := Lib.hid hp2
                clear hb4 hr4 hf4 hL4 hp1 hp2 hFa
                by_cases hjc : j < cN
                · have hFb : (twoF 0 2 (xs.take (j + 1)) (xs.take (min j cN)) 2).length = j := by rw [twoF_b (by decide), List.length_take]; omega
                  obtain ⟨S2, hp1, hp2, -⟩ := HP2.out.prog (b := 2) (x := d.sh) (by decide) (by rw [hFb]; omega) HM.out
                  rw [hFb, ← HLS.out] at hp1
                  rw [twoF_updb (by decide), show min j cN = j by omega, ← HTK.out, show j + 1 = min (j + 1) cN by omega] at hp2
                  have HP3 : Hid (progL S1 2 j L4 = (0, S2)) := Lib.hid hp1
                  have HP4 := Lib.hid hp2
                  clear hp1 hp2 hFb
                  go_wp2_with (first
                    | (go_at_call 13; (with_reducible refine (held_prog A4 c4 L4 0 j HH4.out HCB.out).mono ?_); rw [HP1.out]; rintro e w5 ⟨rfl, hh5, hsf5⟩; have HH5 := Lib.hid hh5; have HS5 := Lib.hid hsf5; have HCB5 := Lib.hid (HCB.out.keep (fun b hb => hsf5.block (HH4.out.there b hb) hb) fun _ hb => hb); clear hh5 hsf5)
                    | (go_at_call 13; (with_reducible refine (held_prog A4 c4 L4 2 j HH5.out HCB5.out).mono ?_); rw [HP3.out]; rintro e w6 ⟨rfl, hh6, hsf6⟩; have HH6 := Lib.hid hh6; have HS6 := Lib.hid (Safe.then HS5.out hsf6); clear hh6 hsf6)
                    | fail)
                  go_roundw
                  case rel => exact ⟨j + 1, by omega, by go_num, ⟨_, HH6.out.less fun b hb => .inl hb, by have := HP4.out; rwa [← show j + 1 = min (j + 1) cN by omega] at this ⊢⟩, safe_below (HBA.out.trans (HB4.out.mono hsa)) HS6.out fun b hb => .inl hb⟩
                  case measure => simp [intOf]; omega
                · go_wp2_with (first
                    | (go_at_call 13; (with_reducible refine (held_prog A4 c4 L4 0 j HH4.out HCB.out).mono ?_); rw [HP1.out]; rintro e w5 ⟨rfl, hh5, hsf5⟩; have HH5 := Lib.hid hh5; have HS5 := Lib.hid hsf5; clear hh5 hsf5)
                    | fail)
                  go_roundw
                  case rel => exact ⟨j + 1, by omega, by go_num, ⟨_, HH5.out.less fun b hb => .inl hb, by have := HP2.out; rwa [show min j cN = min (j + 1) cN by omega] at this⟩, safe_below (HBA.out.trans (HB4.out.mono hsa)) HS5.out fun b hb => .inl hb⟩
                  case measure => simp [intOf]; omega
              · obtain rfl : j = l.length := by omega
                have htk : xs.take l.length = xs := List.take_of_length_le (by omega)
                have hmn : min l.length cN = cN := by omega
                have hla := HLa.out
                rw [htk, hmn] at hla
                obtain ⟨hseen, hg0, hdk⟩ := seen_all HS.out hla (by omega) (by omega) (by omega) 1000 (by decide)
                have hblen : 1 ≤ S.bl.length := by rw [hla.len]; decide
                have HWF := Lib.hid (hla.fd_wf (by omega) (by omega))
                have HG0 := Lib.hid hg0
                have HDK := Lib.hid hdk
                obtain ⟨M, hMe⟩ : ∃ M, (startM S).stepped 1000 = M := ⟨_, rfl⟩
                rw [hMe] at hseen
                have HME := Lib.hid hMe
                have hwfm : ∀ f ∈ M.fd, WfP f.1 ∧ WfP f.2 ∧ 0 ≤ f.2.1 ∧ f.2.1 < M.B := by rw [hseen.fd, hseen.B]; exact HWF.out
                have hfdl : M.fd.length ≤ 1000 := by
                  rw [hseen.fd]
                  have := fd_len 3 (twoF 0 2 xs (xs.take cN)) 32 hla.le
                  omega
                obtain ⟨D, hD, hz1, hz2⟩ := picks_two (c := cN) hseen.thr hseen.B (by decide) hseen.fd HND.out (by omega)
                have HP1 := Lib.hid hz1
                have HP2 := Lib.hid hz2
                have HSE := Lib.hid hseen
                have HFD := Lib.hid (And.intro hfdl hwfm)
                have hwl : ∀ r ∈ xs.map refOf, WfP r := by
                  intro r hr
                  obtain ⟨x, hx, rfl⟩ := List.mem_map.1 hr
                  obtain ⟨⟨m1, m2⟩, ⟨m3, m4⟩, -⟩ := HOK.out x hx
                  exact wfp_of ⟨by show -9223372036854775808 ≤ x.1; omega, by show x.1 ≤ _; omega⟩ ⟨by show _ ≤ x.2.1; omega, by show x.2.1 ≤ _; omega⟩
                have HWL := Lib.hid hwl
                clear htk hmn hla hseen hg0 hdk hMe hwfm hfdl hz1 hz2 hwl
                go_wp2_with (first
                  | (go_at_call 14; refine (m_new HS.out hblen).mono ?_; rintro e w7 ⟨s, rfl, hsc, hb7⟩; have HSC := Lib.hid hsc; have HB7 : Hid (Below wa.heap.size wa w7) := Lib.hid (HBA.out.trans (hb7.mono hsa)); clear hsc hb7)
                  | fail)
                go_wp2_with (first
                  | (go_at_call 15; refine (m_step 1000 HSC.out HG0.out (by decide) HDK.out).mono ?_; rw [HME.out]; rintro e w8 ⟨rfl, hsc, hsf⟩; rw [HSE.out.thr]; have HSC8 := Lib.hid hsc; have HB8 : Hid (Below wa.heap.size wa w8) := Lib.hid (safe_below HB7.out hsf fun b hb => .inl hb); clear hsc hsf)
                  | fail)
                obtain ⟨Y8, v8, A8, cap8, h8, f8⟩ := HSC8.out
                have H8 := Lib.hid h8
                have HR8 := Lib.hid (HR.out.below HB8.out)
                have hpl : (M.pickF (xs.map refOf)).length = l.length := by rw [HP1.out, fdL_length]; exact hxl
                have HPL := Lib.hid hpl
                clear h8 f8 hpl
                go_upto_region 32 with (first
                  | (go_at_call 16; rw [← HML.out]; refine (m_pick H8.out HSE.out.good.ok HFD.out.2 HFD.out.1 V mv (xs.map refOf) HR8.out (by simp; omega) HWL.out).mono ?_; rintro e w9 ⟨A9, c9, rfl, fl9, -, -, hb9⟩; rw [HPL.out, HP2.out]; rw [HP1.out] at fl9; have HF9 := Lib.hid fl9; have HB9 : Hid (Below wa.heap.size wa w9) := Lib.hid (HB8.out.trans (hb9.mono HB8.out.size)); have HR9 := Lib.hid (HR8.out.below hb9); clear hb9 fl9)
                  | fail)
                have HB9w : Hid (Below w.heap.size w w9) := Lib.hid (HB.out.trans (HB9.out.mono hs))
                have hs9 := HB9w.out.size
                obtain ⟨wb, rfl⟩ : ∃ wb, wb = wr := ⟨_, rfl⟩
                go_wp2_with fail
                go_loopw [133] (fun v133 wr => ∃ i : Nat, i ≤ l.length ∧ v133 = .int .i64 i ∧ Below w9.heap.size w9 wr) (fun v133 _ => l.length - (intOf v133).toNat)
                case atStart => exact ⟨0, Nat.zero_le _, rfl, Below.refl _ _⟩
                case round =>
                  obtain ⟨i, hi, rfl, hbi⟩ := hrel
                  have HBI := Lib.hid hbi
                  have hsi := hbi.size
                  clear hbi
                  by_cases hil : i < l.length
                  · have hix : i < xs.length := by omega
                    obtain ⟨B9, o9, rfl, hB9, hc9⟩ := HF9.out (by rw [fdL_length]; omega)
                    obtain ⟨BV, oV, rfl, hBV, hcV⟩ := HR9.out (by simp; omega)
                    have e9 : ∀ m (hm : m < xs.length) (hm2 : m < (fdL (D : Int) 0 xs).length), (fdL (D : Int) 0 xs)[m] = ((xs[m].1, xs[m].2.1), ((D : Int), (m : Int))) := fun m hm hm2 => by
                      have := fdL_get (D : Int) xs 0 m hm
                      rw [List.getElem?_eq_getElem hm2] at this
                      rw [Option.some.inj this, Nat.zero_add]
                    obtain ⟨p0, p1, p2, p3⟩ := hc9 i (by rw [fdL_length]; exact hix)
                    obtain ⟨-, -, z2, -⟩ := hc9 0 (by rw [fdL_length]; omega)
                    obtain ⟨r0, r1⟩ := hcV i (by simp; exact hix)
                    rw [e9 i hix] at p0 p1 p2 p3
                    rw [e9 0 (by omega)] at z2
                    simp only [Nat.zero_mul, Nat.add_zero] at z2
                    simp only [List.getElem_map] at r0 r1
                    obtain ⟨a1, ha1⟩ : ∃ a1, xs[i].1 = a1 := ⟨_, rfl⟩
                    obtain ⟨a2, ha2⟩ : ∃ a2, xs[i].2.1 = a2 := ⟨_, rfl⟩
                    rw [ha1] at p0 r0
                    rw [ha2] at p1 r1
                    have kp : ∀ (a : Nat) u, w9.cell? ⟨B9, a, none⟩ = some u → wr.cell? ⟨B9, a, none⟩ = some u := fun a u e => (HBI.out.cell (p := ⟨B9, a, none⟩) hB9).trans e
                    have kv : ∀ (a : Nat) u, w9.cell? ⟨BV, a, none⟩ = some u → wr.cell? ⟨BV, a, none⟩ = some u := fun a u e => (HBI.out.cell (p := ⟨BV, a, none⟩) hBV).trans e
                    obtain ⟨W5, hW5⟩ : ∃ W5, W5 = wr.alloc (.cells #[.int .i64 a1, .int .i64 a2, .int .i64 D, .int .i64 i] 49) := ⟨_, rfl⟩
                    have HB5 : Hid (Below wr.heap.size wr W5) := Lib.hid (by rw [hW5]; exact (Below.refl _ _).alloc (Nat.le_refl _) _)
                    have HX5 : Hid (W5.heap[wr.heap.size]? = some (.cells #[.int .i64 a1, .int .i64 a2, .int .i64 D, .int .i64 i] 49 (0, 0))) := Lib.hid (by rw [hW5]; exact heap_alloc_new _ _)
                    have K0 := kp _ _ p0
                    have K1 := kp _ _ p1
                    have K2 := kp _ _ p2
                    have K3 := kp _ _ p3
                    have HZ2 := Lib.hid (kp _ _ z2)
                    have HR0 := Lib.hid (kv _ _ r0)
                    have HR1 := Lib.hid (kv _ _ r1)
                    clear p0 p1 p2 p3 z2 r0 r1 kp kv e9 hc9 hcV ha1 ha2
                    go_upto_region 37 with fail
                    rw [← hW5]
                    clear hW5 K0 K1 K2 K3
                    obtain ⟨b0, b1, b2, b3⟩ := cells4q HX5.out
                    have hlx := lt_size HX5.out
                    have Z2 := (HB5.out.cell (p := ⟨B9, o9 + 2, none⟩) (by show B9 < wr.heap.size; omega)).trans HZ2.out
                    have R0 := (HB5.out.cell (p := ⟨BV, oV + i * 2, none⟩) (by show BV < wr.heap.size; omega)).trans HR0.out
                    have R1 := (HB5.out.cell (p := ⟨BV, oV + i * 2 + 1, none⟩) (by show BV < wr.heap.size; omega)).trans HR1.out
                    have hnq := neq_ref (a1, a2)
                    go_quiet (fail)
                    go_wp2_with fail
                    go_roundw
                    case rel => exact ⟨i + 1, by omega, by go_num, HBI.out.trans ((HB5.out.trans (drewN_below (Below.refl _ _) _)).mono hsi)⟩
                    case measure => simp [intOf]; omega
                  · obtain rfl : i = l.length := by omega
                    go_wp2_with (first
                      | (go_at_call 9; refine (awake_any _).mono ?_; rintro e w10 ⟨rfl, hb10⟩; have HB10 := Lib.hid hb10; clear hb10)
                      | fail)
                    go_ret
                    exact ⟨rfl, (HB9w.out.trans (HBI.out.mono hs9)).trans (HB10.out.mono (by omega))⟩
          · go_wp2_with (first
              | (go_at_call 11; refine (held_new 3 32 none 0 [] (fun h => absurd h (by simp)) (by simp) (by decide) (by decide) (by decide) (by decide)).mono ?_; rintro e w2 ⟨ch, rfl, hH, hB⟩; have HB2 : Hid (Below wa.heap.size wa w2) := Lib.hid hB; have HH : Hid (ChipIs w2 ch (fun b => b < wa.heap.size) 3 32 (twoF 2 0 [] []) 0) := Lib.hid ⟨_, hH, by rw [twoF_nil]; exact laid_new 3 32⟩; clear hH hB)
              | fail)
            go_loopw [80] (fun v80 wr => ∃ j : Nat, j ≤ l.length ∧ v80 = .int .i64 j ∧ ChipIs wr ch (fun b => b < wa.heap.size) 3 32 (twoF 2 0 (xs.take j) (xs.take (min j cN))) 0 ∧ Below wa.heap.size wa wr) (fun v80 _ => l.length - (intOf v80).toNat)
            case atStart => exact ⟨0, Nat.zero_le _, rfl, by simpa using HH.out, HB2.out⟩
            case round =>
              obtain ⟨j, hj, rfl, hch, hb⟩ := hrel
              have HBA := Lib.hid hb
              have HBW : Hid (Below w.heap.size w wr) := Lib.hid (HB.out.trans (hb.mono hs))
              have hsa := hb.size
              obtain ⟨S, hS, hLa⟩ := hch
              have HS := Lib.hid hS
              have HLa := Lib.hid hLa
              clear hb hS hLa
              by_cases hjl : j < l.length
              · obtain ⟨⟨b, o, rfl, hbw, q0, q1, q2⟩, hrb0, hlc1, hlm, -⟩ := HL.out j hjl
                have k0 := (HBW.out.cell (p := ⟨b, o + j * 3, none⟩) hbw).trans q0
                have k1 := (HBW.out.cell (p := ⟨b, o + j * 3 + 1, none⟩) hbw).trans q1
                have k2 := (HBW.out.cell (p := ⟨b, o + j * 3 + 2, none⟩) hbw).trans q2
                obtain ⟨d, hd⟩ : ∃ d, l[j] = d := ⟨_, rfl⟩
                rw [hd] at k0 k1 k2 hrb0 hlc1 hlm
                have hxj : xs[j] = d.sh := by rw [HXG.out j hjl (by omega), hd]
                have HM : Hid (MayS d.p d.s d.l) := Lib.hid (by have := HOK.out _ (List.getElem_mem (show j < xs.length by omega)); rw [hxj] at this; exact this)
                have HTK : Hid (xs.take (j + 1) = xs.take j ++ [d.sh]) := Lib.hid (by rw [List.take_succ_eq_append_getElem (by omega), hxj])
                obtain ⟨W1, hW1⟩ : ∃ W1, W1 = wr.alloc (.cells #[.int .i64 d.p, .int .i64 d.s, .slice d.A d.l.length d.c] 28) := ⟨_, rfl⟩
                have HB1' : Hid (Below wr.heap.size wr W1) := Lib.hid (by rw [hW1]; exact (Below.refl _ _).alloc (Nat.le_refl _) _)
                have HW1 : Hid (Below w.heap.size w W1) := Lib.hid (HBW.out.trans (HB1'.out.mono HBW.out.size))
                have HR1 : Hid (RB W1 W1.heap.size d.A d.l) := Lib.hid ((hrb0.below HW1.out (Nat.le_refl _)).mono HW1.out.size)
                clear q0 q1 q2 hrb0 hd hxj
                go_wp2_with fail
                rw [← hW1]
                clear hW1 k0 k1 k2
                refine (refsheet_any W1.heap.size d.p d.s d.A d.c d.l _ HR1.out (Nat.le_refl _)).mono ?_
                rintro e w4 ⟨A4, c4, L4, er, rfl, hL4, her, hl4, hr4, hf4, hb4⟩
                have HB4 : Hid (Below wr.heap.size wr w4) := Lib.hid (HB1'.out.trans (hb4.mono HB1'.out.size))
                have HCB : Hid (CB w4 (fun b => b < wa.heap.size ∨ New wr w4 b) A4 L4) := Lib.hid (cb_new hr4 fun ad e => Nat.le_trans HB1'.out.size (hf4 ad e))
                rw [if_pos HM.out] at her
                subst her
                have HLS : Hid (L4 = shL d.sh) := Lib.hid (by rw [hL4.out, if_pos HM.out]; rfl)
                have HH4 := Lib.hid (HS.out.more HB4.out)
                have hFa : (twoF 2 0 (xs.take j) (xs.take (min j cN)) 2).length = j := by rw [twoF_a, List.length_take]; omega
                obtain ⟨S1, hp1, hp2, -⟩ := HLa.out.prog (b := 2) (x := d.sh) (by decide) (by rw [hFa]; omega) HM.out
                rw [hFa, ← HLS.out] at hp1
                rw [twoF_upda, ← HTK.out] at hp2
                have HP1 : Hid (progL S 2 j L4 = (0, S1)) := Lib.hid hp1
                have HP2 := Lib.hid hp2
                clear hb4 hr4 hf4 hL4 hp1 hp2 hFa
                by_cases hjc : j < cN
                · have hFb : (twoF 2 0 (xs.take (j + 1)) (xs.take (min j cN)) 0).length = j := by rw [twoF_b (by decide), List.length_take]; omega
                  obtain ⟨S2, hp1, hp2, -⟩ := HP2.out.prog (b := 0) (x := d.sh) (by decide) (by rw [hFb]; omega) HM.out
                  rw [hFb, ← HLS.out] at hp1
                  rw [twoF_updb (by decide), show min j cN = j by omega, ← HTK.out, show j + 1 = min (j + 1) cN by omega] at hp2
                  have HP3 : Hid (progL S1 0 j L4 = (0, S2)) := Lib.hid hp1
                  have HP4 := Lib.hid hp2
                  clear hp1 hp2 hFb
                  go_wp2_with (first
                    | (go_at_call 13; (with_reducible refine (held_prog A4 c4 L4 2 j HH4.out HCB.out).mono ?_); rw [HP1.out]; rintro e w5 ⟨rfl, hh5, hsf5⟩; have HH5 := Lib.hid hh5; have HS5 := Lib.hid hsf5; have HCB5 := Lib.hid (HCB.out.keep (fun b hb => hsf5.block (HH4.out.there b hb) hb) fun _ hb => hb); clear hh5 hsf5)
                    | (go_at_call 13; (with_reducible refine (held_prog A4 c4 L4 0 j HH5.out HCB5.out).mono ?_); rw [HP3.out]; rintro e w6 ⟨rfl, hh6, hsf6⟩; have HH6 := Lib.hid hh6; have HS6 := Lib.hid (Safe.then HS5.out hsf6); clear hh6 hsf6)
                    | fail)
                  go_roundw
                  case rel => exact ⟨j + 1, by omega, by go_num, ⟨_, HH6.out.less fun b hb => .inl hb, by have := HP4.out; rwa [← show j + 1 = min (j + 1) cN by omega] at this ⊢⟩, safe_below (HBA.out.trans (HB4.out.mono hsa)) HS6.out fun b hb => .inl hb⟩
                  case measure => simp [intOf]; omega
                · go_wp2_with (first
                    | (go_at_call 13; (with_reducible refine (held_prog A4 c4 L4 2 j HH4.out HCB.out).mono ?_); rw [HP1.out]; rintro e w5 ⟨rfl, hh5, hsf5⟩; have HH5 := Lib.hid hh5; have HS5 := Lib.hid hsf5; clear hh5 hsf5)
                    | fail)
                  go_roundw
                  case rel => exact ⟨j + 1, by omega, by go_num, ⟨_, HH5.out.less fun b hb => .inl hb, by have := HP2.out; rwa [show min j cN = min (j + 1) cN by omega] at this⟩, safe_below (HBA.out.trans (HB4.out.mono hsa)) HS5.out fun b hb => .inl hb⟩
                  case measure => simp [intOf]; omega
              · obtain rfl : j = l.length := by omega
                have htk : xs.take l.length = xs := List.take_of_length_le (by omega)
                have hmn : min l.length cN = cN := by omega
                have hla := HLa.out
                rw [htk, hmn] at hla
                obtain ⟨hseen, hg0, hdk⟩ := seen_all HS.out hla (by omega) (by omega) (by omega) 1000 (by decide)
                have hblen : 1 ≤ S.bl.length := by rw [hla.len]; decide
                have HWF := Lib.hid (hla.fd_wf (by omega) (by omega))
                have HG0 := Lib.hid hg0
                have HDK := Lib.hid hdk
                obtain ⟨M, hMe⟩ : ∃ M, (startM S).stepped 1000 = M := ⟨_, rfl⟩
                rw [hMe] at hseen
                have HME := Lib.hid hMe
                have hwfm : ∀ f ∈ M.fd, WfP f.1 ∧ WfP f.2 ∧ 0 ≤ f.2.1 ∧ f.2.1 < M.B := by rw [hseen.fd, hseen.B]; exact HWF.out
                have hfdl : M.fd.length ≤ 1000 := by
                  rw [hseen.fd]
                  have := fd_len 3 (twoF 2 0 xs (xs.take cN)) 32 hla.le
                  omega
                obtain ⟨D, hD, hz1, hz2⟩ := picks_two (c := cN) hseen.thr hseen.B (by decide) hseen.fd HND.out (by omega)
                have HP1 := Lib.hid hz1
                have HP2 := Lib.hid hz2
                have HSE := Lib.hid hseen
                have HFD := Lib.hid (And.intro hfdl hwfm)
                have hwl : ∀ r ∈ xs.map refOf, WfP r := by
                  intro r hr
                  obtain ⟨x, hx, rfl⟩ := List.mem_map.1 hr
                  obtain ⟨⟨m1, m2⟩, ⟨m3, m4⟩, -⟩ := HOK.out x hx
                  exact wfp_of ⟨by show -9223372036854775808 ≤ x.1; omega, by show x.1 ≤ _; omega⟩ ⟨by show _ ≤ x.2.1; omega, by show x.2.1 ≤ _; omega⟩
                have HWL := Lib.hid hwl
                clear htk hmn hla hseen hg0 hdk hMe hwfm hfdl hz1 hz2 hwl
                go_wp2_with (first
                  | (go_at_call 14; refine (m_new HS.out hblen).mono ?_; rintro e w7 ⟨s, rfl, hsc, hb7⟩; have HSC := Lib.hid hsc; have HB7 : Hid (Below wa.heap.size wa w7) := Lib.hid (HBA.out.trans (hb7.mono hsa)); clear hsc hb7)
                  | fail)
                go_wp2_with (first
                  | (go_at_call 15; refine (m_step 1000 HSC.out HG0.out (by decide) HDK.out).mono ?_; rw [HME.out]; rintro e w8 ⟨rfl, hsc, hsf⟩; rw [HSE.out.thr]; have HSC8 := Lib.hid hsc; have HB8 : Hid (Below wa.heap.size wa w8) := Lib.hid (safe_below HB7.out hsf fun b hb => .inl hb); clear hsc hsf)
                  | fail)
                obtain ⟨Y8, v8, A8, cap8, h8, f8⟩ := HSC8.out
                have H8 := Lib.hid h8
                have HR8 := Lib.hid (HR.out.below HB8.out)
                have hpl : (M.pickF (xs.map refOf)).length = l.length := by rw [HP1.out, fdL_length]; exact hxl
                have HPL := Lib.hid hpl
                clear h8 f8 hpl
                go_upto_region 32 with (first
                  | (go_at_call 16; rw [← HML.out]; refine (m_pick H8.out HSE.out.good.ok HFD.out.2 HFD.out.1 V mv (xs.map refOf) HR8.out (by simp; omega) HWL.out).mono ?_; rintro e w9 ⟨A9, c9, rfl, fl9, -, -, hb9⟩; rw [HPL.out, HP2.out]; rw [HP1.out] at fl9; have HF9 := Lib.hid fl9; have HB9 : Hid (Below wa.heap.size wa w9) := Lib.hid (HB8.out.trans (hb9.mono HB8.out.size)); have HR9 := Lib.hid (HR8.out.below hb9); clear hb9 fl9)
                  | fail)
                have HB9w : Hid (Below w.heap.size w w9) := Lib.hid (HB.out.trans (HB9.out.mono hs))
                have hs9 := HB9w.out.size
                obtain ⟨wb, rfl⟩ : ∃ wb, wb = wr := ⟨_, rfl⟩
                go_wp2_with fail
                go_loopw [133] (fun v133 wr => ∃ i : Nat, i ≤ l.length ∧ v133 = .int .i64 i ∧ Below w9.heap.size w9 wr) (fun v133 _ => l.length - (intOf v133).toNat)
                case atStart => exact ⟨0, Nat.zero_le _, rfl, Below.refl _ _⟩
                case round =>
                  obtain ⟨i, hi, rfl, hbi⟩ := hrel
                  have HBI := Lib.hid hbi
                  have hsi := hbi.size
                  clear hbi
                  by_cases hil : i < l.length
                  · have hix : i < xs.length := by omega
                    obtain ⟨B9, o9, rfl, hB9, hc9⟩ := HF9.out (by rw [fdL_length]; omega)
                    obtain ⟨BV, oV, rfl, hBV, hcV⟩ := HR9.out (by simp; omega)
                    have e9 : ∀ m (hm : m < xs.length) (hm2 : m < (fdL (D : Int) 0 xs).length), (fdL (D : Int) 0 xs)[m] = ((xs[m].1, xs[m].2.1), ((D : Int), (m : Int))) := fun m hm hm2 => by
                      have := fdL_get (D : Int) xs 0 m hm
                      rw [List.getElem?_eq_getElem hm2] at this
                      rw [Option.some.inj this, Nat.zero_add]
                    obtain ⟨p0, p1, p2, p3⟩ := hc9 i (by rw [fdL_length]; exact hix)
                    obtain ⟨-, -, z2, -⟩ := hc9 0 (by rw [fdL_length]; omega)
                    obtain ⟨r0, r1⟩ := hcV i (by simp; exact hix)
                    rw [e9 i hix] at p0 p1 p2 p3
                    rw [e9 0 (by omega)] at z2
                    simp only [Nat.zero_mul, Nat.add_zero] at z2
                    simp only [List.getElem_map] at r0 r1
                    obtain ⟨a1, ha1⟩ : ∃ a1, xs[i].1 = a1 := ⟨_, rfl⟩
                    obtain ⟨a2, ha2⟩ : ∃ a2, xs[i].2.1 = a2 := ⟨_, rfl⟩
                    rw [ha1] at p0 r0
                    rw [ha2] at p1 r1
                    have kp : ∀ (a : Nat) u, w9.cell? ⟨B9, a, none⟩ = some u → wr.cell? ⟨B9, a, none⟩ = some u := fun a u e => (HBI.out.cell (p := ⟨B9, a, none⟩) hB9).trans e
                    have kv : ∀ (a : Nat) u, w9.cell? ⟨BV, a, none⟩ = some u → wr.cell? ⟨BV, a, none⟩ = some u := fun a u e => (HBI.out.cell (p := ⟨BV, a, none⟩) hBV).trans e
                    obtain ⟨W5, hW5⟩ : ∃ W5, W5 = wr.alloc (.cells #[.int .i64 a1, .int .i64 a2, .int .i64 D, .int .i64 i] 49) := ⟨_, rfl⟩
                    have HB5 : Hid (Below wr.heap.size wr W5) := Lib.hid (by rw [hW5]; exact (Below.refl _ _).alloc (Nat.le_refl _) _)
                    have HX5 : Hid (W5.heap[wr.heap.size]? = some (.cells #[.int .i64 a1, .int .i64 a2, .int .i64 D, .int .i64 i] 49 (0, 0))) := Lib.hid (by rw [hW5]; exact heap_alloc_new _ _)
                    have K0 := kp _ _ p0
                    have K1 := kp _ _ p1
                    have K2 := kp _ _ p2
                    have K3 := kp _ _ p3
                    have HZ2 := Lib.hid (kp _ _ z2)
                    have HR0 := Lib.hid (kv _ _ r0)
                    have HR1 := Lib.hid (kv _ _ r1)
                    clear p0 p1 p2 p3 z2 r0 r1 kp kv e9 hc9 hcV ha1 ha2
                    go_upto_region 37 with fail
                    rw [← hW5]
                    clear hW5 K0 K1 K2 K3
                    obtain ⟨b0, b1, b2, b3⟩ := cells4q HX5.out
                    have hlx := lt_size HX5.out
                    have Z2 := (HB5.out.cell (p := ⟨B9, o9 + 2, none⟩) (by show B9 < wr.heap.size; omega)).trans HZ2.out
                    have R0 := (HB5.out.cell (p := ⟨BV, oV + i * 2, none⟩) (by show BV < wr.heap.size; omega)).trans HR0.out
                    have R1 := (HB5.out.cell (p := ⟨BV, oV + i * 2 + 1, none⟩) (by show BV < wr.heap.size; omega)).trans HR1.out
                    have hnq := neq_ref (a1, a2)
                    go_quiet (fail)
                    go_wp2_with fail
                    go_roundw
                    case rel => exact ⟨i + 1, by omega, by go_num, HBI.out.trans ((HB5.out.trans (drewN_below (Below.refl _ _) _)).mono hsi)⟩
                    case measure => simp [intOf]; omega
                  · obtain rfl : i = l.length := by omega
                    go_wp2_with (first
                      | (go_at_call 9; refine (awake_any _).mono ?_; rintro e w10 ⟨rfl, hb10⟩; have HB10 := Lib.hid hb10; clear hb10)
                      | fail)
                    go_ret
                    exact ⟨rfl, (HB9w.out.trans (HBI.out.mono hs9)).trans (HB10.out.mono (by omega))⟩
end Go.Proofs.Ytnadcdgpfopcaaa
