/- WearBuckets: the first and the last bucket have some; one is raised: it goes from its bucket to the next: the law's walk. -/
import Derived.Test.YtjgpjmlnmjgdmaaWearOne
namespace Go.Proofs.Ytjgpjmlnmjgdmaa
open Go.RowKit

/-- All places of a row are looked at. -/
def allZ (C : List Int) : List (Int × Bool) := C.zip (List.replicate C.length true)
theorem allZ_length (C : List Int) : (allZ C).length = C.length := by simp [allZ]
theorem allZ_get (C : List Int) (i : Nat) (h : i < C.length) : (allZ C)[i]'(by rw [allZ_length]; exact h) = (C[i], true) := by simp [allZ]
theorem allZ_set (C : List Int) (i : Nat) (h : i < C.length) (v : Int) : allZ (C.set i v) = (allZ C).set i (v, true) := by
  unfold allZ
  rw [List.length_set, zip_set C _ i v (by simpa using h)]
  simp
/-- The buckets of small counts. -/
theorem buck_shape {C : List Int} (h : 0 < C.length) (hs : Small 30 C) : ∃ N : Nat, bucketsP (allZ C) = cntL (allZ C) (loP (allZ C)) (N + 1) ∧ hiP (allZ C) = loP (allZ C) + (N : Int) ∧ N ≤ 30 ∧ 0 ≤ loP (allZ C) ∧ loP (allZ C) ≤ 30 := by
  have hx : (C[0], true) ∈ allZ C := allZ_get C 0 h ▸ List.getElem_mem _
  have e := hs.ends (List.replicate C.length true) (by decide)
  have hlh := lo_le_hi (allZ C)
  have e' : 0 ≤ loP (allZ C) ∧ hiP (allZ C) ≤ 30 := e
  have ha := apart_small (zs := allZ C) (by omega)
  obtain ⟨i, _, hc, _⟩ := cold_some hx
  refine ⟨(hiP (allZ C) - loP (allZ C)).toNat, ?_, by omega, by omega, e'.1, by omega⟩
  unfold bucketsP
  rw [if_neg (by omega), ha]
  show cntL _ _ _ = cntL _ _ _
  congr 1
  omega
theorem cntL_at {zs : List (Int × Bool)} {lo : Int} {n k : Nat} {L : List Int} (h : L = cntL zs lo n) (hk : k < L.length) : L[k] = ((countP' zs (lo + (k : Int)) : Nat) : Int) := by
  subst h
  exact cntL_get _ _ _ _ _
set_option maxRecDepth 100000 in
set_option maxHeartbeats 4000000 in
theorem buckets_any (A : Option Addr) (c : Nat) (l : List Int) (at_ : Int) (w : World) (_hc : l.length ≤ maxLen) (hA : IA w A l) :
    Calls Try.prog 7 #[.slice A l.length c, .int .i64 at_] w (Holds w) := by
  unfold maxLen at _hc
  by_cases hl0 : 0 < l.length
  case neg =>
    have hl1 : (l.length : Int) < 1 := by omega
    go_enter Try.func7, Try.ntmps7
    go_wp2_with (go_at_call 8; (with_reducible refine (awake_any _).mono ?_); rintro e w9 ⟨rfl, hb9⟩)
    go_ret
    exact ⟨rfl, hb9⟩
  by_cases hl : l.length ≤ 60
  case neg =>
    have hl1 : ¬ (l.length : Int) < 1 := by omega
    go_enter Try.func7, Try.ntmps7
    go_wp2_with (go_at_call 8; (with_reducible refine (awake_any _).mono ?_); rintro e w9 ⟨rfl, hb9⟩)
    go_ret
    exact ⟨rfl, hb9⟩
  have hz1 : ((l.length : Int) == 0) = false := beq_eq_false_iff_ne.2 (by omega)
  have HA := Lib.hid hA
  clear hA
  have hmk := fun w => make_ints l.length (by omega) w
  have HE := Lib.hid (made_ints l.length)
  have HX0 := Lib.hid (heap_alloc_new w (.cells (madeCells #[Value.int .i64 0] l.length) 3))
  have HB0 := Lib.hid ((Below.refl w.heap.size w).alloc (Nat.le_refl _) (.cells (madeCells #[Value.int .i64 0] l.length) 3))
  go_enter Try.func7, Try.ntmps7
  go_wp2_with fail
  rw [HE.out] at HX0 HB0 ⊢
  obtain ⟨g, hg⟩ : ∃ g, g = w.heap.size := ⟨_, rfl⟩
  have HG := Lib.hid hg
  rw [← hg] at HX0 ⊢
  generalize w.alloc (.cells ((List.replicate l.length (0 : Int)).map (Value.int .i64)).toArray 3) = w5 at HX0 HB0 ⊢
  clear hg hmk
  go_loopw [29] (fun v wr => ∃ (j : Nat) (C : List Int), j ≤ l.length ∧ v = .int .i64 j ∧ C.length = l.length ∧ Small 29 C ∧ wr.heap[g]? = some (.cells (C.map (Value.int .i64)).toArray 3 (0, 0)) ∧ Below w.heap.size w wr) (fun v _ => l.length - (intOf v).toNat)
  case atStart => exact ⟨0, _, Nat.zero_le _, rfl, by simp, Small.zeros (by decide) _, HX0.out, HB0.out⟩
  case round =>
    obtain ⟨j, C, hj, rfl, hC, hS, hx, hB⟩ := hrel
    have HX := Lib.hid hx
    have HB := Lib.hid hB
    have HC := Lib.hid hC
    clear hB
    by_cases hj1 : j < l.length
    · obtain ⟨G, o, rfl, hG, hc⟩ := HA.out (by omega)
      have k1 := (HB.out.cell (p := ⟨G, o + j, none⟩) hG).trans (hc j hj1)
      generalize l[j] = x at k1
      have r0 := u64_rng x
      have q0 := row_cell hx j (by omega)
      have q1 := row_frozen hx j
      have HXN := Lib.hid (row_set hx j (IntKind.u64.wrap x % 30))
      have HSN := Lib.hid (hS.set j (v := IntKind.u64.wrap x % 30) (by omega) (by omega))
      generalize C[j] = y at q0
      clear hx hS hC hc
      go_wp2_with fail
      go_roundw
      case rel => exact ⟨j + 1, _, by omega, by go_num, by simp [HC.out], HSN.out, HXN.out, HB.out.setCell (p := ⟨g, j, none⟩) (by rw [HG.out]; exact Nat.le_refl _) _⟩
      case measure => simp [intOf]; omega
    · obtain rfl : j = l.length := by omega
      clear hx hC hj1 hj
      have hcl : C.length ≤ 60 := by rw [HC.out]; exact hl
      have HS := Lib.hid hS
      have HIA := Lib.hid (rowB_arr HX.out : IA wr (some ⟨g, 0, none⟩) C)
      have r1 := u64_rng at_
      obtain ⟨i, hil, hK⟩ := u64_at at_ l.length hl0 (by omega)
      have HK := Lib.hid hK
      have hic : i < C.length := by rw [HC.out]; exact hil
      have hgw : g < wr.heap.size := (Array.getElem?_eq_some_iff.1 HX.out).1
      have HS30 : Hid (Small 30 C) := fun x hx => by have := hS x hx; omega
      have HWf := Lib.hid (hS.wf (by decide))
      obtain ⟨N, hN1, hN2, hN3, hN4, hN5⟩ := buck_shape (C := C) (by omega) HS30.out
      obtain ⟨M, hM⟩ : ∃ M, M = N + 1 := ⟨_, rfl⟩
      rw [← hM] at hN1
      have hM1 : 1 ≤ M := by omega
      have hM2 : M ≤ 31 := by omega
      have HMN := Lib.hid hM
      have HN1 := Lib.hid hN1
      have HN2 := Lib.hid hN2
      clear hS hK hN1 hN2 hM
      go_wp2_with fail
      refine (all_any l.length (by omega) wr).mono ?_
      rintro e w6 ⟨g6, rfl, hx6, hg6, hb6⟩
      have HB6 := Lib.hid (HB.out.trans (hb6.mono HB.out.size))
      have HBk := Lib.hid (buck_any (some ⟨g, 0, none⟩) (some ⟨g6, 0, none⟩) C.length l.length C (List.replicate C.length true) w6 (by omega) (by simp; omega) (HIA.out.below hb6) (by rw [HC.out]; exact rowB_arr hx6) HWf.out (roomy_some (by simp [HC.out])))
      rw [List.length_replicate, HC.out] at HBk
      clear hx6 hg6
      go_wp2_with fail
      refine HBk.out.mono ?_
      rintro e w7 ⟨X1, x1, rfl, hx7, hg7, hb7⟩
      rw [show C.zip (List.replicate l.length true) = allZ C by unfold allZ; rw [HC.out], HN1.out] at hx7 ⊢
      rw [cntL_length] at ⊢
      have HB7 := Lib.hid (HB6.out.trans (hb7.mono HB6.out.size))
      have HX7 := Lib.hid hx7
      have HG7 := Lib.hid hg7
      have HS6 := Lib.hid hb6.size
      have HI7 := Lib.hid ((HIA.out.below hb6).below hb7)
      have HXc := Lib.hid ((hb7.block g (by have := hb6.size; omega)).trans ((hb6.block g hgw).trans HX.out))
      clear hx7 hg7 hb7 hb6 HBk
      go_wp2_with fail
      refine (all_any l.length (by omega) w7).mono ?_
      rintro e w8 ⟨g8, rfl, hx8, hg8, hb8⟩
      have HB8 := Lib.hid (HB7.out.trans (hb8.mono HB7.out.size))
      have HEn := Lib.hid (ends_any (some ⟨g, 0, none⟩) (some ⟨g8, 0, none⟩) C.length l.length C (List.replicate C.length true) w8 (by omega) (by simp; omega) (HI7.out.below hb8) (by rw [HC.out]; exact rowB_arr hx8) HWf.out (roomy_some (by simp [HC.out])))
      rw [List.length_replicate, HC.out] at HEn
      have HX8 := Lib.hid (HX7.out.below hb8)
      have HXd := Lib.hid ((hb8.block g (by have := (Array.getElem?_eq_some_iff.1 HXc.out).1; exact this)).trans HXc.out)
      have HS8 := Lib.hid hb8.size
      clear hx8 hg8 hb8
      go_wp2_with fail
      refine HEn.out.mono ?_
      rintro e w9 ⟨rfl, hb9⟩
      rw [show C.zip (List.replicate l.length true) = allZ C by unfold allZ; rw [HC.out]]
      have HX9 := Lib.hid (HX8.out.below hb9)
      have HXe := Lib.hid ((hb9.block g (Array.getElem?_eq_some_iff.1 HXd.out).1).trans HXd.out)
      have HB9 := Lib.hid (HB8.out.trans (hb9.mono HB8.out.size))
      obtain ⟨B1, o1, hX1, hB1, hc1⟩ := HX9.out (by rw [cntL_length]; omega)
      subst hX1
      have hgB : g < B1 := by
        have := HG7.out ⟨B1, o1, none⟩ rfl
        have := HS6.out
        show g < B1
        have h3 : w6.heap.size ≤ B1 := HG7.out ⟨B1, o1, none⟩ rfl
        omega
      have HC1 := Lib.hid hc1
      have m0 : (C[i], true) ∈ allZ C := allZ_get C i hic ▸ List.getElem_mem _
      have hxr := (ends_some m0).2.2 _ m0
      have c0 := hc1 0 (by rw [cntL_length]; omega)
      have cN := hc1 N (by rw [cntL_length, HMN.out]; omega)
      rw [cntL_get] at c0 cN
      have hlo1 : 0 < countP' (allZ C) (loP (allZ C) + ((0 : Nat) : Int)) := count_mem.2 (by simpa using (ends_some m0).1)
      have hhi1 : 0 < countP' (allZ C) (loP (allZ C) + (N : Int)) := count_mem.2 (by rw [← HN2.out]; exact (ends_some m0).2.1)
      have hct1 := count_le (allZ C) (loP (allZ C) + ((0 : Nat) : Int))
      have hct2 := count_le (allZ C) (loP (allZ C) + (N : Int))
      rw [allZ_length] at hct1 hct2
      have HMid := Lib.hid (fun (h1 : C[i] ≠ hiP (allZ C)) (h2 : ¬ (C[i] = loP (allZ C) ∧ countP' (allZ C) (loP (allZ C)) = 1)) => raise_mid (zs := allZ C) (i := i) (x := C[i]) (by rw [allZ_length]; exact hic) (allZ_get C i hic) h1 h2)
      have HSet := Lib.hid (allZ_set C i hic (C[i] + 1))
      have HCnt := Lib.hid (fun m => count_set (allZ C) i C[i] (by rw [allZ_length]; exact hic) (allZ_get C i hic) m)
      have HSm : Hid (Small 30 (C.set i (C[i] + 1))) := by
        have := HS.out C[i] (List.getElem_mem hic)
        exact HS30.out.set i (by omega) (by omega)
      have HCl := Lib.hid (fun m => count_le (allZ C) m)
      have q0 := row_cell HXe.out i hic
      have q1 := row_frozen HXe.out i
      have HXN := Lib.hid (row_set HXe.out i (C[i] + 1))
      have HCN := Lib.hid (show (C.set i (C[i] + 1)).length = l.length by rw [List.length_set]; exact HC.out)
      have HHi := Lib.hid HN2.out
      have hMi : hiP (allZ C) - loP (allZ C) + 1 = (M : Int) := by rw [HN2.out, HMN.out]; omega
      have hhi6 : hiP (allZ C) ≤ 60 := by rw [HN2.out]; omega
      have hlh : loP (allZ C) ≤ hiP (allZ C) := lo_le_hi _
      have hMt : M - 1 = N := by rw [HMN.out]; rfl
      have cM : w9.cell? ⟨B1, o1 + (M - 1), none⟩ = some (.int .i64 ((countP' (allZ C) (loP (allZ C) + (N : Int)) : Nat) : Int)) := by rw [hMt]; exact cN
      clear hMt cN
      rw [show (loP (allZ C) + ((0 : Nat) : Int)) = loP (allZ C) by omega] at c0 hlo1 hct1
      generalize hv0 : countP' (allZ C) (loP (allZ C)) = v0 at c0 hlo1 hct1 HMid
      generalize hvN : countP' (allZ C) (loP (allZ C) + (N : Int)) = vN at cM hhi1 hct2
      generalize loP (allZ C) = lo at *
      generalize hiP (allZ C) = hi at *
      generalize C[i] = x at *
      generalize C.set i (x + 1) = C' at HSet HSm HXN HCN
      clear hb9 HX8 HX9 HXd HXc HI7 HX7 HIA HX hc1 m0 hv0 hvN HEn HS HS30 hgw HN1 HN2 HS6 HS8 HG7
      rw [Nat.add_zero] at c0
      go_upto_region 14 with fail
      rw [HK.out]
      by_cases hxN : x = hi
      · have e1 : (x == hi) = true := by simpa using hxN
        go_wp2_with (go_at_call 8; (with_reducible refine (awake_any _).mono ?_); rintro e wz ⟨rfl, hz⟩)
        go_ret
        exact ⟨rfl, HB9.out.trans (hz.mono HB9.out.size)⟩
      have e1 : (x == hi) = false := by simpa using hxN
      by_cases hx0 : x = lo ∧ v0 = 1
      · have e2 : (x == lo) = true := by simpa using hx0.1
        have e3 : ((v0 : Int) == 1) = true := by simp [hx0.2]
        obtain ⟨_, hv1⟩ := hx0
        go_wp2_with (go_at_call 8; (with_reducible refine (awake_any _).mono ?_); rintro e wz ⟨rfl, hz⟩)
        go_ret
        exact ⟨rfl, HB9.out.trans (hz.mono HB9.out.size)⟩
      have HM := Lib.hid (HMid.out hxN hx0)
      have hxlt : x < hi := by omega
      have HBN := Lib.hid (HB9.out.setCell (p := ⟨g, i, none⟩) (by rw [HG.out]; exact Nat.le_refl _) (.int .i64 (x + 1)))
      have HC2 := Lib.hid (fun j (h : j < (cntL (allZ C) lo M).length) => (World.cell?_of_block (w := w9) (a := ⟨B1, o1 + j, none⟩) (Below.heap_setCell w9 ⟨g, i, none⟩ (.int .i64 (x + 1)) B1 (by show B1 ≠ g; omega))).trans (HC1.out j h))
      have hBs : B1 < (w9.setCell ⟨g, i, none⟩ (.int .i64 (x + 1))).heap.size := by simpa using hB1
      have e4 : (x == lo) = true → ((v0 : Int) == 1) = false := fun h => by
        have : x = lo := by simpa using h
        have h2 : v0 ≠ 1 := fun e => hx0 ⟨this, e⟩
        simp; omega
      clear hx0 HMid
      by_cases e2 : (x == lo) = true
      · have e3 := e4 e2
        have e5 : ¬ ((v0 : Int) = 1) := by simpa using e3
        clear e4
        go_upto_region 18 with fail
        generalize w9.setCell ⟨g, i, none⟩ (.int .i64 (x + 1)) = wa at HXN HBN HC2 hBs ⊢
        have HIA2 := Lib.hid (rowB_arr HXN.out : IA wa (some ⟨g, 0, none⟩) C')
        have HD : Hid (bucketsP (allZ C') = cntL (allZ C') lo M) := by
          obtain ⟨N', d1, d2, _, _, _⟩ := buck_shape (C := C') (by rw [HCN.out]; exact hl0) HSm.out
          have f1 := HM.out.1
          have f2 := HM.out.2
          rw [← HSet.out] at f1 f2
          rw [f1, f2] at d2
          rw [f1] at d1
          have := HHi.out
          have := HMN.out
          rw [d1, show N' + 1 = M by omega]
          exact Lib.hid rfl
        have hcl2 : C'.length ≤ 60 := by rw [HCN.out]; exact hl
        go_wp2_with fail
        refine (all_any l.length (by omega) wa).mono ?_
        rintro e wb ⟨gb, rfl, hxb, hgb, hbb⟩
        have HBk := Lib.hid (buck_any (some ⟨g, 0, none⟩) (some ⟨gb, 0, none⟩) C'.length l.length C' (List.replicate C'.length true) wb (by omega) (by simp; omega) (HIA2.out.below hbb) (by rw [HCN.out]; exact rowB_arr hxb) (HSm.out.wf (by decide)) (roomy_some (by simp [HCN.out])))
        rw [List.length_replicate, HCN.out] at HBk
        have HBb := Lib.hid hbb
        clear hxb hgb hbb
        go_wp2_with fail
        refine HBk.out.mono ?_
        rintro e wd ⟨X2, x2, rfl, hx2, _, hbd⟩
        rw [show C'.zip (List.replicate l.length true) = allZ C' by unfold allZ; rw [HCN.out], HD.out] at hx2 ⊢
        rw [cntL_length] at ⊢
        have HBd := Lib.hid (HBb.out.trans (hbd.mono HBb.out.size))
        obtain ⟨B2, o2, hX2, hB2, hc2⟩ := hx2 (by rw [cntL_length]; omega)
        subst hX2
        have HC3 := Lib.hid hc2
        clear hbd hc2 hx2 HBk q0 q1 c0 cM
        go_wp2_with fail
        go_loopw [140] (fun v wx => ∃ j : Nat, j ≤ M ∧ v = .int .i64 j ∧ Below wd.heap.size wd wx) (fun v _ => M - (intOf v).toNat)
        case atStart => exact ⟨0, Nat.zero_le _, rfl, Below.refl _ _⟩
        case round =>
          obtain ⟨j, hj, rfl, hB⟩ := hrel
          have HBx := Lib.hid hB
          clear hB
          by_cases hj1 : j < M
          · have k1 := ((HBd.out.trans (HBx.out.mono HBd.out.size)).cell (p := ⟨B1, o1 + j, none⟩) hBs).trans (HC2.out j (by rw [cntL_length]; exact hj1))
            have k2 := (HBx.out.cell (p := ⟨B2, o2 + j, none⟩) hB2).trans (HC3.out j (by rw [cntL_length]; exact hj1))
            rw [cntL_get] at k1 k2
            have hcn := HCnt.out (lo + (j : Int))
            have hcb := HCl.out (lo + (j : Int))
            rw [allZ_length] at hcb
            rw [HSet.out, hcn] at k2
            generalize countP' (allZ C) (lo + (j : Int)) = v at k1 k2 hcb
            clear hcn
            by_cases h1 : (j : Int) = x - lo
            · have e6 : ((j : Int) == x - lo) = true := by simpa using h1
              have e7 : ((j : Int) == x - lo + 1) = false := by simp; omega
              rw [if_pos (by omega), if_neg (by omega), Int.add_zero] at k2
              clear h1
              go_wp2_with fail
              go_roundw
              case rel => exact ⟨j + 1, by omega, by go_num, HBx.out⟩
              case measure => simp [intOf]; omega
            · have e6 : ((j : Int) == x - lo) = false := by simpa using h1
              by_cases h2 : (j : Int) = x - lo + 1
              · have e7 : ((j : Int) == x - lo + 1) = true := by simpa using h2
                rw [if_neg (by omega), if_pos (by omega), Int.sub_zero] at k2
                clear h1 h2
                go_wp2_with fail
                go_roundw
                case rel => exact ⟨j + 1, by omega, by go_num, HBx.out⟩
                case measure => simp [intOf]; omega
              · have e7 : ((j : Int) == x - lo + 1) = false := by simpa using h2
                rw [if_neg (by omega), if_neg (by omega), Int.sub_zero, Int.add_zero] at k2
                clear h1 h2
                go_wp2_with fail
                go_roundw
                case rel => exact ⟨j + 1, by omega, by go_num, HBx.out⟩
                case measure => simp [intOf]; omega
          · obtain rfl : j = M := by omega
            go_wp2_with (go_at_call 8; (with_reducible refine (awake_any _).mono ?_); rintro e wz ⟨rfl, hz⟩)
            go_ret
            exact ⟨rfl, ((HBN.out.trans (HBd.out.mono HBN.out.size)).trans (HBx.out.mono (by have := HBN.out.size; have := HBd.out.size; omega))).trans (hz.mono (by have := HBN.out.size; have := HBd.out.size; have := HBx.out.size; omega))⟩
      · have e3 : (x == lo) = false := by simpa using e2
        clear e4 e2
        go_upto_region 18 with fail
        generalize w9.setCell ⟨g, i, none⟩ (.int .i64 (x + 1)) = wa at HXN HBN HC2 hBs ⊢
        have HIA2 := Lib.hid (rowB_arr HXN.out : IA wa (some ⟨g, 0, none⟩) C')
        have HD : Hid (bucketsP (allZ C') = cntL (allZ C') lo M) := by
          obtain ⟨N', d1, d2, _, _, _⟩ := buck_shape (C := C') (by rw [HCN.out]; exact hl0) HSm.out
          have f1 := HM.out.1
          have f2 := HM.out.2
          rw [← HSet.out] at f1 f2
          rw [f1, f2] at d2
          rw [f1] at d1
          have := HHi.out
          have := HMN.out
          rw [d1, show N' + 1 = M by omega]
          exact Lib.hid rfl
        have hcl2 : C'.length ≤ 60 := by rw [HCN.out]; exact hl
        go_wp2_with fail
        refine (all_any l.length (by omega) wa).mono ?_
        rintro e wb ⟨gb, rfl, hxb, hgb, hbb⟩
        have HBk := Lib.hid (buck_any (some ⟨g, 0, none⟩) (some ⟨gb, 0, none⟩) C'.length l.length C' (List.replicate C'.length true) wb (by omega) (by simp; omega) (HIA2.out.below hbb) (by rw [HCN.out]; exact rowB_arr hxb) (HSm.out.wf (by decide)) (roomy_some (by simp [HCN.out])))
        rw [List.length_replicate, HCN.out] at HBk
        have HBb := Lib.hid hbb
        clear hxb hgb hbb
        go_wp2_with fail
        refine HBk.out.mono ?_
        rintro e wd ⟨X2, x2, rfl, hx2, _, hbd⟩
        rw [show C'.zip (List.replicate l.length true) = allZ C' by unfold allZ; rw [HCN.out], HD.out] at hx2 ⊢
        rw [cntL_length] at ⊢
        have HBd := Lib.hid (HBb.out.trans (hbd.mono HBb.out.size))
        obtain ⟨B2, o2, hX2, hB2, hc2⟩ := hx2 (by rw [cntL_length]; omega)
        subst hX2
        have HC3 := Lib.hid hc2
        clear hbd hc2 hx2 HBk q0 q1 c0 cM
        go_wp2_with fail
        go_loopw [140] (fun v wx => ∃ j : Nat, j ≤ M ∧ v = .int .i64 j ∧ Below wd.heap.size wd wx) (fun v _ => M - (intOf v).toNat)
        case atStart => exact ⟨0, Nat.zero_le _, rfl, Below.refl _ _⟩
        case round =>
          obtain ⟨j, hj, rfl, hB⟩ := hrel
          have HBx := Lib.hid hB
          clear hB
          by_cases hj1 : j < M
          · have k1 := ((HBd.out.trans (HBx.out.mono HBd.out.size)).cell (p := ⟨B1, o1 + j, none⟩) hBs).trans (HC2.out j (by rw [cntL_length]; exact hj1))
            have k2 := (HBx.out.cell (p := ⟨B2, o2 + j, none⟩) hB2).trans (HC3.out j (by rw [cntL_length]; exact hj1))
            rw [cntL_get] at k1 k2
            have hcn := HCnt.out (lo + (j : Int))
            have hcb := HCl.out (lo + (j : Int))
            rw [allZ_length] at hcb
            rw [HSet.out, hcn] at k2
            generalize countP' (allZ C) (lo + (j : Int)) = v at k1 k2 hcb
            clear hcn
            by_cases h1 : (j : Int) = x - lo
            · have e6 : ((j : Int) == x - lo) = true := by simpa using h1
              have e7 : ((j : Int) == x - lo + 1) = false := by simp; omega
              rw [if_pos (by omega), if_neg (by omega), Int.add_zero] at k2
              clear h1
              go_wp2_with fail
              go_roundw
              case rel => exact ⟨j + 1, by omega, by go_num, HBx.out⟩
              case measure => simp [intOf]; omega
            · have e6 : ((j : Int) == x - lo) = false := by simpa using h1
              by_cases h2 : (j : Int) = x - lo + 1
              · have e7 : ((j : Int) == x - lo + 1) = true := by simpa using h2
                rw [if_neg (by omega), if_pos (by omega), Int.sub_zero] at k2
                clear h1 h2
                go_wp2_with fail
                go_roundw
                case rel => exact ⟨j + 1, by omega, by go_num, HBx.out⟩
                case measure => simp [intOf]; omega
              · have e7 : ((j : Int) == x - lo + 1) = false := by simpa using h2
                rw [if_neg (by omega), if_neg (by omega), Int.sub_zero, Int.add_zero] at k2
                clear h1 h2
                go_wp2_with fail
                go_roundw
                case rel => exact ⟨j + 1, by omega, by go_num, HBx.out⟩
                case measure => simp [intOf]; omega
          · obtain rfl : j = M := by omega
            go_wp2_with (go_at_call 8; (with_reducible refine (awake_any _).mono ?_); rintro e wz ⟨rfl, hz⟩)
            go_ret
            exact ⟨rfl, ((HBN.out.trans (HBd.out.mono HBN.out.size)).trans (HBx.out.mono (by have := HBN.out.size; have := HBd.out.size; omega))).trans (hz.mono (by have := HBN.out.size; have := HBd.out.size; have := HBx.out.size; omega))⟩
end Go.Proofs.Ytjgpjmlnmjgdmaa
