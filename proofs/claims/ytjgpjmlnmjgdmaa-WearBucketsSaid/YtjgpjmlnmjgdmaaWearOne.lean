/- WearOne: one more erase anywhere puts them apart by one more at most; the buckets hold all that are looked at: the law's walk. -/
import Derived.Test.YtjgpjmlnmjgdmaaWearEnds
namespace Go.Proofs.Ytjgpjmlnmjgdmaa
open Go.RowKit

/-- One more erase of place i. -/
theorem one_more {C : List Int} {b : List Bool} {i : Nat} (hi : i < C.length) (hs : Small 999 C) :
    Small 1000 (C.set i (C[i] + 1)) ∧ apartP ((C.set i (C[i] + 1)).zip b) ≤ apartP (C.zip b) + 1 ∧ apartP (C.zip b) - 1 ≤ apartP ((C.set i (C[i] + 1)).zip b) ∧ apartP ((C.set i (C[i] + 1)).zip b) ≤ 1000 := by
  have hx := hs C[i] (List.getElem_mem hi)
  have hs1 : Small 1000 (C.set i (C[i] + 1)) := Small.set (fun x hx => by have := hs x hx; omega) i (by omega) (by omega)
  have e1 := hs.ends b (by decide)
  have e2 := hs1.ends b (by decide)
  have a1 := apart_small (zs := C.zip b) (by omega)
  have a2 := apart_small (zs := (C.set i (C[i] + 1)).zip b) (by omega)
  refine ⟨hs1, ?_⟩
  by_cases hb : ∃ h : i < b.length, b[i] = true
  · obtain ⟨hb, hbt⟩ := hb
    have hz : i < (C.zip b).length := by simp; omega
    have he : (C.zip b)[i] = (C[i], true) := by rw [List.getElem_zip, hbt]
    have hr := raise_any hz he
    rw [zip_set C b i _ hb, hbt] at a2 e2 ⊢
    omega
  · have := (alike_off C b i (C[i] + 1) fun h => by
      cases e : b[i] with
      | false => rfl
      | true => exact absurd ⟨h, e⟩ hb).all.2.2.1
    omega
theorem sum_buckets (zs : List (Int × Bool)) (h : apartP zs ≤ 1000) : (bucketsP zs).sum = (lookedN zs : Int) := by
  unfold bucketsP
  rcases ends_fold zs with ⟨h1, _⟩ | ⟨lo, hi, _, h2⟩
  · rw [if_pos (.inl (by rw [cold_none h1]; decide))]
    have : lookedN zs = 0 := List.countP_eq_zero.2 fun p hp ht => h1 p.1 (by rw [show (p.1, true) = p from Prod.ext rfl ht.symm]; exact hp)
    rw [this]; rfl
  · obtain ⟨i, _, hc, _⟩ := cold_some h2.1
    rw [if_neg (by omega)]
    have e := ends_of h2
    have ha : apartP zs = hiP zs - loP zs := by
      unfold apartP at h ⊢
      split
      · rfl
      · next h' => rw [if_neg h'] at h; omega
    have h0 := apart_nonneg zs
    refine sum_counts zs (loP zs) _ fun x hx => ?_
    have := (ends_some hx).2.2 x hx
    omega
theorem buckets_nonneg (zs : List (Int × Bool)) : ∀ x ∈ bucketsP zs, 0 ≤ x := by
  unfold bucketsP
  split
  · intro x hx; cases hx
  · intro x hx
    obtain ⟨k, _, rfl⟩ := List.mem_map.1 hx
    omega
theorem take_sum_le (l : List Int) (h : ∀ x ∈ l, 0 ≤ x) (j : Nat) : 0 ≤ (l.take j).sum ∧ (l.take j).sum ≤ l.sum := by
  induction l generalizing j with
  | nil => simp
  | cons x l ih =>
    have hx := h x (List.mem_cons_self ..)
    have hl := fun j => ih (fun y hy => h y (List.mem_cons_of_mem _ hy)) j
    cases j with
    | zero =>
      have := (hl l.length).1
      rw [List.take_length] at this
      simp; omega
    | succ j =>
      have := hl j
      simp; omega
theorem take_sum_succ (l : List Int) (j : Nat) (h : j < l.length) : (l.take (j + 1)).sum = (l.take j).sum + l[j] := by
  rw [List.take_succ_eq_append_getElem h, List.sum_append]; simp
theorem looked_take {l : List Int} {b : List Bool} {j : Nat} (h1 : j < l.length) (h2 : j < b.length) : lookedN ((l.zip b).take (j + 1)) = lookedN ((l.zip b).take j) + if b[j] = true then 1 else 0 := by
  rw [take_zip h1 h2]
  unfold lookedN
  rw [List.countP_append]
  cases b[j] <;> rfl
theorem u64_at (x : Int) (n : Nat) (h : 0 < n) (h2 : n ≤ 100000) : ∃ i : Nat, i < n ∧ wrap64 (IntKind.u64.wrap x % (n : Int)) = (i : Int) := by
  have h1 := Int.emod_nonneg (IntKind.u64.wrap x) (show (n : Int) ≠ 0 by omega)
  have h3 := Int.emod_lt_of_pos (IntKind.u64.wrap x) (show 0 < (n : Int) by omega)
  refine ⟨(IntKind.u64.wrap x % (n : Int)).toNat, by omega, ?_⟩
  rw [show wrap64 (IntKind.u64.wrap x % (n : Int)) = IntKind.u64.wrap x % (n : Int) by unfold wrap64; omega]
  omega
theorem looked_le (zs : List (Int × Bool)) : lookedN zs ≤ zs.length := List.countP_le_length
set_option maxRecDepth 100000 in
set_option maxHeartbeats 4000000 in
theorem one_any (A A' : Option Addr) (c c' : Nat) (l : List Int) (b : List Bool) (at_ : Int) (w : World) (_hc : l.length ≤ maxLen) (_hc' : b.length ≤ maxLen) (hA : IA w A l) (hA' : BA w A' b) (hR : Roomy A' c' b.length) :
    Calls Try.prog 5 #[.slice A l.length c, .slice A' b.length c', .int .i64 at_] w (Holds w) := by
  unfold maxLen at _hc _hc'
  by_cases hl : l.length ≤ 60
  case neg =>
    go_enter Try.func5, Try.ntmps5
    go_wp2_with (go_at_call 8; (with_reducible refine (awake_any _).mono ?_); rintro e w9 ⟨rfl, hb9⟩)
    go_ret
    exact ⟨rfl, hb9⟩
  by_cases hb : b.length ≤ 60
  case neg =>
    go_enter Try.func5, Try.ntmps5
    go_wp2_with (go_at_call 8; (with_reducible refine (awake_any _).mono ?_); rintro e w9 ⟨rfl, hb9⟩)
    go_ret
    exact ⟨rfl, hb9⟩
  by_cases hl0 : 0 < l.length
  case neg =>
    have hl1 : (l.length : Int) = 0 := by omega
    have hl2 := hl1
    go_enter Try.func5, Try.ntmps5
    go_wp2_with (go_at_call 8; (with_reducible refine (awake_any _).mono ?_); rintro e w9 ⟨rfl, hb9⟩)
    go_ret
    exact ⟨rfl, hb9⟩
  have hz1 : ((l.length : Int) == 0) = false := beq_eq_false_iff_ne.2 (by omega)
  have HA := Lib.hid hA
  have HA' := Lib.hid hA'
  have HRm := Lib.hid hR
  clear hA hA' hR
  have hmk := fun w => make_ints l.length (by omega) w
  have HE := Lib.hid (made_ints l.length)
  have HX0 := Lib.hid (heap_alloc_new w (.cells (madeCells #[Value.int .i64 0] l.length) 3))
  have HB0 := Lib.hid ((Below.refl w.heap.size w).alloc (Nat.le_refl _) (.cells (madeCells #[Value.int .i64 0] l.length) 3))
  go_enter Try.func5, Try.ntmps5
  go_wp2_with fail
  rw [HE.out] at HX0 HB0 ⊢
  obtain ⟨g, hg⟩ : ∃ g, g = w.heap.size := ⟨_, rfl⟩
  have HG := Lib.hid hg
  rw [← hg] at HX0 ⊢
  generalize w.alloc (.cells ((List.replicate l.length (0 : Int)).map (Value.int .i64)).toArray 3) = w5 at HX0 HB0 ⊢
  clear hg hmk
  go_loopw [36] (fun v wr => ∃ (j : Nat) (C : List Int), j ≤ l.length ∧ v = .int .i64 j ∧ C.length = l.length ∧ Small 999 C ∧ wr.heap[g]? = some (.cells (C.map (Value.int .i64)).toArray 3 (0, 0)) ∧ Below w.heap.size w wr) (fun v _ => l.length - (intOf v).toNat)
  case atStart => exact ⟨0, _, Nat.zero_le _, rfl, by simp, Small.zeros (by decide) _, HX0.out, HB0.out⟩
  case round =>
    obtain ⟨j, C, hj, rfl, hC, hS, hx, hB⟩ := hrel
    have HX := Lib.hid hx
    have HB := Lib.hid hB
    have HC := Lib.hid hC
    clear hB
    by_cases hj1 : j < l.length
    · obtain ⟨G, o, rfl, hG, hc⟩ := HA.out (by omega)
      have k1 := (HB.out.cell (p := ⟨G, o + j, none⟩) hG).trans (hc j hj1)
      generalize l[j] = x at k1
      have r0 := u64_rng x
      have q0 := row_cell hx j (by omega)
      have q1 := row_frozen hx j
      have HXN := Lib.hid (row_set hx j (IntKind.u64.wrap x % 1000))
      have HSN := Lib.hid (hS.set j (v := IntKind.u64.wrap x % 1000) (by omega) (by omega))
      generalize C[j] = y at q0
      clear hx hS hC hc
      go_wp2_with fail
      go_roundw
      case rel => exact ⟨j + 1, _, by omega, by go_num, by simp [HC.out], HSN.out, HXN.out, HB.out.setCell (p := ⟨g, j, none⟩) (by rw [HG.out]; exact Nat.le_refl _) _⟩
      case measure => simp [intOf]; omega
    · obtain rfl : j = l.length := by omega
      clear hx hC hj1 hj
      have hcl : C.length ≤ 60 := by rw [HC.out]; exact hl
      have HS := Lib.hid hS
      have HIA := Lib.hid (rowB_arr HX.out : IA wr (some ⟨g, 0, none⟩) C)
      have HBA := Lib.hid (HA'.out.below HB.out)
      have r1 := u64_rng at_
      have HAp := Lib.hid (apart_any (some ⟨g, 0, none⟩) A' C.length c' C b wr (by omega) (by omega) HIA.out HBA.out (hS.wf (by decide)) HRm.out)
      rw [HC.out] at HAp
      obtain ⟨i, hil, hK⟩ := u64_at at_ l.length hl0 (by omega)
      have HK := Lib.hid hK
      have hic : i < C.length := by rw [HC.out]; exact hil
      clear hS hK
      go_upto_region 11 with (go_at_call 11; (refine HAp.out.mono ?_); rintro e w6 ⟨rfl, hb6⟩)
      rw [HK.out]
      have HB6 := Lib.hid (HB.out.trans (hb6.mono HB.out.size))
      have HX6 := Lib.hid ((hb6.block g (Array.getElem?_eq_some_iff.1 HX.out).1).trans HX.out)
      have HM := Lib.hid (one_more (b := b) hic HS.out)
      have q0 := row_cell HX6.out i hic
      have q1 := row_frozen HX6.out i
      have hxb := HS.out C[i] (List.getElem_mem hic)
      have HXN := Lib.hid (row_set HX6.out i (C[i] + 1))
      have HBN := Lib.hid (HB6.out.setCell (p := ⟨g, i, none⟩) (by rw [HG.out]; exact Nat.le_refl _) (.int .i64 (C[i] + 1)))
      have HCN := Lib.hid (show (C.set i (C[i] + 1)).length = l.length by rw [List.length_set]; exact HC.out)
      generalize C[i] = x at q0 hxb HXN HBN HCN HM
      generalize C.set i (x + 1) = C' at HXN HCN HM
      clear hb6 HX HB HIA HBA HAp HK r1 hic hcl
      go_upto_region 12 with fail
      generalize w6.setCell ⟨g, i, none⟩ (.int .i64 (x + 1)) = w7 at HXN HBN ⊢
      have hcl : C'.length ≤ 60 := by rw [HCN.out]; exact hl
      have HIA := Lib.hid (rowB_arr HXN.out : IA w7 (some ⟨g, 0, none⟩) C')
      have HBA := Lib.hid (HA'.out.below HBN.out)
      have HWf := Lib.hid (HM.out.1.wf (by decide))
      have HAp := Lib.hid (apart_any (some ⟨g, 0, none⟩) A' C'.length c' C' b w7 (by omega) (by omega) HIA.out HBA.out HWf.out HRm.out)
      rw [HCN.out] at HAp
      have m1 := HM.out.2.1
      have m2 := HM.out.2.2.1
      have m3 := HM.out.2.2.2
      have m4 := apart_nonneg (C.zip b)
      have HSB := Lib.hid (sum_buckets (C'.zip b) m3)
      have m5 := apart_nonneg (C'.zip b)
      generalize apartP (C.zip b) = p at m1 m2 m4 ⊢
      generalize hq : apartP (C'.zip b) = q at m1 m2 m3 m5 HAp
      clear hq q0 q1 HX6 HB6
      go_wp2_with (go_at_call 11; (refine HAp.out.mono ?_); rintro e w8 ⟨rfl, hb8⟩)
      have HBk := Lib.hid (buck_any (some ⟨g, 0, none⟩) A' C'.length c' C' b w8 (by omega) (by omega) (HIA.out.below hb8) (HBA.out.below hb8) HWf.out HRm.out)
      rw [HCN.out] at HBk
      have HB8 := Lib.hid (HBN.out.trans (hb8.mono HBN.out.size))
      clear hb8
      refine HBk.out.mono ?_
      rintro e w9 ⟨X1, x1, rfl, hx1, _, h9⟩
      have HX1 := Lib.hid hx1
      have HB9 := Lib.hid (HB8.out.trans (h9.mono HB8.out.size))
      have HNN := Lib.hid (buckets_nonneg (C'.zip b))
      have hbl := buck_len (C'.zip b)
      have hlk := looked_le (C'.zip b)
      have hzl : (C'.zip b).length ≤ 60 := by simp; omega
      generalize bucketsP (C'.zip b) = L at HSB HX1 HNN hbl ⊢
      clear hx1 h9 HBk m1 m2 m3 m4 m5 HAp
      go_wp2_with fail
      go_loopw [12, 82] (fun v12 v82 wr => ∃ j : Nat, j ≤ L.length ∧ v82 = .int .i64 j ∧ v12 = .int .i64 (L.take j).sum ∧ Below w9.heap.size w9 wr) (fun _ v82 _ => L.length - (intOf v82).toNat)
      case atStart => exact ⟨0, Nat.zero_le _, rfl, rfl, Below.refl _ _⟩
      case round =>
        obtain ⟨j, hj, rfl, rfl, hB⟩ := hrel
        have HB := Lib.hid hB
        clear hB
        by_cases hj1 : j < L.length
        · obtain ⟨G, o, rfl, hG, hc⟩ := HX1.out (by omega)
          have k1 := (HB.out.cell (p := ⟨G, o + j, none⟩) hG).trans (hc j hj1)
          have t1 := take_sum_succ L j hj1
          have t2 := take_sum_le L HNN.out (j + 1)
          have t3 := take_sum_le L HNN.out j
          have t4 := HSB.out
          have HT := Lib.hid t1
          generalize L[j] = y at k1 t1 HT
          generalize (L.take j).sum = s at t1 t3 HT
          rw [t1] at t2
          clear hc t1
          go_wp2_with fail
          go_roundw
          case rel => exact ⟨j + 1, by omega, by go_num, by rw [HT.out], HB.out⟩
          case measure => simp [intOf]; omega
        · obtain rfl : j = L.length := by omega
          rw [List.take_length, HSB.out]
          clear hj hj1
          generalize hN : lookedN (C'.zip b) = N at hlk HSB ⊢
          have HN := Lib.hid hN
          clear hN
          rcases Nat.lt_or_ge b.length l.length with hlb | hlb
          all_goals
            go_wp2_with fail
            go_loopw [15, 95] (fun v15 v95 wx => ∃ j : Nat, j ≤ min l.length b.length ∧ v95 = .int .i64 j ∧ v15 = .int .i64 (lookedN ((C'.zip b).take j)) ∧ Below w9.heap.size w9 wx) (fun _ v95 _ => min l.length b.length - (intOf v95).toNat)
            case atStart => exact ⟨0, Nat.zero_le _, rfl, rfl, HB.out⟩
            case round =>
              obtain ⟨j, hj, rfl, rfl, hB⟩ := hrel
              have HBx := Lib.hid hB
              clear hB
              by_cases hj1 : j < min l.length b.length
              · have hjl : j < C'.length := by rw [HCN.out]; omega
                have hjb : j < b.length := by omega
                have hjl2 : j < l.length := by omega
                obtain ⟨G', o', rfl, hG', hc'⟩ := HA'.out (by omega)
                have k2 := ((HB9.out.trans (HBx.out.mono HB9.out.size)).cell (p := ⟨G', o' + j, none⟩) hG').trans (hc' j hjb)
                have HT := Lib.hid (looked_take hjl hjb)
                have hv := looked_le ((C'.zip b).take j)
                have hv2 : ((C'.zip b).take j).length ≤ 60 := by rw [List.length_take]; omega
                generalize b[j] = y at k2 HT
                generalize lookedN ((C'.zip b).take j) = v at hv HT ⊢
                clear hc' hj1
                cases y with
                | false =>
                  go_wp2_with fail
                  go_roundw
                  case rel => exact ⟨j + 1, by omega, by go_num, by rw [HT.out]; simp, HBx.out⟩
                  case measure => simp [intOf]; omega
                | true =>
                  go_wp2_with fail
                  go_roundw
                  case rel => exact ⟨j + 1, by omega, by go_num, by rw [HT.out]; simp, HBx.out⟩
                  case measure => simp [intOf]; omega
              · obtain rfl : j = min l.length b.length := by omega
                have hz : (C'.zip b).take (min l.length b.length) = C'.zip b := List.take_of_length_le (by rw [List.length_zip, HCN.out]; exact Nat.le_refl _)
                rw [hz, HN.out]
                go_wp2_with (go_at_call 8; (with_reducible refine (awake_any _).mono ?_); rintro e wz ⟨rfl, hz⟩)
                go_ret
                exact ⟨rfl, (HB9.out.trans (HBx.out.mono HB9.out.size)).trans (hz.mono (by have := HB9.out.size; have := HBx.out.size; omega))⟩
end Go.Proofs.Ytjgpjmlnmjgdmaa
