/- BlockTurns: a block that goes bad is clean no more: the law's walk. -/
import Derived.Laws.AppendOwn
import Derived.Deep.SlicePairs
import Derived.Deep.DeepCutAuto
import Derived.Test.YteghegojhhoppaaBlkLaw
namespace Go.Proofs.Yteghegojhhoppaa
open Go.RowKit

/-- The cells of blocks, their pages as values. -/
def c4 (L : List (Bk × Value)) : List Value := L.flatMap fun x => [.bool x.1.bad, .int .i64 x.1.next, .int .i64 x.1.count, x.2]
theorem c4_cons (x : Bk × Value) (L : List (Bk × Value)) : c4 (x :: L) = .bool x.1.bad :: .int .i64 x.1.next :: .int .i64 x.1.count :: x.2 :: c4 L := by simp [c4]
theorem c4_len (L : List (Bk × Value)) : (c4 L).length = L.length * 4 := by
  induction L with
  | nil => rfl
  | cons x L ih => rw [c4_cons]; simp [ih]; omega
theorem c4_get (L : List (Bk × Value)) (j : Nat) (h : j < L.length) : (c4 L)[j * 4]? = some (.bool L[j].1.bad) ∧ (c4 L)[j * 4 + 1]? = some (.int .i64 L[j].1.next) ∧ (c4 L)[j * 4 + 2]? = some (.int .i64 L[j].1.count) ∧ (c4 L)[j * 4 + 3]? = some L[j].2 := by
  induction L generalizing j with
  | nil => simp at h
  | cons x L ih =>
    rw [c4_cons]
    cases j with
    | zero => simp
    | succ j =>
      have := ih j (by simpa using h)
      rw [show (j + 1) * 4 = j * 4 + 1 + 1 + 1 + 1 by omega]
      simpa using this
theorem c4_set (L : List (Bk × Value)) (j : Nat) (h : j < L.length) (v : Bool) : (c4 L).set (j * 4) (.bool v) = c4 (L.set j ({ L[j].1 with bad := v }, L[j].2)) := by
  induction L generalizing j with
  | nil => simp at h
  | cons x L ih =>
    cases j with
    | zero => simp [c4_cons]
    | succ j =>
      have := ih j (by simpa using h)
      rw [c4_cons, show (j + 1) * 4 = j * 4 + 1 + 1 + 1 + 1 by omega]
      simp [c4_cons, this]
/-- A row of the call's own, as blocks that lie somewhere. -/
theorem own_lies {W : World} {B g n cap : Nat} {L : List (Bk × Value)} (hn : n = L.length) (h : W.ownsRow B 27 4 (.slice (some ⟨g, 0, none⟩) n cap) n (c4 L)) (hp : ∀ x ∈ L, ∃ A n c, x.2 = .slice A n c) : BLies W (some ⟨g, 0, none⟩) (L.map (·.1)) := fun _ => by
  subst hn
  refine ⟨g, 0, rfl, (h.lt g rfl).2, fun j hj => ?_⟩
  have hj' : j < L.length := by simpa using hj
  obtain ⟨g0, g1, g2, g3⟩ := c4_get L j hj'
  obtain ⟨A, n, c, hv⟩ := hp L[j] (List.getElem_mem hj')
  have k := fun i (hi : i < 4) => World.ownsRow.cellAt h (j * 4 + i) (by omega)
  have k0 := k 0 (by omega)
  have k1 := k 1 (by omega)
  have k2 := k 2 (by omega)
  have k3 := k 3 (by omega)
  rw [Nat.add_zero, g0] at k0
  rw [g1] at k1
  rw [g2] at k2
  rw [g3, hv] at k3
  rw [Nat.zero_add]
  exact ⟨by simpa using k0, by simpa using k1, by simpa using k2, A, n, c, k3⟩
instance : Inhabited Value := ⟨.slice none 0 0⟩
/-- Blocks that lie somewhere, cell by cell. -/
theorem lies_cells {w : World} {A : Option Addr} {l : List Bk} (h : BLies w A l) : ∃ L : List (Bk × Value), L.map (·.1) = l ∧ (∀ x ∈ L, ∃ A n c, x.2 = .slice A n c) ∧ ∀ ad, A = some ad → ∀ i u, (c4 L)[i]? = some u → w.cell? (ad.add i) = some u := by
  by_cases hn : 0 < l.length
  · obtain ⟨B, o, rfl, _, hc⟩ := h hn
    have each : ∀ j, j < l.length → ∃ v : Value, (∃ A n c, v = .slice A n c) ∧ w.cell? ⟨B, o + j * 4 + 3, none⟩ = some v := fun j hj => by
      obtain ⟨_, _, _, A, n, c, h3⟩ := hc j hj
      exact ⟨_, ⟨A, n, c, rfl⟩, h3⟩
    obtain ⟨pv, hpv⟩ := Deep.choose_lt each
    have hl : ((List.range l.length).map fun j => (l.getD j ⟨false, 0, 0, []⟩, pv j)).length = l.length := by simp
    refine ⟨(List.range l.length).map fun j => (l.getD j ⟨false, 0, 0, []⟩, pv j), ?_, fun x hx => ?_, fun ad e i u hu => ?_⟩
    · apply List.ext_getElem
      · simp
      · intro i h1 h2
        simp [h2]
    · obtain ⟨j, hj, rfl⟩ := List.mem_map.1 hx
      exact (hpv j (by simpa using hj)).1
    · cases e
      have hi : i < (c4 ((List.range l.length).map fun j => (l.getD j ⟨false, 0, 0, []⟩, pv j))).length := (List.getElem?_eq_some_iff.1 hu).1
      rw [c4_len, hl] at hi
      have hj : i / 4 < l.length := by omega
      obtain ⟨g0, g1, g2, g3⟩ := c4_get ((List.range l.length).map fun j => (l.getD j ⟨false, 0, 0, []⟩, pv j)) (i / 4) (by rw [hl]; exact hj)
      obtain ⟨b0, b1, b2, _⟩ := hc (i / 4) hj
      have b3 := (hpv (i / 4) hj).2
      rw [addr_at]
      have hr : i = i / 4 * 4 + i % 4 := by omega
      have h4 : i % 4 = 0 ∨ i % 4 = 1 ∨ i % 4 = 2 ∨ i % 4 = 3 := by omega
      rcases h4 with e | e | e | e <;> rw [hr, e] at hu ⊢
      · rw [Nat.add_zero, g0] at hu; cases hu
        rw [Nat.add_zero]; simpa [hj] using b0
      · rw [g1] at hu; cases hu
        rw [← Nat.add_assoc]; simpa [hj] using b1
      · rw [g2] at hu; cases hu
        rw [← Nat.add_assoc]; simpa [hj] using b2
      · rw [g3] at hu; cases hu
        rw [← Nat.add_assoc]; simpa [hj] using b3
  · have : l = [] := List.eq_nil_of_length_eq_zero (by omega)
    subst this
    exact ⟨[], rfl, (fun _ h => by cases h), fun _ _ i u hu => by simp [c4] at hu⟩
theorem cleansFrom_ge (k : Nat) (l : List Bk) : ∀ x ∈ cleansFrom k l, (k : Int) ≤ x := by
  induction l generalizing k with
  | nil => intro x hx; cases hx
  | cons q r ih =>
    intro x hx
    simp only [cleansFrom] at hx
    split at hx
    · rcases List.mem_cons.1 hx with e | e
      · omega
      · have := ih (k + 1) x e; omega
    · have := ih (k + 1) x hx; omega
theorem cleansFrom_bad (k : Nat) (l : List Bk) (i : Nat) (hi : i < l.length) (b : Bk) (hb : cleanB b = false) : cleansFrom k (l.set i b) = (cleansFrom k l).filter fun x => decide (x ≠ ((k + i : Nat) : Int)) := by
  induction l generalizing k i with
  | nil => simp at hi
  | cons q r ih =>
    cases i with
    | zero =>
      have hf : (cleansFrom (k + 1) r).filter (fun x => decide (x ≠ ((k + 0 : Nat) : Int))) = cleansFrom (k + 1) r := by
        rw [List.filter_eq_self]
        intro x hx
        have := cleansFrom_ge (k + 1) r x hx
        simp; omega
      simp only [List.set_cons_zero, cleansFrom, hb]
      rw [if_neg (by decide)]
      split
      · rw [List.filter_cons, if_neg (by simp), hf]
      · rw [hf]
    | succ i =>
      have := ih (k + 1) i (by simpa using hi)
      rw [show k + 1 + i = k + (i + 1) by omega] at this
      simp only [List.set_cons_succ, cleansFrom]
      split
      · rw [List.filter_cons, if_pos (by simp; omega), this]
      · exact this
/-- Without k. -/
def dropK (xs : List Int) (k : Nat) : List Int := xs.filter fun x => decide (x ≠ (k : Int))
theorem dropK_le (xs : List Int) (k : Nat) : (dropK xs k).length ≤ xs.length := List.length_filter_le _ _
theorem cleansB_bad (l : List Bk) (i : Nat) (hi : i < l.length) : cleansB (l.set i { l[i] with bad := true }) = dropK (cleansB l) i := by
  have := cleansFrom_bad 0 l i hi { l[i] with bad := true } (by simp [cleanB])
  rwa [Nat.zero_add] at this
theorem badB_bad (l : List Bk) (i : Nat) (hi : i < l.length) : badB (l.set i { l[i] with bad := true }) = badB l + if l[i].bad = true then 0 else 1 := by
  unfold badB
  rw [List.countP_set hi]
  have : l[i].bad = true → 0 < l.countP (·.bad) := fun h => List.countP_pos_iff.2 ⟨l[i], List.getElem_mem hi, h⟩
  cases h : l[i].bad with
  | true => have := this h; simp; omega
  | false => simp
theorem blk_info : (Try.prog.info? 27).map (fun i => (i.zero, i.size, i.bytes)) = some (some (.agg #[.bool false, .int .i64 0, .int .i64 0, .slice none 0 0]), 4, 48) := by kernel_rfl
theorem filter_take (xs : List Int) (k : Nat) (j : Nat) (h : j < xs.length) : dropK (xs.take (j + 1)) k = dropK (xs.take j) k ++ if xs[j] = (k : Int) then [] else [xs[j]] := by
  unfold dropK
  rw [List.take_succ_eq_append_getElem h, List.filter_append]
  congr 1
  by_cases e : xs[j] = (k : Int)
  · rw [if_pos e]; simp [e]
  · rw [if_neg e]; simp [e]
theorem u64_at (x : Int) (n : Nat) (h : 0 < n) (h2 : n ≤ 100000) : ∃ i : Nat, i < n ∧ wrap64 (IntKind.u64.wrap x % (n : Int)) = (i : Int) := by
  have h1 := Int.emod_nonneg (IntKind.u64.wrap x) (show (n : Int) ≠ 0 by omega)
  have h3 := Int.emod_lt_of_pos (IntKind.u64.wrap x) (show 0 < (n : Int) by omega)
  refine ⟨(IntKind.u64.wrap x % (n : Int)).toNat, by omega, ?_⟩
  rw [show wrap64 (IntKind.u64.wrap x % (n : Int)) = IntKind.u64.wrap x % (n : Int) by unfold wrap64; omega]
  omega
set_option maxRecDepth 100000 in
set_option maxHeartbeats 4000000 in
theorem turns8_any (A : Option Addr) (c : Nat) (l : List Bk) (k : Int) (w : World) (_hc : l.length ≤ maxLen) (hA : BLies w A l) (hw : BWf l) :
    Calls Try.prog 5 #[.slice A l.length c, .int .i64 k] w (Holds w) := by
  unfold maxLen at _hc
  by_cases hl0 : l.length < 1
  · clear hA hw
    go_enter Try.func5, Try.ntmps5
    go_wp2_with (go_at_call 6; refine (awake_any _).mono ?_; rintro e w1 ⟨rfl, hb1⟩)
    go_ret
    exact ⟨rfl, hb1⟩
  by_cases hl : 60 < l.length
  · clear hA hw
    go_enter Try.func5, Try.ntmps5
    go_wp2_with (go_at_call 6; refine (awake_any _).mono ?_; rintro e w1 ⟨rfl, hb1⟩)
    go_ret
    exact ⟨rfl, hb1⟩
  have HA := Lib.hid hA
  have HW := Lib.hid hw
  have r0 := u64_rng k
  obtain ⟨K, hK, hKe⟩ := u64_at k l.length (by omega) (by omega)
  clear hA hw
  go_enter Try.func5, Try.ntmps5
  go_upto_region 4 with fail
  rw [hKe]
  clear r0 hKe
  obtain ⟨i0, hi, hz0, hz1, hz2⟩ := info_parts blk_info
  obtain ⟨B, o, rfl, hBs, _⟩ := HA.out (by omega)
  obtain ⟨L, hL, hLs, hLc⟩ := lies_cells HA.out
  have hLl : L.length = l.length := by rw [← hL]; simp
  have hown0 : (w.alloc (.cells #[] 27)).ownsRow w.heap.size 27 4 (.slice (some ⟨w.heap.size, 0, none⟩) 0 0) 0 [] := World.ownsRow_lit (base := w.heap.size) (e := 27) (size := 4) w #[] 0 (Nat.le_refl _) (by omega) rfl
  have hnews : ∀ (j : Nat) u, (c4 L)[j]? = some u → (w.alloc (.cells #[] 27)).cell? ((⟨B, o, none⟩ : Addr).add j) = some u := fun j u hu =>
    (((Below.refl _ w).alloc (Nat.le_refl _) (.cells #[] 27)).cell (by rw [block_add]; exact hBs)).trans (hLc _ rfl j u hu)
  have hone : ∀ u ∈ c4 L, u.oneCell' = true := fun u hu => by
    obtain ⟨x, hx, hux⟩ := List.mem_flatMap.1 hu
    obtain ⟨A9, n9, c9, e9⟩ := hLs x hx
    rw [e9] at hux
    simp at hux
    rcases hux with rfl | rfl | rfl | rfl <;> rfl
  have HLs := Lib.hid hLs
  have HLL := Lib.hid hLl
  have HLm := Lib.hid hL
  clear hLs hL
  go_upto_region 5 with (at_builtin; refine wpList_append_own _ rfl _ _ 22 rfl w.heap.size 27 i0 (.agg #[.bool false, .int .i64 0, .int .i64 0, .slice none 0 0]) 4 48 Try.underlying22 hi hz0 hz1 hz2 rfl (by decide) _ _ _ rfl hown0 ⟨B, o, none⟩ l.length c (c4 L) rfl (by rw [c4_len, hLl]) hnews hone (by unfold maxLen; omega) (by omega) (by simp) ?_; intro v1 w1 hown1 hgr1 _)
  rw [Nat.zero_add, List.nil_append] at hown1
  obtain ⟨g, cap, rfl, hg⟩ : ∃ g cap, v1 = .slice (some ⟨g, 0, none⟩) l.length cap ∧ w.heap.size ≤ g := by
    rcases hown1.2 with ⟨_, h0⟩ | ⟨g, cap, cur, e, hb, _⟩
    · omega
    · exact ⟨g, cap, e, hb⟩
  have HB1 : Hid (Below w.heap.size w w1) := Lib.hid (((Below.refl _ w).alloc (Nat.le_refl _) _).grown hgr1 (by simp) (fun k e => by cases e; exact Nat.le_refl _))
  have hKL : K < L.length := by omega
  have q0 := World.ownsRow.cellAt hown1 (K * 4) (by omega)
  rw [(c4_get L K hKL).1] at q0
  have q1 := World.ownsRow.frozenAt hown1 (K * 4)
  obtain ⟨w2, hw2⟩ : ∃ w2, w2 = w1.setCell ⟨g, K * 4, none⟩ (.bool true) := ⟨_, rfl⟩
  have HB2 : Hid (Below w.heap.size w w2) := Lib.hid (by rw [hw2]; exact HB1.out.setCell (p := ⟨g, K * 4, none⟩) hg _)
  have HM2 : Hid (BLies w2 (some ⟨g, 0, none⟩) (l.set K { l[K] with bad := true })) := Lib.hid (by
    have h := (World.ownsRow.stored hown1 (K * 4) (.bool true)).1
    rw [c4_set L K hKL, ← hw2] at h
    have h2 := own_lies (by rw [List.length_set]; exact hLl.symm) h (fun x hx => by
      rcases List.mem_or_eq_of_mem_set hx with hx | rfl
      · exact HLs.out x hx
      · exact HLs.out L[K] (List.getElem_mem hKL))
    have e : (L.set K ({ L[K].1 with bad := true }, L[K].2)).map (·.1) = l.set K { l[K] with bad := true } := by
      rw [List.map_set, HLm.out]
      congr 1
      simp [← HLm.out]
    rwa [e] at h2)
  clear hnews hone hown0 hgr1 hLc hown1
  go_upto_region 6 with fail
  rw [← hw2]
  have hCB := cleansB_bad l K hK
  have hBB := badB_bad l K hK
  have hb0 := bad_le l
  have hwK := HW.out _ (List.getElem_mem hK)
  obtain ⟨M, hM⟩ : ∃ M, M = l.set K { l[K] with bad := true } := ⟨_, rfl⟩
  have hMl : M.length = l.length := by rw [hM, List.length_set]
  have hMK : M[K]? = some { l[K] with bad := true } := by rw [hM]; simp [hK]
  rw [← hM] at hCB hBB HM2
  have hk0 : BkC w B (o + K * 4) l[K] := by
    obtain ⟨B', o', e', _, hc'⟩ := HA.out (by omega)
    cases e'
    exact hc' K hK
  have HK0 := Lib.hid hk0
  have HKB := Lib.hid hBs
  generalize l[K] = b at hMK hBB hwK HK0
  obtain ⟨bad, next, count, pgs⟩ := b
  have HWk := Lib.hid hwK
  have HML := Lib.hid hMl
  have HMK := Lib.hid hMK
  have HCl : Hid (∀ w1, Below w.heap.size w w1 → Calls Try.prog 10 #[.slice (some ⟨B, o, none⟩) l.length c] w1 (RowPost (cleansB l) w1)) := Lib.hid fun w1 h1 => cleans_any _ c l w1 (by omega) (HA.out.below h1)
  have HCm : Hid (∀ w1, BLies w1 (some ⟨g, 0, none⟩) M → Calls Try.prog 10 #[.slice (some ⟨g, 0, none⟩) l.length cap] w1 (RowPost (dropK (cleansB l) K) w1)) := Lib.hid fun w1 h1 => by
    have h := cleans_any _ cap M w1 (by omega) h1
    rwa [hCB, hMl] at h
  have HBl : Hid (∀ w1, Below w.heap.size w w1 → Calls Try.prog 9 #[.slice (some ⟨B, o, none⟩) l.length c] w1 fun e w' => e = .returned (.int .i64 (badB l : Int)) ∧ Below w1.heap.size w1 w') := Lib.hid fun w1 h1 => bad_any _ c l w1 (by omega) (HA.out.below h1)
  obtain ⟨x, hxe⟩ : ∃ x : Int, (badB M : Int) = x := ⟨_, rfl⟩
  have hxd : (bad = true ∧ x - (badB l : Int) = 0) ∨ (bad = false ∧ x - (badB l : Int) = 1) := by
    rw [← hxe, hBB]
    cases bad with
    | true => exact .inl ⟨rfl, by simp⟩
    | false => exact .inr ⟨rfl, by simp; omega⟩
  have hx1 : 0 ≤ x ∧ x ≤ 100 := by
    have := bad_le M
    omega
  have HBm : Hid (∀ w1, BLies w1 (some ⟨g, 0, none⟩) M → Calls Try.prog 9 #[.slice (some ⟨g, 0, none⟩) l.length cap] w1 fun e w' => e = .returned (.int .i64 x) ∧ Below w1.heap.size w1 w') := Lib.hid fun w1 h1 => by
    have h := bad_any _ cap M w1 (by omega) h1
    rwa [hMl, hxe] at h
  have HLf : Hid (∀ w1 A n c, Calls Try.prog 7 #[bcV ⟨true, next, count, pgs⟩ A n c, .int .i64 9] w1 fun e w' => e = .returned (.int .i64 0) ∧ Below w1.heap.size w1 w') := Lib.hid fun w1 A n c => left_any ⟨true, next, count, pgs⟩ A n c 9 w1 hwK (by decide)
  have HCn : Hid (∀ w1 A n c, Calls Try.prog 8 #[bcV ⟨true, next, count, pgs⟩ A n c] w1 fun e w' => e = .returned (.bool false) ∧ Below w1.heap.size w1 w') := Lib.hid fun w1 A n c => clean_any ⟨true, next, count, pgs⟩ A n c w1
  have hx0 := cleans_le l
  generalize cleansB l = xs at *
  generalize badB l = nb at *
  clear hw2 q0 q1 HB1 hi hz0 hz1 hz2 hLl hM hMl hMK hCB hBB hwK hk0 hxe hKL HLs HLm HLL
  have hnb : nb ≤ 100 := by omega
  go_wp2_with fail
  refine (HCl.out w2 HB2.out).mono ?_
  rintro e w3 ⟨A3, c3, rfl, hi3, hn3, hb3⟩
  have HB3 := Lib.hid (HB2.out.trans (hb3.mono HB2.out.size))
  have HM3 := Lib.hid (HM2.out.below hb3)
  have HI3 := Lib.hid hi3
  clear hb3 hi3 hn3
  go_wp2_with fail
  refine (HCm.out w3 HM3.out).mono ?_
  rintro e w4 ⟨A4, c4, rfl, hi4, hn4, hb4⟩
  have HB4 := Lib.hid (HB3.out.trans (hb4.mono HB3.out.size))
  have HM4 := Lib.hid (HM3.out.below hb4)
  have HI4 := Lib.hid (HI3.out.below hb4)
  have HJ4 := Lib.hid hi4
  clear hb4 hi4 hn4
  go_wp2_with fail
  refine (HBm.out w4 HM4.out).mono ?_
  rintro e w5 ⟨rfl, hb5⟩
  have HB5 := Lib.hid (HB4.out.trans (hb5.mono HB4.out.size))
  have HM5 := Lib.hid (HM4.out.below hb5)
  have HI5 := Lib.hid (HI4.out.below hb5)
  have HJ5 := Lib.hid (HJ4.out.below hb5)
  clear hb5
  go_wp2_with fail
  refine (HBl.out w5 HB5.out).mono ?_
  rintro e w6 ⟨rfl, hb6⟩
  have HB6 := Lib.hid (HB5.out.trans (hb6.mono HB5.out.size))
  have HM6 := Lib.hid (HM5.out.below hb6)
  have HI6 := Lib.hid (HI5.out.below hb6)
  have HJ6 := Lib.hid (HJ5.out.below hb6)
  clear hb6
  obtain ⟨k0, _, _, _⟩ := HK0.out.kept (HB6.out.block B HKB.out)
  have mcells : ∀ W, BLies W (some ⟨g, 0, none⟩) M → BkC W g (K * 4) ⟨true, next, count, pgs⟩ := fun W h => by
    obtain ⟨g', o', e', _, hc'⟩ := h (by rw [HML.out]; omega)
    cases e'
    have := hc' K (by rw [HML.out]; exact hK)
    rw [(List.getElem?_eq_some_iff.1 HMK.out).2, Nat.zero_add] at this
    exact this
  have HMc := Lib.hid mcells
  clear mcells
  obtain ⟨m0, m1, m2, A6, n6, c6, m3⟩ := HMc.out w6 HM6.out
  clear hb0
  rcases hxd with ⟨rfl, hxd⟩ | ⟨rfl, hxd⟩
  all_goals
    go_wp2_with fail
    refine (HLf.out w6 A6 n6 c6).mono ?_
    rintro e w7 ⟨rfl, hb7⟩
    have HB7 := Lib.hid (HB6.out.trans (hb7.mono HB6.out.size))
    have HM7 := Lib.hid (HM6.out.below hb7)
    have HI7 := Lib.hid (HI6.out.below hb7)
    have HJ7 := Lib.hid (HJ6.out.below hb7)
    clear hb7
    obtain ⟨p0, p1, p2, A7, n7, c7, p3⟩ := HMc.out w7 HM7.out
    go_wp2_with fail
    refine (HCn.out w7 A7 n7 c7).mono ?_
    rintro e w8 ⟨rfl, hb8⟩
    have HB8 := Lib.hid (HB7.out.trans (hb8.mono HB7.out.size))
    have HI8 := Lib.hid (HI7.out.below hb8)
    have HJ8 := Lib.hid (HJ7.out.below hb8)
    clear hb8
    go_wp2_with fail
    have hxl : xs.length ≤ 100 := by omega
    go_loopw [9, 83] (fun v9 v83 wr => ∃ j : Nat, j ≤ xs.length ∧ v83 = .int .i64 j ∧ IOwn wr w8.heap.size v9 (dropK (xs.take j) K) ∧ Below w8.heap.size w8 wr) (fun _ v83 _ => xs.length - (intOf v83).toNat)
    case atStart => exact ⟨0, Nat.zero_le _, rfl, iown_nil _ _, Below.refl _ _⟩
    case round =>
      obtain ⟨j, hj, rfl, hO, hB⟩ := hrel
      have HO := Lib.hid hO
      have HBr := Lib.hid hB
      have hs := hB.size
      clear hO hB
      by_cases hj1 : j < xs.length
      · obtain ⟨Ba, oa, rfl, hBa, hca⟩ := (HI8.out.below HBr.out) (by omega)
        have q1 := hca j hj1
        have HT := Lib.hid (filter_take xs K j hj1)
        have hfl : (dropK (xs.take j) K).length ≤ 100 := by
          refine Nat.le_trans (dropK_le _ _) ?_
          simp; omega
        clear hca
        generalize (dropK (xs.take j) K) = F at *
        by_cases he : xs[j] = (K : Int)
        · rw [if_pos he, List.append_nil] at HT
          rw [he] at q1
          clear he
          go_wp2_with fail
          go_roundw
          case rel => exact ⟨j + 1, by omega, by go_num, by rw [HT.out]; exact HO.out, HBr.out⟩
          case measure => simp [intOf]; omega
        · rw [if_neg he] at HT
          have hne : (xs[j] == (K : Int)) = false := by simpa using he
          generalize xs[j] = y at q1 HT hne
          obtain ⟨p, cap9, rfl, _⟩ := own_slice HO.out
          clear he
          go_wp2_with (at_builtin; refine wpList_app rfl _ _ rfl w8.heap.size _ F [y] _ 1 rfl rfl (iown_keep HO.out ((Below.refl _ _).alloc (Nat.le_refl _) _)) (iown_one _ _) (by simp) (by simp; omega) (by simp; omega) ?_; intro q cap2 w9 h9 hg9)
          go_roundw
          case rel => exact ⟨j + 1, by omega, by go_num, by rw [HT.out]; exact h9, iown_below (v := .slice p F.length cap9) (iown_keep HO.out ((Below.refl _ _).alloc (Nat.le_refl _) _)) (HBr.out.alloc hs _) hg9 (by simp; omega)⟩
          case measure => simp [intOf]; omega
      · obtain rfl : j = xs.length := by omega
        have hz := Lib.hid (show xs.take xs.length = xs from List.take_length)
        rw [hz.out] at HO
        have HJr := Lib.hid (HJ8.out.below HBr.out)
        have hfl : (dropK xs K).length ≤ 100 := Nat.le_trans (dropK_le _ _) hxl
        generalize (dropK xs K) = F at *
        obtain ⟨p, cap9, rfl, _⟩ := own_slice HO.out
        have HPr := Lib.hid HO.out.arr.1
        have HBw := Lib.hid (HB8.out.trans (HBr.out.mono HB8.out.size))
        have hne : ((F.length : Int) != (F.length : Int)) = false := by simp
        go_wp2_with fail
        go_loopw [102] (fun v102 wx => ∃ i : Nat, i ≤ F.length ∧ v102 = .int .i64 i ∧ Below wr.heap.size wr wx) (fun v102 _ => F.length - (intOf v102).toNat)
        case atStart => exact ⟨0, Nat.zero_le _, rfl, Below.refl _ _⟩
        case round =>
          obtain ⟨i, hi, rfl, hB⟩ := hrel
          have HBx := Lib.hid hB
          clear hB
          by_cases hi1 : i < F.length
          · obtain ⟨Ba, oa, rfl, hBa, hca⟩ := (HJr.out.below HBx.out) (by omega)
            obtain ⟨Bb, ob, rfl, hBb, hcb⟩ := (HPr.out.below HBx.out) (by omega)
            have q1 := hca i hi1
            have q2 := hcb i hi1
            clear hca hcb
            generalize F[i] = y at q1 q2
            go_wp2_with fail
            go_quiet (fail)
            go_wp2_with fail
            go_roundw
            case rel => exact ⟨i + 1, by omega, by go_num, drewN_below HBx.out _⟩
            case measure => simp [intOf]; omega
          · obtain rfl : i = F.length := by omega
            go_wp2_with (go_at_call 6; refine (awake_any _).mono ?_; rintro e w9 ⟨rfl, hb9⟩)
            go_ret
            have h1 := HBw.out.trans (HBx.out.mono HBw.out.size)
            exact ⟨rfl, h1.trans (hb9.mono h1.size)⟩
end Go.Proofs.Yteghegojhhoppaa
