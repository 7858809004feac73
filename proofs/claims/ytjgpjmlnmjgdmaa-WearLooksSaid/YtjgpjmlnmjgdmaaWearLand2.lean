/- The landed package wear: Buckets. -/
import Derived.Test.YtjgpjmlnmjgdmaaWearLand
namespace Go.Proofs.Ytjgpjmlnmjgdmaa
open Go.RowKit

/-- The first j buckets, and nothing behind. -/
def partL (zs : List (Int × Bool)) (lo : Int) (n j : Nat) : List Int := (List.range n).map fun (k : Nat) => if k < j then ((countP' zs (lo + (k : Int)) : Nat) : Int) else 0
theorem partL_length (zs : List (Int × Bool)) (lo : Int) (n j : Nat) : (partL zs lo n j).length = n := by simp [partL]
theorem partL_zero (zs : List (Int × Bool)) (lo : Int) (n : Nat) : partL zs lo n 0 = List.replicate n 0 := by
  apply List.ext_getElem
  · simp [partL]
  · intro i h1 h2
    simp [partL]
theorem partL_set (zs : List (Int × Bool)) (lo : Int) (n j : Nat) : partL zs lo n (j + 1) = (partL zs lo n j).set j ((countP' zs (lo + (j : Int)) : Nat) : Int) := by
  apply List.ext_getElem
  · simp [partL]
  · intro i h1 h2
    rw [List.getElem_set]
    simp only [partL, List.getElem_map, List.getElem_range]
    by_cases hi : j = i
    · subst hi; simp
    · rw [if_neg hi]
      by_cases h : i < j
      · rw [if_pos h, if_pos (by omega)]
      · rw [if_neg h, if_neg (by omega)]
theorem partL_all (zs : List (Int × Bool)) (lo : Int) (n : Nat) : partL zs lo n n = cntL zs lo n := by
  apply List.ext_getElem
  · simp [partL, cntL]
  · intro i h1 h2
    have hi : i < n := by simpa [partL] using h1
    simp [partL, cntL, hi]
/-- How often each was met so far. -/
def oftenL (L : List Int) (j : Nat) : Int → Int := fun x => ((((L.take j).countP (· == x)) : Nat) : Int)
theorem often_zero (L : List Int) : oftenL L 0 = fun _ => 0 := by funext x; simp [oftenL]
theorem often_le (L : List Int) (j : Nat) (x : Int) : 0 ≤ oftenL L j x ∧ oftenL L j x ≤ L.length := by
  have h : (L.take j).countP (· == x) ≤ (L.take j).length := List.countP_le_length
  have h2 : (L.take j).length ≤ L.length := by simp; omega
  unfold oftenL
  omega
theorem often_more (L : List Int) (j : Nat) (hj : j < L.length) (hl : L.length ≤ 1000000) : oftenL L (j + 1) = upd (oftenL L j) L[j] (heldN (oftenL L j L[j]) 1) := by
  have hh : heldN (oftenL L j L[j]) 1 = oftenL L j L[j] + 1 := by
    have := often_le L j L[j]
    unfold heldN
    rw [if_neg (by omega), if_neg (by omega)]
  rw [hh]
  funext x
  unfold upd oftenL
  rw [List.take_succ_eq_append_getElem hj, List.countP_append]
  by_cases h : x = L[j]
  · rw [if_pos h, ← h]; simp
  · rw [if_neg h]
    have : (L[j] == x) = false := by simpa using fun e => h e.symm
    simp [this]
theorem often_all (zs : List (Int × Bool)) (x : Int) : oftenL (looksP zs) (looksP zs).length x = ((countP' zs x : Nat) : Int) := by
  unfold oftenL
  rw [List.take_length, count_look 0]
  rfl
section
variable (A A' : Option Addr) (c c' : Nat) (l : List Int) (b : List Bool) (w : World) (hl : l.length ≤ 1000) (hb : b.length ≤ 1000) (hA : IA w A l) (hA' : BA w A' b) (hw : ∀ x ∈ l, (Lit.int .i64 x).wf = true) (hR : Roomy A' c' b.length)
include hl hb hA hA' hw hR
set_option maxRecDepth 100000 in
set_option maxHeartbeats 4000000 in
theorem buck_any : Calls Try.prog 20 #[.slice A l.length c, .slice A' b.length c'] w (BuckPostW (l.zip b) w) := by
  have HLk := Lib.hid (look_any A A' c c' l b w (by omega) (by omega) hA hA' hR)
  have hle : (looksP (l.zip b)).length ≤ 1000 := by
    have := looks_le (l.zip b)
    simp at this; omega
  have HAp : Hid (∀ w1, Below w.heap.size w w1 → Calls Try.prog 11 #[.slice A l.length c, .slice A' b.length c'] w1 fun e w' => e = .returned (.int .i64 (apartP (l.zip b))) ∧ Below w1.heap.size w1 w') := Lib.hid fun w1 h1 => apart_any A A' c c' l b w1 hl hb (hA.below h1) (hA'.below h1) hw hR
  have HEn : Hid (∀ w1, Below w.heap.size w w1 → Calls Try.prog 9 #[.slice A l.length c, .slice A' b.length c'] w1 fun e w' => e = .returned (.tuple #[.int .i64 (loP (l.zip b)), .int .i64 (hiP (l.zip b))]) ∧ Below w1.heap.size w1 w') := Lib.hid fun w1 h1 => ends_any A A' c c' l b w1 hl hb (hA.below h1) (hA'.below h1) hw hR
  have hrng := ends_range l b hw
  have hwl : ∀ x ∈ looksP (l.zip b), (Lit.int .i64 x).wf = true := fun x hx => hw x (List.of_mem_zip ((mem_looks (l.zip b) x).2 hx)).1
  have HWL := Lib.hid hwl
  clear hA hA' hw hR hwl
  generalize l.zip b = zs at *
  by_cases hn : looksP zs = []
  · have hn0 : (looksP zs).length = 0 := by rw [hn]; rfl
    have HZ := Lib.hid (show bucketsP zs = [] from if_pos (.inl (by rw [cold_none (looks_nil hn)]; decide)))
    clear hn
    go_enter Try.func20, Try.ntmps20
    go_wp2_with (go_at_call 23; refine HLk.out.mono ?_; rintro e w1 ⟨v1, v2, rfl, h1, h2, hb1⟩; obtain ⟨p2, k2, rfl⟩ := ownsRow_slice h2; rw [hn0])
    go_ret
    refine ⟨none, 0, ?_, ?_, fun ad e => (by cases e), hb1⟩ <;> rw [HZ.out]
    · rfl
    · exact fun h => absurd h (by simp)
  obtain ⟨m, hm⟩ : ∃ m, (looksP zs).length = m := ⟨_, rfl⟩
  have hm1 : 1 ≤ m := by
    have := List.length_pos_iff.2 hn
    omega
  have hcold : ¬ coldP zs < 0 := by
    obtain ⟨x, hx⟩ := List.exists_mem_of_ne_nil _ hn
    obtain ⟨i, _, e, _⟩ := cold_some ((mem_looks zs x).2 hx)
    omega
  by_cases ha : 1000 < apartP zs
  · have HZ := Lib.hid (show bucketsP zs = [] from if_pos (.inr ha))
    have hm0 : ¬ ((m : Int) = 0) := by omega
    have HM := Lib.hid hm
    clear hn hcold hm hrng
    generalize apartP zs = ap at *
    go_enter Try.func20, Try.ntmps20
    go_wp2_with (first
      | (go_at_call 23; refine HLk.out.mono ?_; rintro e w1 ⟨v1, v2, rfl, h1, h2, hb1⟩; obtain ⟨p2, k2, rfl⟩ := ownsRow_slice h2; rw [HM.out])
      | (go_at_call 11; refine (HAp.out w1 hb1).mono ?_; rintro e w2 ⟨rfl, hb2⟩))
    go_ret
    refine ⟨none, 0, ?_, ?_, fun ad e => (by cases e), hb1.trans (hb2.mono hb1.size)⟩ <;> rw [HZ.out]
    · rfl
    · exact fun h => absurd h (by simp)
  obtain ⟨n, hn'⟩ : ∃ n : Nat, n = (apartP zs + 1).toNat := ⟨_, rfl⟩
  have HZ : Hid (bucketsP zs = cntL zs (loP zs) n) := by
    rw [hn']; exact if_neg (fun h => h.elim hcold ha)
  have h0 := apart_nonneg zs
  have hn1 : 1 ≤ n := by omega
  have hn2 : n ≤ 1001 := by omega
  have hap : apartP zs = (n : Int) - 1 := by omega
  have hhi : hiP zs = loP zs + (n : Int) - 1 := by
    have e : apartP zs = hiP zs - loP zs := by
      unfold apartP at ha ⊢
      split
      · rfl
      · next h => rw [if_neg h] at ha; omega
    omega
  have hrl := hrng.1
  have hrh := hrng.2.2
  rw [hhi] at hrh
  have HH := Lib.hid (And.intro hap hhi)
  have HM := Lib.hid hm
  have ha' : decide (1000 < (n : Int) - 1) = false := by simp; omega
  have hmz : ((m : Int) == 0) = false := by simp; omega
  have hmk : ∀ w : World, (Instr.makeSlice 22 (.int .i64 (loP zs + (n : Int) - 1 - loP zs + 1)) (.int .i64 (loP zs + (n : Int) - 1 - loP zs + 1))).run Try.prog w = .ok (.slice (some ⟨w.heap.size, 0, none⟩) n n) (w.alloc (.cells (madeCells #[Value.int .i64 0] n) 3)) := fun w => by
    rw [show loP zs + (n : Int) - 1 - loP zs + 1 = (n : Int) by omega]
    exact make_ints n (by omega) w
  have hm2 : m ≤ 1000 := by omega
  clear hn' h0 hap hhi ha hcold hn hrng hm
  go_enter Try.func20, Try.ntmps20
  go_wp2_with (first
    | (go_at_call 23; refine HLk.out.mono ?_; rintro e w1 ⟨v1, v2, rfl, h1, h2, hb1⟩; have H2 := Lib.hid h2; have HB1 := Lib.hid hb1; obtain ⟨p2, k2, rfl⟩ := ownsRow_slice h2; clear h1 h2 hb1; rw [HM.out])
    | (go_at_call 11; refine (HAp.out w1 HB1.out).mono ?_; rintro e w2 ⟨rfl, hb2⟩; have HB2 := Lib.hid hb2; clear hb2; rw [HH.out.1])
    | (go_at_call 29; refine (new_int _).mono ?_; rintro e w3 ⟨rfl, ht, hb3⟩; have HT := Lib.hid ht; have HB3 := Lib.hid hb3; clear ht hb3))
  have hpt : w2.heap.size ≤ w3.heap.size := HB3.out.size
  obtain ⟨B, hB⟩ : ∃ B, w2.heap.size = B := ⟨_, rfl⟩
  have HBB := Lib.hid hB
  have HB23 : Hid (Below w.heap.size w w3) := Lib.hid ((HB1.out.trans (HB2.out.mono HB1.out.size)).trans (HB3.out.mono (Nat.le_trans HB1.out.size HB2.out.size)))
  have HR2 : Hid (IOw w2 w.heap.size (.slice p2 m k2) (looksP zs)) := Lib.hid (by
    rw [← HM.out]
    exact own_keep H2.out fun k o _ _ ho _ => HB2.out.block k (lt_size ho))
  have HS2 := Lib.hid (show w.heap.size ≤ w2.heap.size from Nat.le_trans HB1.out.size HB2.out.size)
  clear hB hpt
  go_loopw [32] (fun v32 wr => ∃ (j : Nat) (ob : Option Nat), j ≤ m ∧ v32 = .int .i64 j ∧ Tally_int wr w2.heap.size ob j (oftenL (looksP zs) j) ∧ Below w2.heap.size w2 wr ∧ ∀ k, ob = some k → w2.heap.size ≤ k) (fun v32 _ => m - (intOf v32).toNat)
  case atStart => exact ⟨0, none, Nat.zero_le _, rfl, by rw [often_zero]; exact HT.out, HB3.out, fun k e => by cases e⟩
  case round =>
    obtain ⟨j, ob, hj, rfl, ht, hb2, hob⟩ := hrel
    have HTj := Lib.hid ht
    have HBj := Lib.hid hb2
    have HOb := Lib.hid hob
    clear ht hb2 hob
    by_cases hjm : j < m
    · have hjl : j < (looksP zs).length := by rw [HM.out]; exact hjm
      obtain ⟨g, cap, hv, hc⟩ := ow_cell HR2.out hjl
      rw [HM.out] at hv
      cases hv
      have hc2 := (HBj.out.cell (p := ⟨g, j, none⟩) (by
        have := (HR2.out.lt g rfl).2
        exact this)).trans hc
      obtain ⟨y, hy⟩ : ∃ y, (looksP zs)[j]'hjl = y := ⟨_, rfl⟩
      have hwy : (Lit.int .i64 y).wf = true := by rw [← hy]; exact HWL.out _ (List.getElem_mem hjl)
      have HMo := Lib.hid (often_more (looksP zs) j hjl (by omega))
      rw [hy] at HMo hc2
      have HAdd := Lib.hid (add_int w2.heap.size ob j (oftenL (looksP zs) j) y 1 wr HTj.out hwy (by omega))
      rw [← HMo.out] at HAdd
      clear hc hy hwy hjl
      go_wp2_with (go_at_call 30; refine HAdd.out.mono ?_; rintro e w4 ⟨rfl, ob4, ht4, hto, hob4⟩)
      go_roundw
      case rel => exact ⟨j + 1, ob4, by omega, by go_num, ht4, HBj.out.trans (hto.below (Nat.le_refl _) HOb.out HBj.out.size), fun k e => (hob4 k e).elim (fun h => HOb.out k h) (fun h => Nat.le_trans HBj.out.size h)⟩
      case measure => simp [intOf]; omega
    · obtain rfl : j = m := by omega
      have HTm : Hid (Tally_int wr w2.heap.size ob j fun x => ((countP' zs x : Nat) : Int)) := Lib.hid (by
        have h := HTj.out
        rw [show oftenL (looksP zs) j = fun x => ((countP' zs x : Nat) : Int) from by
          funext x
          rw [← HM.out]
          exact often_all zs x] at h
        exact h)
      have HBw := Lib.hid ((HB1.out.trans (HB2.out.mono HB1.out.size)).trans (HBj.out.mono HS2.out))
      clear hjm
      go_wp2_with (go_at_call 9; refine (HEn.out wr HBw.out).mono ?_; rintro e w5 ⟨rfl, hb5⟩; rw [HH.out.2])
      have HW5 := Lib.hid (HBw.out.trans (hb5.mono HBw.out.size))
      have HT5 := Lib.hid (HTm.out.below hb5)
      have HX0 := Lib.hid (heap_alloc_new w5 (.cells (madeCells #[Value.int .i64 0] n) 3))
      have HW6 := Lib.hid (HW5.out.alloc HW5.out.size (.cells (madeCells #[Value.int .i64 0] n) 3))
      have HT6 := Lib.hid (HT5.out.below ((Below.refl _ w5).alloc (Nat.le_refl _) (.cells (madeCells #[Value.int .i64 0] n) 3)))
      have HS5 := Lib.hid HW5.out.size
      have HLt := Lib.hid HT5.out.lt
      obtain ⟨G, hG⟩ : ∃ G, w5.heap.size = G := ⟨_, rfl⟩
      rw [made_ints, hG] at HX0
      rw [hG] at HS5 HLt
      rw [made_ints] at HW6 HT6
      have hme := made_ints n
      rw [hG]
      rw [hme]
      generalize w5.alloc (.cells ((List.replicate n (0 : Int)).map (Value.int .i64)).toArray 3) = w6 at HX0 HW6 HT6 ⊢
      clear hmk hme hG hb5 HT5 HW5 HTm
      go_loopw [53] (fun v53 wx => ∃ i : Nat, i ≤ n ∧ v53 = .int .i64 i ∧ wx.heap[G]? = some (.cells ((partL zs (loP zs) n i).map (Value.int .i64)).toArray 3 (0, 0)) ∧ Tally_int wx w2.heap.size ob j (fun x => ((countP' zs x : Nat) : Int)) ∧ Below w.heap.size w wx) (fun v53 _ => n - (intOf v53).toNat)
      case atStart => exact ⟨0, Nat.zero_le _, rfl, by rw [partL_zero]; exact HX0.out, HT6.out, HW6.out⟩
      case round =>
        obtain ⟨i, hi, rfl, hx, ht, hbx⟩ := hrel
        have HX := Lib.hid hx
        have HTx := Lib.hid ht
        have HBx := Lib.hid hbx
        clear hx ht hbx
        by_cases hin : i < n
        · have q0 := row_cell HX.out i (by rw [partL_length]; exact hin)
          have q1 := row_frozen HX.out i
          have hwf : (Lit.int .i64 (loP zs + (i : Int))).wf = true := WalkArith.wf_i64 (by omega)
          have HOf : Hid (Calls Try.prog 31 #[.pointer (some ⟨w2.heap.size, 0, none⟩), .int .i64 (loP zs + (i : Int))] _ fun e w' => e = .returned (.int .i64 ((countP' zs (loP zs + (i : Int)) : Nat) : Int)) ∧ _ = w') := Lib.hid (of_int w2.heap.size ob j _ (loP zs + (i : Int)) _ HTx.out hwf)
          have HXN := Lib.hid (row_set HX.out i ((countP' zs (loP zs + (i : Int)) : Nat) : Int))
          rw [← partL_set] at HXN
          have hll := HLt.out
          generalize countP' zs (loP zs + (i : Int)) = v at HXN HOf
          clear hwf
          go_wp2_with (go_at_call 31; refine HOf.out.mono ?_; rintro e w7 ⟨rfl, rfl⟩)
          go_roundw
          case rel => exact ⟨i + 1, by omega, by go_num, HXN.out, HTx.out.kept (Below.heap_setCell _ ⟨G, i, none⟩ _ _ (by show w2.heap.size ≠ G; have := hll.1; omega)) (fun k e => Below.heap_setCell _ ⟨G, i, none⟩ _ _ (by show k ≠ G; have := hll.2 k e; omega)), HBx.out.setCell (p := ⟨G, i, none⟩) HS5.out _⟩
          case measure => simp [intOf]; omega
        · obtain rfl : i = n := by omega
          go_wp2_with fail
          go_ret
          refine ⟨some ⟨G, 0, none⟩, i, ?_, ?_, fun ad e => (by cases e; exact HS5.out), HBx.out⟩ <;> rw [HZ.out]
          · rw [cntL_length]; rfl
          · rw [← partL_all]; exact row_arr HX.out
end
end Go.Proofs.Ytjgpjmlnmjgdmaa
