/- Contracts of the packages below: Make, Read, Step, Laws, Sheet, Parse. -/
import Derived.Lib.SliceRun
import Derived.Test.YtnadcdgpfopcaaaGreatGb
import Derived.Test.YtnadcdgpfopcaaaGreatShelf
namespace Go.Proofs.YtnadcdgpfopcaaaGreat
open Go.RowKit

set_option maxRecDepth 100000 in
theorem count_any (n : Nat) (w : World) (h : n ≤ 1099511627776) : Calls Tryz.prog 160 #[.int .i64 n] w fun e w' => e = .returned (.int .i64 (numL n).length) ∧ w = w' := by
  have hc := numL_cnt n (by omega)
  have hl := Lib.bitLen_le n 41 (by omega) (by omega)
  obtain ⟨B, hB⟩ : ∃ B, B = Lib.bitLen n := ⟨_, rfl⟩
  rw [← hB] at hc hl
  have hh := Lib.hid hc
  have hb := Lib.hid hB
  have hn := Int.toNat_natCast n
  clear hc hB
  go_enter Tryz.func160, Tryz.ntmps160
  go_wp2_with (go_at_call 105; refine (Tryz.bits_Len _ _ (by omega) (by omega)).mono ?_; rintro e w' ⟨rfl, rfl⟩; rw [hn, ← hb.out])
  go_ret
  exact ⟨ret_int (by rw [hh.out]; omega), rfl⟩

/-- The digits up to the place k, 128 added to each. -/
def digs (n c k : Nat) : List Value := (List.range c).map fun i => if i < k then ub (byteOf (n / 128 ^ (c - 1 - i) % 128 + 128)) else .int .u8 0
theorem digs_set (n c k : Nat) (h : k < c) : (digs n c k).set k (ub (byteOf (n / 128 ^ (c - 1 - k) % 128 + 128))) = digs n c (k + 1) := by
  unfold digs
  apply List.ext_getElem?
  intro j
  rw [List.getElem?_set]
  by_cases hj : j < c
  · by_cases e : k = j
    · subst e; simp [h]
    · simp only [e, if_false, List.getElem?_map, List.getElem?_range hj, Option.map_some]
      congr 1
      split <;> split <;> first | rfl | omega
  · by_cases e : k = j
    · omega
    · simp [e, hj]
theorem digs_last (n c : Nat) (h : (numL n).length = c) (h1 : 1 ≤ c) : (digs n c c).set (c - 1) (ub (byteOf (n % 128))) = (numL n).map ub := by
  unfold digs
  apply List.ext_getElem?
  intro j
  rw [List.getElem?_set]
  by_cases hj : j < c
  · have ha : ((numL n).map ub)[j]? = some (ub (byteOf (n / 128 ^ (c - 1 - j) % 128 + if j + 1 < c then 128 else 0))) := by
      rw [List.getElem?_map, numL_at n j (by omega), h]; rfl
    rw [ha]
    by_cases e : c - 1 = j
    · subst e
      rw [if_pos rfl, if_pos (by simp; omega), if_neg (by omega)]; simp
    · rw [if_neg e, List.getElem?_map, List.getElem?_range hj, if_pos (by omega)]
      simp [hj]
  · rw [if_neg (by omega), List.getElem?_map, List.getElem?_map, List.getElem?_eq_none (by simpa using hj), List.getElem?_eq_none (by omega)]
    rfl
theorem digs_at (n c k : Nat) (h : k < c) : (digs n c k)[k]? = some (.int .u8 0) := by unfold digs; simp [h]
theorem digs_zero (n c : Nat) : (madeCells (Value.int .u8 0).cells (c * 1)).toList = digs n c 0 := by
  show (madeCells #[Value.int .u8 0] (c * 1)).toList = _
  rw [Nat.mul_one, toList_madeCells_one]
  unfold digs
  apply List.ext_getElem?
  intro j
  by_cases hj : j < c
  · simp [hj]
  · simp [hj]
theorem digs_full (n c : Nat) (h : 1 ≤ c) : (digs n c c)[c - 1]? = some (.int .u8 (n % 128 + 128 : Nat)) := by
  unfold digs
  rw [List.getElem?_map, List.getElem?_range (by omega), Option.map_some, if_pos (by omega), show c - 1 - (c - 1) = 0 by omega, Nat.pow_zero, Nat.div_one, ub_ofNat _ (by omega)]
theorem dig_end (n : Nat) : Value.int .u8 (bits .andNot .u8 ((n % 128 + 128 : Nat) : Int) 128) = ub (byteOf (n % 128)) := by
  rw [ub_ofNat _ (by omega), not128 _ (by omega) (by omega)]
  congr 1; omega
theorem dig_val (n m : Nat) : bits .or .u8 ((n : Int) / 2 ^ (7 * m) % 256) 128 = ((byteOf (n / 128 ^ m % 128 + 128)).toNat : Int) := by
  rw [byteOf_nat _ (by omega), or128 _ (by omega) (by omega), Int.pow_mul]
  show ((n : Int) / ((128 : Int)) ^ m % 256) % 128 + 128 = _
  have : ((n : Int) / ((128 : Int)) ^ m) = ((n / 128 ^ m : Nat) : Int) := by simp
  rw [this]; omega
set_option maxRecDepth 100000 in
theorem digits_any (n : Nat) (w : World) (h : n ≤ 1099511627776) : Calls Tryz.prog 144 #[.int .i64 n] w (Fresh w (numL n)) := by
  obtain ⟨i0, hi, hz0, hz1, hz2⟩ := info_parts info_byte
  obtain ⟨c, hc⟩ : ∃ c, c = (numL n).length := ⟨_, rfl⟩
  have hl := numL_len n (by omega)
  rw [← hc] at hl
  have H := Lib.hid hc
  clear hc
  go_enter Tryz.func144, Tryz.ntmps144
  go_wp2_with (first | (go_at_call 160; refine (count_any n _ h).mono ?_; rintro e w' ⟨rfl, rfl⟩; rw [← H.out]) | (at_make; go_loud (refine wpList_make_full _ rfl _ _ 34 rfl w.heap.size 5 i0 _ 1 Tryz.underlying34 hi hz0 hz1 .i64 .i64 _ _ c rfl rfl rfl rfl (by rw [hz2]; omega) (by unfold maxLen; omega) (Nat.le_refl _) ?_; intro w1 hown hg1)))
  have hs1 : w.heap.size < w1.heap.size := (hown.lt _ rfl).2
  go_loopw [4, 5, 11] (fun _ _ i wr => ∃ k : Nat, k ≤ c ∧ i = .int .i64 k ∧ wr.ownsRow w.heap.size 5 1 (.slice (some ⟨w.heap.size, 0, none⟩) c c) c (digs n c k) ∧ Below w.heap.size w wr) (fun _ _ i _ => c - (intOf i).toNat)
  case atStart => exact ⟨0, Nat.zero_le _, rfl, by rw [← digs_zero]; exact hown, (Below.refl _ _).grown hg1 (Nat.le_refl _) (fun k e => by cases e)⟩
  case round =>
    obtain ⟨k, hk, rfl, hown, hb⟩ := hrel
    by_cases hlt : k < c
    · have hcell := (hown.cellAt k (by omega)).trans (digs_at n c k hlt)
      have hfr := hown.frozenAt k
      have Hst := Lib.hid (hown.stored k (ub (byteOf (n / 128 ^ (c - 1 - k) % 128 + 128))))
      have Hv := Lib.hid (dig_val n (c - 1 - k))
      go_wp2
      go_roundw
      case rel =>
        rw [Hv.out]
        have := Hst.out.1
        rw [digs_set n c k hlt] at this
        exact ⟨k + 1, by omega, by go_num, this, hb.setCell (Nat.le_refl _) _⟩
      case measure => simp [intOf]; omega
    · obtain rfl : k = c := by omega
      have hcell := (hown.cellAt (k - 1) (by omega)).trans (digs_full n k (by omega))
      have hfr := hown.frozenAt (k - 1)
      have Hst := Lib.hid (hown.stored (k - 1) (ub (byteOf (n % 128))))
      have hk0 : 0 ≤ (k : Int) - 1 := by omega
      have hk1 : ((k : Int) - 1).toNat = k - 1 := by omega
      go_wp2
      go_ret
      have := Hst.out.1
      rw [digs_last n k H.out.symm (by omega), ← dig_end] at this
      exact Fresh.of this (Nat.le_refl _) (hb.setCell (Nat.le_refl _) _)

set_option maxRecDepth 100000 in
theorem grow_any (n : Nat) (w : World) (h : n ≤ 140737488355328) : Calls Tryz.prog 159 #[.slice none 0 0, .int .i64 n] w fun e w' => ∃ v, e = .returned v ∧ w'.ownsRow w.heap.size 5 1 v 0 [] ∧ Below w.heap.size w w' := by
  by_cases h0 : n = 0
  · subst h0
    go_enter Tryz.func159, Tryz.ntmps159
    go_wp2
    go_ret
    exact ⟨_, rfl, World.ownsRow_nil _ _ _ _, Below.refl _ _⟩
  · obtain ⟨i0, hi, hz0, hz1, hz2⟩ := info_parts info_byte
    have hrun := fun ty => Lib.run_append_nil_zeros (P := Tryz.prog) w 34 3 ty 5 i0 _ .i64 .i64 Tryz.underlying34 Tryz.underlying3 hi hz0 n (by omega) (by omega) (by omega) (by rw [hz2]; omega)
    have hge := grownCap_ge w n 0 5
    have hmx := grownCap_le_maxLen w n 0 5 (by unfold maxLen; omega)
    obtain ⟨G, hG⟩ : ∃ G, G = grownCap w n 0 5 := ⟨_, rfl⟩
    rw [← hG] at hrun hge hmx
    clear hG
    go_enter Tryz.func159, Tryz.ntmps159
    go_wp2_with (at_builtin; refine Lib.wpList_append_run _ rfl _ _ _ _ rfl _ _ rfl rfl _ _ (hrun _) ?_)
    go_ret
    exact ⟨_, rfl, World.ownsRow_made w.drew _ G (Nat.le_refl _) hmx (by simp [Builtin.zeroCells]; omega), (Below.refl _ _).drew.alloc (Nat.le_refl _) _⟩

theorem grow_int (x : Int) (n : Nat) (w : World) (hx : x = n) (h : n ≤ 140737488355328) : Calls Tryz.prog 159 #[.slice none 0 0, .int .i64 x] w fun e w' => ∃ v, e = .returned v ∧ w'.ownsRow w.heap.size 5 1 v 0 [] ∧ Below w.heap.size w w' := by
  subst hx
  exact grow_any n w h
/-- Fresh, and the bytes are a row of the call's own: more may be laid behind. -/
def FreshO (w : World) (l : List UInt8) (e : Ending) (w' : World) : Prop :=
  ∃ (A : Option Addr) (c : Nat) (L : List UInt8), e = .returned (.slice A L.length c) ∧ Hid (L = l) ∧ w'.ownsRow w.heap.size 5 1 (.slice A L.length c) L.length (L.map ub) ∧ Below w.heap.size w w'
theorem own_lower {w : World} {base base' n : Nat} {e : TypeId} {size : Nat} {v : Value} {xs : List Value} (h : w.ownsRow base e size v n xs) (hb : base' ≤ base) : w.ownsRow base' e size v n xs := by
  refine ⟨h.1, ?_⟩
  rcases h.2 with h0 | ⟨g, cap, cur, hv, hg, h1⟩
  · exact .inl h0
  · exact .inr ⟨g, cap, cur, hv, Nat.le_trans hb hg, h1⟩
theorem FreshO.fresh {w w' : World} {l : List UInt8} {e : Ending} (h : FreshO w l e w') : Fresh w l e w' := by
  obtain ⟨A, c, L, rfl, hL, hown, hb⟩ := h
  obtain ⟨A', c', L', he, h1, h2⟩ := Fresh.of hown (Nat.le_refl _) hb
  exact ⟨A', c', L', he, h1.out.trans hL.out, h2⟩
set_option maxRecDepth 100000 in
set_option maxHeartbeats 1000000 in
theorem concat_own (B g : Nat) (A1 A2 : Option Addr) (c1 c2 k : Nat) (l1 l2 : List UInt8) (w : World) (hg : w.heap[g]? = some (.cells #[.slice A1 l1.length c1, .slice A2 l2.length c2] 34 (0, 0)))
    (h1 : RB w B A1 l1) (h2 : RB w B A2 l2) (hB : B ≤ w.heap.size) (hl1 : l1.length ≤ 70368744177664) (hl2 : l2.length ≤ 70368744177664) :
    Calls Tryz.prog 143 #[.slice (some ⟨g, 0, none⟩) 2 k] w (FreshO w (l1 ++ l2)) := by
  obtain ⟨i0, hi, hz0, hz1, hz2⟩ := info_parts info_byte
  have hgl := lt_size hg
  have hc0 : w.cell? ⟨g, 0, none⟩ = some (.slice A1 l1.length c1) := by simp [World.cell?, hg]
  have hc1 : w.cell? ⟨g, 1, none⟩ = some (.slice A2 l2.length c2) := by simp [World.cell?, hg]
  go_enter Tryz.func143, Tryz.ntmps143
  go_wp2
  refine wp_loop_rounds 3 ?_
  rw [rounds_succ]
  go_wp2
  rw [rounds_succ]
  go_wp2
  rw [rounds_succ]
  go_wp2_with fail
  refine (grow_int _ (l1.length + l2.length) _ (by omega) (by omega)).mono ?_
  rintro e w1 ⟨v, rfl, hown, hb⟩
  obtain ⟨p, cap, rfl, _⟩ := own_slice hown
  have hs1 := hb.size
  have hc0' : w1.cell? ⟨g, 0, none⟩ = some (.slice A1 l1.length c1) := (hb.cell (p := ⟨g, 0, none⟩) hgl).trans hc0
  have hc1' : w1.cell? ⟨g, 1, none⟩ = some (.slice A2 l2.length c2) := (hb.cell (p := ⟨g, 1, none⟩) hgl).trans hc1
  have r1 := h1.below hb hB
  have r2 := h2.below hb hB
  clear hc0 hc1
  go_wp2
  refine wp_loop_rounds 3 ?_
  rw [rounds_succ]
  go_wp2_with (at_builtin; refine wpList_append_bytes _ rfl _ _ _ rfl w.heap.size 5 i0 _ Tryz.underlying34 hi hz0 hz1 hz2 rfl _ [] rfl hown B A1 c1 l1 rfl r1 (by simp; omega) hs1 ?_; intro p1 cap1 w2 hown1 hg1 _)
  rw [rounds_succ]
  simp only [List.nil_append] at hown1
  have hb1 := hb.grown hg1 hs1 fun k e => (hown.lt k e).1
  have hs2 := hb1.size
  have hc1'' : w2.cell? ⟨g, 1, none⟩ = some (.slice A2 l2.length c2) := (World.cell?_of_block (hg1.block g (by omega) fun e => by have := (hown.lt g e.symm).1; omega)).trans hc1'
  have r2' := r2.grown hg1 (by omega) fun k e => by have := (hown.lt k e).1; omega
  clear hc0' hc1'
  go_wp2_with (at_builtin; refine wpList_append_bytes _ rfl _ _ _ rfl w.heap.size 5 i0 _ Tryz.underlying34 hi hz0 hz1 hz2 rfl _ l1 rfl hown1 B A2 c2 l2 rfl r2' (by omega) hs2 ?_; intro p2 cap2 w3 hown2 hg2 _)
  rw [rounds_succ]
  have hb2 := hb1.grown hg2 hs2 fun k e => (hown1.lt k e).1
  go_wp2
  go_ret
  exact ⟨p2, cap2, l1 ++ l2, by rw [List.length_append]; rfl, rfl, hown2, hb2⟩
theorem concat_any (B g : Nat) (A1 A2 : Option Addr) (c1 c2 k : Nat) (l1 l2 : List UInt8) (w : World) (hg : w.heap[g]? = some (.cells #[.slice A1 l1.length c1, .slice A2 l2.length c2] 34 (0, 0)))
    (h1 : RB w B A1 l1) (h2 : RB w B A2 l2) (hB : B ≤ w.heap.size) (hl1 : l1.length ≤ 70368744177664) (hl2 : l2.length ≤ 70368744177664) :
    Calls Tryz.prog 143 #[.slice (some ⟨g, 0, none⟩) 2 k] w (Fresh w (l1 ++ l2)) :=
  (concat_own B g A1 A2 c1 c2 k l1 l2 w hg h1 h2 hB hl1 hl2).mono fun _ _ h => h.fresh

set_option maxRecDepth 100000 in
theorem cloneb_any (B : Nat) (A : Option Addr) (c : Nat) (l : List UInt8) (w : World) (h : RB w B A l) (hB : B ≤ w.heap.size) (hl : l.length ≤ 70368744177664) :
    Calls Tryz.prog 121 #[.slice A l.length c] w (Fresh w l) := by
  obtain ⟨i0, hi, hz0, hz1, hz2⟩ := info_parts info_byte
  rcases A with _ | ad
  · have hl0 : l = [] := by
      rcases Nat.eq_zero_or_pos l.length with h0 | h0
      · exact List.eq_nil_of_length_eq_zero h0
      · obtain ⟨ad, h, _⟩ := h h0
        cases h
    subst hl0
    have hnil := fun w => Lib.run_eql_slice_nil (P := Tryz.prog) w 34 5 none 0 c 0 0 Tryz.underlying34
    go_enter Tryz.func121, Tryz.ntmps121
    go_wp2
    go_ret
    exact ⟨none, 0, [], rfl, rfl, Nat.le_refl _, .nil, fun _ e => (by cases e), Below.refl _ _⟩
  · have hnil := fun w => Lib.run_eql_slice_nil (P := Tryz.prog) w 34 5 (some ad) l.length c 0 0 Tryz.underlying34
    go_enter Tryz.func121, Tryz.ntmps121
    have hown := World.ownsRow_made (base := w.heap.size) (e := 5) (size := 1) w #[] 0 (Nat.le_refl _) (Nat.zero_le _) rfl
    go_wp2_with (at_builtin; refine wpList_append_bytes _ rfl _ _ _ rfl w.heap.size 5 i0 _ Tryz.underlying34 hi hz0 hz1 hz2 rfl _ [] rfl hown B (some ad) c l rfl (h.alloc hB _) (by simp; omega) (by simp) ?_; intro p1 cap1 w2 hown1 hg1 _)
    go_ret
    exact Fresh.of hown1 (Nat.le_refl _) (((Below.refl _ _).alloc (Nat.le_refl _) _).grown hg1 (by simp) fun k e => (hown.lt k e).1)

theorem digits_int (x : Int) (n : Nat) (w : World) (hx : x = n) (h : n ≤ 1099511627776) : Calls Tryz.prog 144 #[.int .i64 x] w (Fresh w (numL n)) := by
  subst hx
  exact digits_any n w h
set_option maxRecDepth 100000 in
theorem number_made (B : Nat) (A : Option Addr) (c : Nat) (l : List UInt8) (n : Int) (w : World) (h : RB w B A l) (hB : B ≤ w.heap.size) (hl : l.length ≤ 70368744177664) :
    Calls Tryz.prog 116 #[.slice A l.length c, .int .i64 n] w (Fresh w (l ++ numL (heldW n))) := by
  go_enter Tryz.func116, Tryz.ntmps116
  go_wp2_with fail
  refine (digits_int _ (heldW n) _ (by unfold heldW; split; omega; split <;> omega) (heldW_le n)).mono ?_
  rintro e w1 ⟨A1, c1, L1, rfl, hL1, hc1, hr1, _, hb1⟩
  have hs1 := hb1.size
  have hn : L1.length ≤ 6 := by rw [hL1.out]; exact (numL_len (heldW n) (by have := heldW_le n; omega)).2
  go_wp2_with fail
  refine (concat_any w1.heap.size w1.heap.size A A1 c c1 2 l L1 _ (heap_alloc_new w1 _) (((h.below hb1 hB).mono (by omega)).alloc (Nat.le_refl _) _) (hr1.alloc (Nat.le_refl _) _) (by simp) hl (by omega)).mono ?_
  rintro e w2 ⟨A2, c2, L2, rfl, hL2, hc2, hr2, hn2, hb2⟩
  go_wp2
  go_ret
  exact ⟨A2, c2, L2, rfl, by rw [← hL1.out]; exact hL2, hc2, hr2, fun ad e => (by have := hn2 ad e; simp at this; omega), (hb1.alloc hs1 _).trans (hb2.mono (by simp; omega))⟩

set_option maxRecDepth 100000 in
theorem text_own (B : Nat) (A A' : Option Addr) (c c' : Nat) (l s : List UInt8) (w : World) (h : RB w B A l) (h' : RB w B A' s) (hB : B ≤ w.heap.size) (hl : l.length ≤ 70368744177000) (hs : s.length ≤ 70368744177664) :
    Calls Tryz.prog 117 #[.slice A l.length c, .slice A' s.length c'] w (FreshO w (l ++ numL (heldW s.length) ++ s)) := by
  go_enter Tryz.func117, Tryz.ntmps117
  go_wp2_with fail
  refine (number_made B A c l s.length _ h hB (by omega)).mono ?_
  rintro e w1 ⟨A1, c1, L1, rfl, hL1, hc1, hr1, _, hb1⟩
  have hs1 := hb1.size
  have hn : L1.length ≤ l.length + 6 := by
    rw [hL1.out]
    have := (numL_len (heldW s.length) (by have := heldW_le s.length; omega)).2
    simp; omega
  go_wp2_with fail
  refine (concat_own w1.heap.size w1.heap.size A1 A' c1 c' 2 L1 s _ (heap_alloc_new w1 _) (hr1.alloc (Nat.le_refl _) _) (((h'.below hb1 hB).mono (by omega)).alloc (Nat.le_refl _) _) (by simp) (by omega) hs).mono ?_
  rintro e w2 ⟨A2, c2, L2, rfl, hL2, hown2, hb2⟩
  go_wp2
  go_ret
  exact ⟨A2, c2, L2, rfl, by rw [← hL1.out]; exact hL2, own_lower hown2 (by simp; omega), (hb1.alloc hs1 _).trans (hb2.mono (by simp; omega))⟩
theorem text_made (B : Nat) (A A' : Option Addr) (c c' : Nat) (l s : List UInt8) (w : World) (h : RB w B A l) (h' : RB w B A' s) (hB : B ≤ w.heap.size) (hl : l.length ≤ 70368744177000) (hs : s.length ≤ 70368744177664) :
    Calls Tryz.prog 117 #[.slice A l.length c, .slice A' s.length c'] w (Fresh w (l ++ numL (heldW s.length) ++ s)) :=
  (text_own B A A' c c' l s w h h' hB hl hs).mono fun _ _ h => h.fresh
end Go.Proofs.YtnadcdgpfopcaaaGreat

namespace Go.Proofs.YtnadcdgpfopcaaaGreat
open Go.RowKit

/-- What is toldR of what is read: the number, and how many bytes it has. -/
def toldR (o : Option (Nat × Nat)) : Nat × Nat := o.getD (0, 0)
def Told (o : Option (Nat × Nat)) (w : World) (e : Ending) (w' : World) : Prop := e = .returned (.tuple #[.int .i64 (toldR o).1, .int .i64 (toldR o).2]) ∧ w = w'
set_option maxRecDepth 100000 in
set_option maxHeartbeats 1000000 in
theorem parse_any (B : Nat) (A : Option Addr) (c : Nat) (l : List UInt8) (most : Int) (w : World) (h : RB w B A l) (hc : l.length ≤ c) (hl : l.length ≤ 70368744177664) :
    Calls Tryz.prog 122 #[.slice A l.length c, .int .i64 most] w (Told (readL l most) w) := by
  by_cases h0 : l = []
  · subst h0
    go_enter Tryz.func122, Tryz.ntmps122
    go_wp2
    refine wp_loop_rounds 1 ?_
    rw [rounds_succ]
    go_wp2
    go_ret2
    exact ⟨rfl, rfl⟩
  · have hn : 0 < l.length := by cases l; exact absurd rfl h0; simp
    obtain ⟨ad, rfl, hb, hcell⟩ := h hn
    have hd : w.cell? ad = some (.int .u8 l[0].toNat) := by simpa [Addr.add, ub] using hcell 0 hn
    by_cases h1 : l[0] = 128
    · have e : (l[0].toNat : Int) = 128 := by rw [h1]; rfl
      rw [e] at hd
      have hr : readL l most = none := by unfold readL; rw [if_pos (by simp [hn, h1])]
      rw [hr]
      clear e h1 hr h0 hcell
      go_enter Tryz.func122, Tryz.ntmps122
      go_wp2
      go_ret2
      exact ⟨rfl, rfl⟩
    · have hne : ((l[0].toNat : Int) == 128) = false := by
        have : l[0].toNat ≠ 128 := fun e => h1 (UInt8.toNat.inj e)
        simp; omega
      have hr : readL l most = scanL most 0 0 (l.take 6) := by unfold readL; rw [if_neg (by simp [hn, h1])]
      rw [hr]
      clear hr h0
      generalize hd0 : l[0].toNat = d0 at hd hne
      clear hd0 h1
      obtain ⟨m, hm⟩ : ∃ m : Nat, min (l.length : Int) 6 = (m : Int) := ⟨min l.length 6, by omega⟩
      have hm2 : max (m : Int) 0 = m := by omega
      have hm3 : m ≤ l.length := by omega
      have hm6 : m ≤ 6 := by omega
      have hml : (l.take 6).length = m := by simp; omega
      have Hml := Lib.hid hml
      clear hml
      go_enter Tryz.func122, Tryz.ntmps122
      go_wp2
      clear hm hm2 hd hne
      go_loop [4, 23] (fun a i => ∃ k acc : Nat, k ≤ m ∧ i = .int .i64 k ∧ a = .int .i64 acc ∧ acc < 128 ^ k ∧ scanL most 0 0 (l.take 6) = scanL most acc k ((l.take 6).drop k)) (fun _ i => m - (intOf i).toNat)
      case atStart => exact ⟨0, 0, Nat.zero_le _, rfl, rfl, by simp, by simp⟩
      case round =>
        obtain ⟨k, acc, hk, rfl, rfl, hacc, hsc⟩ := hrel
        have Hsc := Lib.hid hsc
        clear hsc
        by_cases hlt : k < m
        · have hck := hcell k (by omega)
          unfold ub at hck
          have hacc5 : acc < 34359738368 := Nat.lt_of_lt_of_le hacc (Nat.le_trans (Nat.pow_le_pow_right (by decide) (show k ≤ 5 by omega)) (by decide))
          have hd256 := l[k].toNat_lt
          have hdk : ((l.take 6).drop k) = l[k] :: (l.take 6).drop (k + 1) := by
            rw [List.drop_eq_getElem_cons (by rw [Hml.out]; exact hlt)]; simp
          have HS : scanL most 0 0 (l.take 6) = (if most < ((acc * 128 + l[k].toNat % 128 : Nat) : Int) then none else if l[k].toNat < 128 then some (acc * 128 + l[k].toNat % 128, k + 1) else scanL most (acc * 128 + l[k].toNat % 128) (k + 1) ((l.take 6).drop (k + 1))) := by rw [Hsc.out, hdk, scanL]
          clear hdk
          generalize l[k].toNat = d at hck hd256 HS
          obtain ⟨x, hx⟩ : ∃ x, x = d % 128 := ⟨_, rfl⟩
          have hx1 : x < 128 := by omega
          have e1 : bits .andNot .u8 (d : Int) 128 = (x : Int) := by rw [not128 _ (by omega) (by omega)]; omega
          obtain ⟨y, hy⟩ : ∃ y, y = acc * 128 + x := ⟨_, rfl⟩
          have hy1 : y < 4398046511104 := by omega
          have e3 : bits .or .i64 ((acc : Int) * 128) (x : Int) = (y : Int) := by rw [or7 acc x hacc5 hx1, hy]
          have e4 := and128 (d : Int) (by omega) (by omega)
          rw [← hx, ← hy] at HS
          have Hy : y < 128 ^ (k + 1) := by rw [Nat.pow_succ]; omega
          clear hx hy
          by_cases hmost : most < (y : Int)
          · rw [if_pos hmost] at HS
            have HS' := Lib.hid HS
            clear HS
            go_wp2
            go_ret2
            exact ⟨by rw [HS'.out]; rfl, rfl⟩
          · rw [if_neg hmost] at HS
            by_cases hdl : d < 128
            · rw [decide_eq_true (by omega : (d : Int) < 128)] at e4
              rw [if_pos hdl] at HS
              have HS' := Lib.hid HS
              clear HS
              go_wp2
              go_ret2
              exact ⟨by rw [HS'.out]; rfl, rfl⟩
            · rw [decide_eq_false (by omega : ¬ (d : Int) < 128)] at e4
              rw [if_neg hdl] at HS
              have HS' := Lib.hid HS
              clear HS
              go_wp2
              go_round
              case rel => exact ⟨k + 1, y, by omega, by go_num, rfl, Hy, HS'.out⟩
              case measure => simp [intOf]; omega
        · have HS : Hid (scanL most 0 0 (l.take 6) = none) := by
            show _ = _
            rw [Hsc.out, List.drop_eq_nil_of_le (by rw [Hml.out]; omega)]; rfl
          go_wp2
          go_ret2
          exact ⟨by rw [HS.out]; rfl, rfl⟩

/-- A reader at p: the bytes l are left, it has met the error er; what is left lies below B. -/
def RD (t : TypeId) (w : World) (p B : Nat) (l : List UInt8) (er : Int) : Prop :=
  ∃ (A : Option Addr) (c : Nat), w.heap[p]? = some (.cells #[.slice A l.length c, .int .i64 er] t (0, 0)) ∧ RB w B A l ∧ l.length ≤ c ∧ B ≤ p ∧ l.length ≤ 70368744177664
/-- What a call of a reader at p turns: that reader, and nothing else that was there. -/
structure TouchR (p : Nat) (w w' : World) : Prop where
  os : w'.os = w.os
  tape : w'.tape = w.tape
  output : w'.output = w.output
  size : w.heap.size ≤ w'.heap.size
  block : ∀ i, i < w.heap.size → i ≠ p → w'.heap[i]? = w.heap[i]?
theorem TouchR.refl (p : Nat) (w : World) : TouchR p w w := ⟨rfl, rfl, rfl, Nat.le_refl _, fun _ _ _ => rfl⟩
theorem TouchR.below {p : Nat} {w w' : World} (h : TouchR p w w') {B : Nat} (hp : B ≤ p) (hB : B ≤ w.heap.size) : Below B w w' :=
  ⟨h.os, h.tape, h.output, h.size, fun i hi => h.block i (by omega) (by omega)⟩
theorem TouchR.of_below {p : Nat} {w w' : World} (h : Below w.heap.size w w') : TouchR p w w' := ⟨h.os, h.tape, h.output, h.size, fun i hi _ => h.block i hi⟩
theorem TouchR.trans {p : Nat} {a b c : World} (h : TouchR p a b) (k : TouchR p b c) : TouchR p a c :=
  ⟨k.os.trans h.os, k.tape.trans h.tape, k.output.trans h.output, Nat.le_trans h.size k.size, fun i hi hp => (k.block i (Nat.lt_of_lt_of_le hi h.size) hp).trans (h.block i hi hp)⟩
theorem TouchR.setCell {p : Nat} {a b : World} (h : TouchR p a b) (j : Nat) (u : Value) : TouchR p a (b.setCell ⟨p, j, none⟩ u) :=
  ⟨h.os, h.tape, h.output, by simpa using h.size, fun i hi hp => (Below.heap_setCell b ⟨p, j, none⟩ u i hp).trans (h.block i hi hp)⟩
section
variable {t : TypeId} {w w' : World} {p B : Nat} {l : List UInt8} {er : Int}
theorem RD.lt (h : RD t w p B l er) : p < w.heap.size := by
  obtain ⟨A, c, hp, _⟩ := h
  exact lt_size hp
theorem RD.keep (h : RD t w p B l er) (hp : w'.heap[p]? = w.heap[p]?) (hb : ∀ b, b < B → w'.heap[b]? = w.heap[b]?) : RD t w' p B l er := by
  obtain ⟨A, c, hc, hr, h1, h2⟩ := h
  exact ⟨A, c, hp.trans hc, hr.keep hb, h1, h2⟩
theorem RD.below (h : RD t w p B l er) (hb : Below w.heap.size w w') : RD t w' p B l er := by
  have hl := h.lt
  obtain ⟨_, _, _, _, _, h2, _⟩ := id h
  exact h.keep (hb.block p hl) fun b hlt => hb.block b (by omega)
theorem RD.alloc (h : RD t w p B l er) (o : Obj) : RD t (w.alloc o) p B l er := h.below ((Below.refl _ _).alloc (Nat.le_refl _) o)
theorem RD.drew (h : RD t w p B l er) : RD t w.drew p B l er := h.below (Below.refl _ _).drew
/-- Another reader's call turns nothing of this one. -/
theorem RD.other (h : RD t w p B l er) {q : Nat} (ht : TouchR q w w') (hne : p ≠ q) (hq : B ≤ q) : RD t w' p B l er := by
  have hl := h.lt
  obtain ⟨_, _, _, _, _, h2, _⟩ := id h
  exact h.keep (ht.block p hl hne) fun b hlt => ht.block b (by omega) (by omega)
end
/-- A new reader of l. -/
def NewRD (w : World) (l : List UInt8) (e : Ending) (w' : World) : Prop :=
  ∃ p B, e = .returned (.pointer (some ⟨p, 0, none⟩)) ∧ w.heap.size ≤ p ∧ RD 179 w' p B l 0 ∧ w.heap.size ≤ B ∧ Below w.heap.size w w'
set_option maxRecDepth 100000 in
theorem new_any (B : Nat) (A : Option Addr) (c : Nat) (l : List UInt8) (w : World) (h : RB w B A l) (hB : B ≤ w.heap.size) (hl : l.length ≤ 70368744177664) :
    Calls Tryz.prog 94 #[.slice A l.length c] w (NewRD w l) := by
  go_enter Tryz.func94, Tryz.ntmps94
  go_wp2_with fail
  refine (cloneb_any B A c l _ h hB hl).mono ?_
  rintro e w1 ⟨A1, c1, L1, rfl, hL1, hc1, hr1, _, hb1⟩
  have hs1 := hb1.size
  go_wp2
  go_ret
  exact ⟨w1.heap.size, w1.heap.size, rfl, hs1, by rw [← hL1.out] at hl ⊢; exact ⟨A1, c1, heap_alloc_new w1 _, hr1.alloc (Nat.le_refl _) _, hc1, Nat.le_refl _, hl⟩, hs1, hb1.alloc hs1 _⟩
set_option maxRecDepth 100000 in
theorem err_any (p B : Nat) (l : List UInt8) (er : Int) (w : World) (h : RD 179 w p B l er) :
    Calls Tryz.prog 97 #[.pointer (some ⟨p, 0, none⟩)] w fun e w' => e = .returned (.int .i64 er) ∧ w = w' := by
  obtain ⟨A, c, hp, _⟩ := h
  have h1 : w.cell? ⟨p, 1, none⟩ = some (.int .i64 er) := by simp [World.cell?, hp]
  clear hp
  go_enter Tryz.func97, Tryz.ntmps97
  go_wp2
  go_ret
  exact ⟨rfl, rfl⟩
theorem err_nil (w : World) : Calls Tryz.prog 97 #[.pointer none] w fun e w' => e = .returned (.int .i64 1) ∧ w = w' := by
  go_enter Tryz.func97, Tryz.ntmps97
  go_wp2
  go_ret
  exact ⟨rfl, rfl⟩
set_option maxRecDepth 100000 in
theorem leftr_any (p B : Nat) (l : List UInt8) (er : Int) (w : World) (h : RD 179 w p B l er) :
    Calls Tryz.prog 98 #[.pointer (some ⟨p, 0, none⟩)] w fun e w' => e = .returned (.int .i64 l.length) ∧ w = w' := by
  obtain ⟨A, c, hp, _⟩ := h
  have h1 : w.cell? ⟨p, 0, none⟩ = some (.slice A l.length c) := by simp [World.cell?, hp]
  clear hp
  go_enter Tryz.func98, Tryz.ntmps98
  go_wp2
  go_ret
  exact ⟨rfl, rfl⟩
theorem left_nil (w : World) : Calls Tryz.prog 98 #[.pointer none] w fun e w' => e = .returned (.int .i64 0) ∧ w = w' := by
  go_enter Tryz.func98, Tryz.ntmps98
  go_wp2
  go_ret
  exact ⟨rfl, rfl⟩
theorem number_nil (most : Int) (w : World) : Calls Tryz.prog 95 #[.pointer none, .int .i64 most] w fun e w' => e = .returned (.int .i64 0) ∧ w = w' := by
  go_enter Tryz.func95, Tryz.ntmps95
  go_wp2_with (go_at_call 97; refine (err_nil _).mono ?_; rintro e w' ⟨rfl, rfl⟩)
  go_ret
  exact ⟨rfl, rfl⟩
theorem text_nil (most : Int) (w : World) : Calls Tryz.prog 96 #[.pointer none, .int .i64 most] w fun e w' => e = .returned (.slice none 0 0) ∧ w = w' := by
  go_enter Tryz.func96, Tryz.ntmps96
  go_wp2_with (go_at_call 97; refine (err_nil _).mono ?_; rintro e w' ⟨rfl, rfl⟩)
  go_ret
  exact ⟨rfl, rfl⟩
end Go.Proofs.YtnadcdgpfopcaaaGreat

namespace Go.Proofs.YtnadcdgpfopcaaaGreat
open Go.RowKit

/-- What is left, and the error. -/
abbrev RS := List UInt8 × Int
def numStep (s : RS) (most : Int) : Int × RS :=
  if s.2 ≠ 0 then (0, s) else match readL s.1 most with
    | none => (0, (s.1, 5))
    | some (n, k) => (n, (s.1.drop k, 0))
def textStep (s : RS) (most : Int) : List UInt8 × RS :=
  if s.2 ≠ 0 then ([], s) else match readL s.1 most with
    | none => ([], (s.1, 5))
    | some (n, k) => if s.1.length < k + n then ([], (s.1, 5)) else ((s.1.drop k).take n, (s.1.drop (k + n), 0))
theorem block_set0 {w : World} {p : Nat} {a b u : Value} {t : TypeId} (h : w.heap[p]? = some (.cells #[a, b] t (0, 0))) : (w.setCell ⟨p, 0, none⟩ u).heap[p]? = some (.cells #[u, b] t (0, 0)) := by
  obtain ⟨hlt, he⟩ := Array.getElem?_eq_some_iff.1 h
  simp [World.setCell, Array.getElem?_modify, h]
theorem block_set1 {w : World} {p : Nat} {a b u : Value} {t : TypeId} (h : w.heap[p]? = some (.cells #[a, b] t (0, 0))) : (w.setCell ⟨p, 1, none⟩ u).heap[p]? = some (.cells #[a, u] t (0, 0)) := by
  obtain ⟨hlt, he⟩ := Array.getElem?_eq_some_iff.1 h
  simp [World.setCell, Array.getElem?_modify, h]
theorem cells2 {w : World} {p : Nat} {a b : Value} {t : TypeId} (h : w.heap[p]? = some (.cells #[a, b] t (0, 0))) : w.cell? ⟨p, 0, none⟩ = some a ∧ w.cell? ⟨p, 1, none⟩ = some b ∧ w.frozen? ⟨p, 0, none⟩ = false ∧ w.frozen? ⟨p, 1, none⟩ = false := by
  simp [World.cell?, World.frozen?, h]
/-- What a call of a reader leaves. -/
def Stepped (t : TypeId) (p B : Nat) (s : RS) (w w' : World) : Prop := RD t w' p B s.1 s.2 ∧ TouchR p w w'
def NumPost (t : TypeId) (p B : Nat) (s : RS) (most : Int) (w : World) (e : Ending) (w' : World) : Prop :=
  e = .returned (.int .i64 (numStep s most).1) ∧ Stepped t p B (numStep s most).2 w w'
def TextPost (t : TypeId) (p B : Nat) (s : RS) (most : Int) (w : World) (e : Ending) (w' : World) : Prop :=
  ∃ (A : Option Addr) (c : Nat) (L : List UInt8), e = .returned (.slice A L.length c) ∧ Hid (L = (textStep s most).1) ∧ RB w' w'.heap.size A L ∧ (∀ ad, A = some ad → w.heap.size ≤ ad.block) ∧ Stepped t p B (textStep s most).2 w w'
theorem RD.failed {t : TypeId} {w : World} {p B : Nat} {l : List UInt8} {er : Int} (h : RD t w p B l er) : RD t (w.setCell ⟨p, 1, none⟩ (.int .i64 5)) p B l 5 := by
  obtain ⟨A, c, hp, hr, h1, h2, h3⟩ := h
  exact ⟨A, c, block_set1 hp, hr.setCell h2 _, h1, h2, h3⟩
/-- Some of what is left has been read. -/
theorem RD.cut {t : TypeId} {w : World} {p B c c' k m : Nat} {A A' : Option Addr} {l : List UInt8} {er : Int} (hp : w.heap[p]? = some (.cells #[.slice A l.length c, .int .i64 er] t (0, 0))) (hr : RB w B A' (l.drop k)) (hm : m = l.length - k) (h1 : m ≤ c') (h2 : B ≤ p) (h3 : l.length ≤ 70368744177664) :
    RD t (w.setCell ⟨p, 0, none⟩ (.slice A' m c')) p B (l.drop k) er := by
  subst hm
  exact ⟨A', c', by rw [List.length_drop]; exact block_set0 hp, hr.setCell h2 _, by rw [List.length_drop]; exact h1, h2, by rw [List.length_drop]; omega⟩
/-- What is left lies where it lay, or further on. -/
theorem RB.rest {w : World} {B k c : Nat} {A : Option Addr} {l : List UInt8} (h : RB w B A l) (hk : k ≤ l.length) (hc : l.length ≤ c) : (c = k → RB w B A (l.drop k)) ∧ (c ≠ k → RB w B (A.map (·.add k)) (l.drop k)) :=
  ⟨fun e => by have := h.drop hk hc; rwa [if_pos e] at this, fun e => by have := h.drop hk hc; rwa [if_neg e] at this⟩

set_option maxRecDepth 100000 in
set_option maxHeartbeats 1000000 in
theorem number_any (p B : Nat) (l : List UInt8) (er : Int) (most : Int) (w : World) (h : RD 179 w p B l er) :
    Calls Tryz.prog 95 #[.pointer (some ⟨p, 0, none⟩), .int .i64 most] w (NumPost 179 p B (l, er) most w) := by
  by_cases her : er = 0
  · subst her
    have h' := h
    obtain ⟨A, c, hp, hr, h1, h2, h3⟩ := h
    obtain ⟨hc0, hc1, hf0, hf1⟩ := cells2 hp
    cases hrd : readL l most with
    | none =>
      have e1 : numStep (l, 0) most = (0, (l, 5)) := by simp [numStep, hrd]
      have H1 := Lib.hid e1
      have H2 := Lib.hid hrd
      have HP := Lib.hid hp
      clear hrd e1 hp
      go_enter Tryz.func95, Tryz.ntmps95
      go_wp2_with (first | (go_at_call 97; refine (err_any p B l 0 _ h').mono ?_; rintro e w' ⟨rfl, rfl⟩) | (go_at_call 122; refine (parse_any B A c l most _ hr h1 h3).mono ?_; rintro e w' ⟨rfl, rfl⟩; rw [H2.out]; simp only [toldR, Option.getD_none]))
      go_ret
      exact ⟨by rw [H1.out]; rfl, by rw [H1.out]; exact ⟨h'.failed, (TouchR.refl _ _).setCell _ _⟩⟩
    | some x =>
      obtain ⟨n, k⟩ := x
      obtain ⟨hk1, hk6, hkl, _, _, hn⟩ := read_back l most n k hrd
      have e1 : numStep (l, 0) most = ((n : Int), (l.drop k, 0)) := by simp [numStep, hrd]
      have hk0 : ((k : Int) == 0) = false := by simp; omega
      have H1 := Lib.hid e1
      have H2 := Lib.hid hrd
      have HP := Lib.hid hp
      clear hrd e1 hp
      have hrest := hr.rest hkl h1
      by_cases hck : c = k
      · have hr' := hrest.1 hck
        clear hrest
        subst hck
        go_enter Tryz.func95, Tryz.ntmps95
        go_wp2_with (first | (go_at_call 97; refine (err_any p B l 0 _ h').mono ?_; rintro e w' ⟨rfl, rfl⟩) | (go_at_call 122; refine (parse_any B A _ l most _ hr h1 h3).mono ?_; rintro e w' ⟨rfl, rfl⟩; rw [H2.out]; simp only [toldR, Option.getD_some]))
        go_ret
        exact ⟨by rw [H1.out]; rfl, by rw [H1.out]; exact ⟨RD.cut HP.out hr' (by omega) (by omega) h2 h3, (TouchR.refl _ _).setCell _ _⟩⟩
      · have hr' := hrest.2 hck
        clear hrest
        go_enter Tryz.func95, Tryz.ntmps95
        go_wp2_with (first | (go_at_call 97; refine (err_any p B l 0 _ h').mono ?_; rintro e w' ⟨rfl, rfl⟩) | (go_at_call 122; refine (parse_any B A _ l most _ hr h1 h3).mono ?_; rintro e w' ⟨rfl, rfl⟩; rw [H2.out]; simp only [toldR, Option.getD_some]))
        go_ret
        exact ⟨by rw [H1.out]; rfl, by rw [H1.out]; exact ⟨RD.cut HP.out hr' (by omega) (by omega) h2 h3, (TouchR.refl _ _).setCell _ _⟩⟩
  · have e1 : numStep (l, er) most = (0, (l, er)) := by simp [numStep, her]
    have H1 := Lib.hid e1
    have hne : (er != 0) = true := by simpa using her
    clear e1
    go_enter Tryz.func95, Tryz.ntmps95
    go_wp2_with (go_at_call 97; refine (err_any p B l er _ h).mono ?_; rintro e w' ⟨rfl, rfl⟩)
    go_ret
    exact ⟨by rw [H1.out]; rfl, by rw [H1.out]; exact ⟨h, TouchR.refl _ _⟩⟩

theorem clone_len (B : Nat) (A : Option Addr) (c m : Nat) (l : List UInt8) (w : World) (hm : m = l.length) (h : RB w B A l) (hB : B ≤ w.heap.size) (hl : l.length ≤ 70368744177664) :
    Calls Tryz.prog 121 #[.slice A m c] w (Fresh w l) := by
  subst hm
  exact cloneb_any B A c l w h hB hl
set_option maxRecDepth 100000 in
set_option maxHeartbeats 2000000 in
theorem text_any (p B : Nat) (l : List UInt8) (er : Int) (most : Int) (w : World) (h : RD 179 w p B l er) :
    Calls Tryz.prog 96 #[.pointer (some ⟨p, 0, none⟩), .int .i64 most] w (TextPost 179 p B (l, er) most w) := by
  by_cases her : er = 0
  · subst her
    have h' := h
    obtain ⟨A, c, hp, hr, h1, h2, h3⟩ := h
    obtain ⟨hc0, hc1, hf0, hf1⟩ := cells2 hp
    have hpl := lt_size hp
    cases hrd : readL l most with
    | none =>
      have e1 : textStep (l, 0) most = ([], (l, 5)) := by simp [textStep, hrd]
      have H1 := Lib.hid e1
      have H2 := Lib.hid hrd
      have HP := Lib.hid hp
      clear hrd e1 hp
      go_enter Tryz.func96, Tryz.ntmps96
      go_wp2_with (first | (go_at_call 97; refine (err_any p B l 0 _ h').mono ?_; rintro e w' ⟨rfl, rfl⟩) | (go_at_call 122; refine (parse_any B A c l most _ hr h1 h3).mono ?_; rintro e w' ⟨rfl, rfl⟩; rw [H2.out]; simp only [toldR, Option.getD_none]))
      go_ret
      exact ⟨none, 0, [], rfl, by rw [H1.out]; rfl, .nil, fun _ e => (by cases e), by rw [H1.out]; exact ⟨h'.failed, (TouchR.refl _ _).setCell _ _⟩⟩
    | some x =>
      obtain ⟨n, k⟩ := x
      obtain ⟨hk1, hk6, hkl, _, _, hn⟩ := read_back l most n k hrd
      have hk0 : ((k : Int) == 0) = false := by simp; omega
      by_cases hlk : l.length < k + n
      · have e1 : textStep (l, 0) most = ([], (l, 5)) := by simp [textStep, hrd, hlk]
        have H1 := Lib.hid e1
        have H2 := Lib.hid hrd
        have HP := Lib.hid hp
        clear hrd e1 hp
        go_enter Tryz.func96, Tryz.ntmps96
        go_wp2_with (first | (go_at_call 97; refine (err_any p B l 0 _ h').mono ?_; rintro e w' ⟨rfl, rfl⟩) | (go_at_call 122; refine (parse_any B A c l most _ hr h1 h3).mono ?_; rintro e w' ⟨rfl, rfl⟩; rw [H2.out]; simp only [toldR, Option.getD_some]))
        go_ret
        exact ⟨none, 0, [], rfl, by rw [H1.out]; rfl, .nil, fun _ e => (by cases e), by rw [H1.out]; exact ⟨h'.failed, (TouchR.refl _ _).setCell _ _⟩⟩
      · have e1 : textStep (l, 0) most = ((l.drop k).take n, (l.drop (k + n), 0)) := by simp [textStep, hrd, hlk]
        have H1 := Lib.hid e1
        have H2 := Lib.hid hrd
        have HP := Lib.hid hp
        clear hrd e1 hp
        have hrest := hr.rest hkl h1
        have hrest2 := hr.rest (k := k + n) (by omega) h1
        have hlen : n = ((l.drop k).take n).length := by simp; omega
        by_cases hck : c = k
        · have hrc := (hrest.1 hck).take n
          have hrn := hrest2.1 (by omega)
          obtain rfl : n = 0 := by omega
          subst hck
          clear hrest hrest2
          have Hlen := Lib.hid hlen
          clear hlen
          go_enter Tryz.func96, Tryz.ntmps96
          go_wp2_with (first | (go_at_call 97; refine (err_any p B l 0 _ h').mono ?_; rintro e w' ⟨rfl, rfl⟩) | (go_at_call 122; refine (parse_any B A _ l most _ hr h1 h3).mono ?_; rintro e w' ⟨rfl, rfl⟩; rw [H2.out]; simp only [toldR, Option.getD_some]) | fail)
          refine (clone_len B _ _ _ ((l.drop c).take 0) _ Hlen.out hrc (by omega) (by have := List.length_take_le 0 (l.drop c); rw [← Hlen.out]; omega)).mono ?_
          rintro e w1 ⟨A1, c1, L1, rfl, hL1, hc1, hr1, hn1, hb1⟩
          have hs1 := hb1.size
          have hc0' : w1.cell? ⟨p, 0, none⟩ = some _ := (hb1.cell (p := ⟨p, 0, none⟩) hpl).trans hc0
          have hf0' : w1.frozen? ⟨p, 0, none⟩ = false := (hb1.frozen (p := ⟨p, 0, none⟩) hpl).trans hf0
          have hp1 := Lib.hid ((hb1.block p hpl).trans HP.out)
          have hrn' := hrn.below hb1 (by omega)
          clear hc0 hf0 hc1 hf1
          go_wp2
          go_ret
          exact ⟨A1, c1, L1, rfl, by rw [H1.out]; exact hL1, by simpa using hr1.setFar (fun ad e _ => (by have := hn1 ad e; omega)) _, hn1, by rw [H1.out]; exact ⟨RD.cut hp1.out hrn' (by omega) (by omega) h2 h3, (TouchR.of_below hb1).setCell _ _⟩⟩
        · have hrc := (hrest.2 hck).take n
          by_cases hcn : c = k + n
          · have hrn := hrest2.1 hcn
            clear hrest hrest2
            have Hlen := Lib.hid hlen
            clear hlen
            subst hcn
            go_enter Tryz.func96, Tryz.ntmps96
            go_wp2_with (first | (go_at_call 97; refine (err_any p B l 0 _ h').mono ?_; rintro e w' ⟨rfl, rfl⟩) | (go_at_call 122; refine (parse_any B A _ l most _ hr h1 h3).mono ?_; rintro e w' ⟨rfl, rfl⟩; rw [H2.out]; simp only [toldR, Option.getD_some]) | fail)
            refine (clone_len B _ _ _ ((l.drop k).take n) _ Hlen.out hrc (by omega) (by have := List.length_take_le n (l.drop k); rw [← Hlen.out]; omega)).mono ?_
            rintro e w1 ⟨A1, c1, L1, rfl, hL1, hc1, hr1, hn1, hb1⟩
            have hs1 := hb1.size
            have hc0' : w1.cell? ⟨p, 0, none⟩ = some _ := (hb1.cell (p := ⟨p, 0, none⟩) hpl).trans hc0
            have hf0' : w1.frozen? ⟨p, 0, none⟩ = false := (hb1.frozen (p := ⟨p, 0, none⟩) hpl).trans hf0
            have hp1 := Lib.hid ((hb1.block p hpl).trans HP.out)
            have hrn' := hrn.below hb1 (by omega)
            clear hc0 hf0 hc1 hf1
            go_wp2
            go_ret
            exact ⟨A1, c1, L1, rfl, by rw [H1.out]; exact hL1, by simpa using hr1.setFar (fun ad e _ => (by have := hn1 ad e; omega)) _, hn1, by rw [H1.out]; exact ⟨RD.cut hp1.out hrn' (by omega) (by omega) h2 h3, (TouchR.of_below hb1).setCell _ _⟩⟩
          · have hrn := hrest2.2 hcn
            clear hrest hrest2
            have Hlen := Lib.hid hlen
            clear hlen
            go_enter Tryz.func96, Tryz.ntmps96
            go_wp2_with (first | (go_at_call 97; refine (err_any p B l 0 _ h').mono ?_; rintro e w' ⟨rfl, rfl⟩) | (go_at_call 122; refine (parse_any B A _ l most _ hr h1 h3).mono ?_; rintro e w' ⟨rfl, rfl⟩; rw [H2.out]; simp only [toldR, Option.getD_some]) | fail)
            refine (clone_len B _ _ _ ((l.drop k).take n) _ Hlen.out hrc (by omega) (by have := List.length_take_le n (l.drop k); rw [← Hlen.out]; omega)).mono ?_
            rintro e w1 ⟨A1, c1, L1, rfl, hL1, hc1, hr1, hn1, hb1⟩
            have hs1 := hb1.size
            have hc0' : w1.cell? ⟨p, 0, none⟩ = some _ := (hb1.cell (p := ⟨p, 0, none⟩) hpl).trans hc0
            have hf0' : w1.frozen? ⟨p, 0, none⟩ = false := (hb1.frozen (p := ⟨p, 0, none⟩) hpl).trans hf0
            have hp1 := Lib.hid ((hb1.block p hpl).trans HP.out)
            have hrn' := hrn.below hb1 (by omega)
            clear hc0 hf0 hc1 hf1
            go_wp2
            go_ret
            exact ⟨A1, c1, L1, rfl, by rw [H1.out]; exact hL1, by simpa using hr1.setFar (fun ad e _ => (by have := hn1 ad e; omega)) _, hn1, by rw [H1.out]; exact ⟨RD.cut hp1.out hrn' (by omega) (by omega) h2 h3, (TouchR.of_below hb1).setCell _ _⟩⟩
  · have e1 : textStep (l, er) most = ([], (l, er)) := by simp [textStep, her]
    have H1 := Lib.hid e1
    have hne : (er != 0) = true := by simpa using her
    clear e1
    go_enter Tryz.func96, Tryz.ntmps96
    go_wp2_with (go_at_call 97; refine (err_any p B l er _ h).mono ?_; rintro e w' ⟨rfl, rfl⟩)
    go_ret
    exact ⟨none, 0, [], rfl, by rw [H1.out]; rfl, .nil, fun _ e => (by cases e), by rw [H1.out]; exact ⟨h, TouchR.refl _ _⟩⟩
end Go.Proofs.YtnadcdgpfopcaaaGreat

namespace Go.Proofs.YtnadcdgpfopcaaaGreat
open Go.RowKit

theorem heldW_nat (n : Nat) (h : n ≤ 1099511627776) : heldW (n : Int) = n := by have := heldW_in (n : Int) (by omega) (by omega); omega
theorem numStep_num (n : Nat) (t : List UInt8) (most : Int) (h : n < 4398046511104) (hm : (n : Int) ≤ most) : numStep (numL n ++ t, 0) most = ((n : Int), (t, 0)) := by
  unfold numStep
  simp [read_num n t most h hm]
theorem numStep_above (n : Nat) (t : List UInt8) (most : Int) (h : n < 4398046511104) (hm : most < (n : Int)) : numStep (numL n ++ t, 0) most = (0, (numL n ++ t, 5)) := by
  unfold numStep
  simp [read_above n t most h hm]
theorem textStep_text (s t : List UInt8) (most : Int) (h : s.length < 4398046511104) (hm : (s.length : Int) ≤ most) : textStep (numL s.length ++ s ++ t, 0) most = (s, (t, 0)) := by
  unfold textStep
  rw [List.append_assoc]
  have e : (numL s.length ++ (s ++ t)).drop ((numL s.length).length + s.length) = t := by rw [← List.append_assoc]; exact List.drop_left' (by simp)
  simp [read_num s.length (s ++ t) most h hm, e]
theorem textStep_above (s t : List UInt8) (most : Int) (h : s.length < 4398046511104) (hm : most < (s.length : Int)) : textStep (numL s.length ++ s ++ t, 0) most = ([], (numL s.length ++ s ++ t, 5)) := by
  unfold textStep
  rw [List.append_assoc]
  simp [read_above s.length (s ++ t) most h hm]
theorem numStep_err (s : RS) (most : Int) (h : s.2 ≠ 0) : numStep s most = (0, s) := by unfold numStep; rw [if_pos h]
theorem textStep_err (s : RS) (most : Int) (h : s.2 ≠ 0) : textStep s most = ([], s) := by unfold textStep; rw [if_pos h]
/-- A number that is cut short is none. -/
theorem numStep_short (n c : Nat) (most : Int) (h : c < (numL n).length) : numStep ((numL n).take c, 0) most = (0, ((numL n).take c, 5)) := by
  unfold numStep
  simp [read_short n c most h]
theorem u64_nat (x : Int) (m : Nat) (hm : 0 < m) (h : m ≤ 9223372036854775807) : ∃ N : Nat, IntKind.u64.wrap x % (m : Int) = (N : Int) ∧ N < m := by
  have e : IntKind.u64.wrap x = x % 18446744073709551616 := by unfold IntKind.wrap; rfl
  have h0 : 0 ≤ IntKind.u64.wrap x := by rw [e]; omega
  have h1 := Int.emod_nonneg (IntKind.u64.wrap x) (show (m : Int) ≠ 0 by omega)
  have h2 := Int.emod_lt_of_pos (IntKind.u64.wrap x) (show (0 : Int) < m by omega)
  exact ⟨(IntKind.u64.wrap x % (m : Int)).toNat, by omega, by omega⟩
theorem u64_tmod (x : Int) (m : Nat) (hm : 0 < m) (h : m ≤ 9223372036854775807) : ∃ N : Nat, (IntKind.u64.wrap x).tmod (m : Int) = (N : Int) ∧ N < m := by
  obtain ⟨N, h1, h2⟩ := u64_nat x m hm h
  have e : IntKind.u64.wrap x = x % 18446744073709551616 := by unfold IntKind.wrap; rfl
  exact ⟨N, by rw [Int.tmod_eq_emod_of_nonneg (by rw [e]; omega)]; exact h1, h2⟩
theorem u64_rng (x : Int) : 0 ≤ IntKind.u64.wrap x ∧ IntKind.u64.wrap x ≤ 18446744073709551615 := by
  have e : IntKind.u64.wrap x = x % 18446744073709551616 := by unfold IntKind.wrap; rfl
  rw [e]; omega
/-- A number that is written behind nothing. -/
theorem number_fresh (n : Nat) (w : World) (h : n ≤ 1099511627776) : Calls Tryz.prog 116 #[.slice none 0 0, .int .i64 n] w (Fresh w (numL n)) := by
  have := number_made 0 none 0 [] n w .nil (Nat.zero_le _) (by simp)
  rwa [heldW_nat n h] at this
end Go.Proofs.YtnadcdgpfopcaaaGreat

namespace Go.Proofs.YtnadcdgpfopcaaaGreat
open Go.RowKit

theorem withins_any (a b c : Int) (w : World) :
    Calls Tryz.prog 115 #[.int .i64 a, .int .i64 b, .int .i64 c] w fun e w' => e = .returned (.bool (decide (b ≤ a ∧ a ≤ c))) ∧ w = w' := by
  go_enter Tryz.func115, Tryz.ntmps115
  go_wp2
  · have h : b ≤ a := by assumption
    go_ret
    exact ⟨ret_bool (by simp [h]), rfl⟩
  · have h : a < b := by assumption
    go_ret
    exact ⟨ret_bool (by simp; omega), rfl⟩
theorem rb_new1 (w : World) (c : UInt8) (t : TypeId) (fr : Nat × Nat) : RB (w.alloc (.cells #[.int .u8 c.toNat] t fr)) (w.heap.size + 1) (some ⟨w.heap.size, 0, none⟩) [c] := fun _ => ⟨_, rfl, by simp, fun j hj => by
  obtain rfl : j = 0 := by simpa using hj
  have := World.cell?_alloc_mark w #[.int .u8 c.toNat] t fr 0
  simpa [Addr.add, ub] using this⟩
def numS (a b : Int) : Int := if (0 ≤ a ∧ a ≤ 11) ∧ 0 ≤ b ∧ b ≤ 4 then 1 + a * 5 + b else 0
def splitS (n : Int) : Int × Int := if 1 ≤ n ∧ n ≤ 60 then ((n - 1) / 5, (n - 1) % 5) else (-1, -1)
/-- A sheet's bytes. -/
def sheetL (p s : Nat) (d : List UInt8) : List UInt8 := numL p ++ numL s ++ numL d.length ++ d ++ [90]
/-- A sheet that may be. -/
def MayS (p s : Int) (d : List UInt8) : Prop := (0 ≤ p ∧ p ≤ 60) ∧ (1 ≤ s ∧ s ≤ 1099511627776) ∧ d.length ≤ 2000 ∧ (sheetL p.toNat s.toNat d).length ≤ 2000
instance (p s : Int) (d : List UInt8) : Decidable (MayS p s d) := by unfold MayS; infer_instance
/-- What Bytes tells: the bytes, the error; nothing that was there has turned. -/
def BytesPost (p s : Int) (d : List UInt8) (w : World) (e : Ending) (w' : World) : Prop :=
  ∃ (A : Option Addr) (c : Nat) (L : List UInt8) (er : Int), e = .returned (.tuple #[.slice A L.length c, .int .i64 er]) ∧ Hid (L = if MayS p s d then sheetL p.toNat s.toNat d else []) ∧ er = (if MayS p s d then 0 else 1) ∧ L.length ≤ c ∧ RB w' w'.heap.size A L ∧ (∀ ad, A = some ad → w.heap.size ≤ ad.block) ∧ Below w.heap.size w w'
theorem BytesPost.no {p s : Int} {d : List UInt8} {w w' : World} (h : ¬ MayS p s d) (hb : Below w.heap.size w w') : BytesPost p s d w (.returned (.tuple #[.slice none 0 0, .int .i64 1])) w' :=
  ⟨none, 0, [], 1, rfl, by rw [if_neg h]; rfl, by rw [if_neg h], Nat.le_refl _, .nil, fun _ e => (by cases e), hb⟩
theorem cells3 {w : World} {q : Nat} {a b c : Value} {t : TypeId} (h : w.heap[q]? = some (.cells #[a, b, c] t (0, 0))) : w.cell? ⟨q, 0, none⟩ = some a ∧ w.cell? ⟨q, 1, none⟩ = some b ∧ w.cell? ⟨q, 2, none⟩ = some c := by
  simp [World.cell?, h]
set_option maxRecDepth 100000 in
set_option maxHeartbeats 1000000 in
theorem bytes_any (B : Nat) (p s : Int) (A : Option Addr) (c : Nat) (d : List UInt8) (w : World) (hr : RB w B A d) (hB : B ≤ w.heap.size) :
    Calls Tryz.prog 87 #[.agg #[.int .i64 p, .int .i64 s, .slice A d.length c]] w (BytesPost p s d w) := by
  obtain ⟨i0, hi, hz0, hz1, hz2⟩ := info_parts info_byte
  by_cases h1 : 0 ≤ p ∧ p ≤ 60
  · by_cases h2 : 1 ≤ s ∧ s ≤ 1099511627776
    · by_cases h3 : d.length ≤ 2000
      · obtain ⟨P, rfl⟩ : ∃ P : Nat, p = (P : Int) := ⟨p.toNat, by omega⟩
        obtain ⟨S, rfl⟩ : ∃ S : Nat, s = (S : Int) := ⟨s.toNat, by omega⟩
        have hP : P ≤ 60 := by omega
        have hS : S ≤ 1099511627776 := by omega
        have H1 := Lib.hid h1
        have H2 := Lib.hid h2
        have eP := Lib.hid (heldW_nat P (by omega))
        have eS := Lib.hid (heldW_nat S (by omega))
        have eD := Lib.hid (heldW_nat d.length (by omega))
        have hr0 := Lib.hid (hr.alloc hB (.cells #[.int .i64 (P : Int), .int .i64 (S : Int), .slice A d.length c] 47))
        clear h1 h2
        go_enter Tryz.func87, Tryz.ntmps87
        go_wp2_with (first
          | (go_at_call 115; refine (withins_any _ _ _ _).mono ?_; rintro e w' ⟨rfl, rfl⟩; first | rw [decide_eq_true H1.out] | rw [decide_eq_true H2.out])
          | (go_at_call 116; (with_reducible refine (number_made w1.heap.size A1 c1 L1 S w1 HR1.out (Nat.le_refl _) (by omega)).mono ?_); rintro e w2 ⟨A2, c2, L2, rfl, hL2, hc2, hr2, hn2, hb2⟩; have HL2 := Lib.hid (hL2.out.trans (by rw [HL1.out, eS.out])); have HR2 := Lib.hid hr2; have hs2 := hb2.size; have hl2 : L2.length ≤ 12 := (by rw [hL2.out]; have := (numL_len (heldW S) (by have := heldW_le S; omega)).2; simp; omega); have HB2 := Lib.hid (HB1.out.trans (hb2.mono (by omega))); obtain ⟨_, _, k2⟩ := cells3 ((hb2.block w.heap.size (by have := lt_size HST1.out; omega)).trans HST1.out); have hrd2 := Lib.hid (hrd1.out.below hb2 (by omega)); clear hL2 hr2 hn2 hb2 k1)
          | (go_at_call 117; (with_reducible refine (text_own w2.heap.size A2 A c2 c L2 d w2 HR2.out (hrd2.out.mono (by omega)) (Nat.le_refl _) (by omega) (by omega)).mono ?_); rintro e w3 ⟨A3, c3, L3, rfl, hL3, hown3, hb3⟩; have HL3 := Lib.hid (hL3.out.trans (by rw [HL2.out, eD.out])); have hl3 : L3.length ≤ 2018 := (by rw [hL3.out]; have := (numL_len (heldW d.length) (by have := heldW_le d.length; omega)).2; simp; omega); have hs3 := hb3.size; have HB3 := Lib.hid (HB2.out.trans (hb3.mono (by omega))); clear hL3 hb3 k2)
          | (at_builtin; refine wpList_append_bytes _ rfl _ _ _ rfl w2.heap.size 5 i0 _ Tryz.underlying34 hi hz0 hz1 hz2 rfl _ L3 rfl (hown3.alloc _) (w3.heap.size + 1) _ 1 [90] rfl (rb_new1 w3 90 5 (0, 0)) (by simp; omega) (by simp; omega) ?_; intro p4 cap4 w4 hown4 hg4 _)
          | (go_at_call 116; (with_reducible refine (number_fresh P _ (by omega)).mono ?_); rintro e w1 ⟨A1, c1, L1, rfl, hL1, hc1, hr1, hn1, hb1⟩; have HL1 := Lib.hid hL1.out; have HR1 := Lib.hid hr1; have hs1 : w.heap.size ≤ w1.heap.size := (by have := hb1.size; simp at this; omega); have hl1 : L1.length ≤ 6 := (by rw [hL1.out]; exact (numL_len P (by omega)).2); have HB1 := Lib.hid (((Below.refl w.heap.size w).alloc (Nat.le_refl _) _).trans (hb1.mono (by simp))); have hst1 := (hb1.block w.heap.size (by simp)).trans (heap_alloc_new w _); obtain ⟨_, k1, _⟩ := cells3 hst1; have HST1 := Lib.hid hst1; clear hst1; have hrd1 := Lib.hid ((hr0.out.below hb1 (by simp; omega))); clear hL1 hr1 hn1 hb1)
          | fail)
        all_goals
          have hB4 : Below w.heap.size w w4 := (HB3.out.alloc (by omega) _).grown hg4 (by simp; omega) (fun k e => (by have := (hown3.lt k e).1; omega))
          have hlen : (sheetL (P : Int).toNat (S : Int).toNat d).length = L3.length + 1 := by rw [HL3.out]; unfold sheetL; simp only [Int.toNat_natCast, List.length_append, List.length_singleton]
          go_ret2
        · exact BytesPost.no (fun h => by have := h.2.2.2; omega) hB4
        · have hM : MayS (P : Int) (S : Int) d := ⟨H1.out, H2.out, h3, by omega⟩
          obtain ⟨p4', c4', he, hle⟩ := own_slice hown4
          cases he
          refine ⟨p4, cap4, L3 ++ [90], 0, by simp, ?_, by rw [if_pos hM], hle, .of_own hown4, fun ad e => ?_, hB4⟩
          · rw [if_pos hM, HL3.out]; rfl
          · have := (hown4.lt ad.block (by rw [e]; rfl)).1; omega
      · have H1 := Lib.hid h1
        have H2 := Lib.hid h2
        clear h1 h2
        go_enter Tryz.func87, Tryz.ntmps87
        go_wp2_with (go_at_call 115; refine (withins_any _ _ _ _).mono ?_; rintro e w' ⟨rfl, rfl⟩; first | rw [decide_eq_true H1.out] | rw [decide_eq_true H2.out])
        go_ret2
        exact BytesPost.no (fun h => h3 h.2.2.1) ((Below.refl _ _).alloc (Nat.le_refl _) _)
    · have H1 := Lib.hid h1
      have H2 := Lib.hid h2
      clear h1 h2
      go_enter Tryz.func87, Tryz.ntmps87
      go_wp2_with (go_at_call 115; refine (withins_any _ _ _ _).mono ?_; rintro e w' ⟨rfl, rfl⟩; first | rw [decide_eq_true H1.out] | rw [decide_eq_false H2.out])
      go_ret2
      exact BytesPost.no (fun h => H2.out h.2.1) ((Below.refl _ _).alloc (Nat.le_refl _) _)
  · have H1 := Lib.hid h1
    clear h1
    go_enter Tryz.func87, Tryz.ntmps87
    go_wp2_with (go_at_call 115; refine (withins_any _ _ _ _).mono ?_; rintro e w' ⟨rfl, rfl⟩; rw [decide_eq_false H1.out])
    go_ret2
    exact BytesPost.no (fun h => H1.out h.1) ((Below.refl _ _).alloc (Nat.le_refl _) _)
theorem may_any (B : Nat) (p s : Int) (A : Option Addr) (c : Nat) (d : List UInt8) (w : World) (hr : RB w B A d) (hB : B ≤ w.heap.size) :
    Calls Tryz.prog 99 #[.agg #[.int .i64 p, .int .i64 s, .slice A d.length c]] w fun e w' => e = .returned (.bool (decide (MayS p s d))) ∧ Below w.heap.size w w' := by
  by_cases hM : MayS p s d
  all_goals
    have HM := Lib.hid hM
    have hr1 := hr.alloc hB (.cells #[.int .i64 p, .int .i64 s, .slice A d.length c] 47)
    clear hM
    go_enter Tryz.func99, Tryz.ntmps99
    go_wp2_with (go_at_call 87; refine (bytes_any B p s A c d _ hr1 (by simp; omega)).mono ?_; rintro e w1 ⟨A1, c1, L1, er, rfl, hL, her, _, _, _, hb⟩; (first | rw [if_pos HM.out] at her | rw [if_neg HM.out] at her); subst her; have HB := Lib.hid (((Below.refl w.heap.size w).alloc (Nat.le_refl _) _).trans (hb.mono (by simp))); clear hL hb)
    go_ret
    exact ⟨by simp [HM.out], HB.out⟩
end Go.Proofs.YtnadcdgpfopcaaaGreat

namespace Go.Proofs.YtnadcdgpfopcaaaGreat
open Go.RowKit

theorem numStep_ok {s : RS} {most n : Int} {t : RS} (h : numStep s most = (n, t)) (ht : t.2 = 0) : s.2 = 0 ∧ ∃ N : Nat, n = (N : Int) ∧ s.1 = numL N ++ t.1 ∧ (N : Int) ≤ most := by
  obtain ⟨l, er⟩ := s
  unfold numStep at h
  by_cases he : er = 0
  · rw [if_neg (by simpa using he)] at h
    cases hr : readL l most with
    | none => rw [hr] at h; cases h; exact absurd ht (by simp)
    | some x =>
      obtain ⟨a, k⟩ := x
      obtain ⟨_, _, _, h1, h2, _⟩ := read_back l most a k hr
      rw [hr] at h
      cases h
      exact ⟨he, a, rfl, by rw [← h1, List.take_append_drop], h2⟩
  · rw [if_pos (by simpa using he)] at h
    cases h
    exact absurd ht he
theorem textStep_ok {s : RS} {most : Int} {L : List UInt8} {t : RS} (h : textStep s most = (L, t)) (ht : t.2 = 0) : s.2 = 0 ∧ s.1 = numL L.length ++ L ++ t.1 ∧ (L.length : Int) ≤ most := by
  obtain ⟨l, er⟩ := s
  unfold textStep at h
  by_cases he : er = 0
  · rw [if_neg (by simpa using he)] at h
    cases hr : readL l most with
    | none => rw [hr] at h; cases h; exact absurd ht (by simp)
    | some x =>
      obtain ⟨a, k⟩ := x
      obtain ⟨_, _, _, h1, h2, _⟩ := read_back l most a k hr
      rw [hr] at h
      simp only at h
      split at h
      · cases h; exact absurd ht (by simp)
      · rename_i hlk
        cases h
        have hl : ((l.drop k).take a).length = a := by simp; omega
        refine ⟨he, ?_, by rw [hl]; exact h2⟩
        rw [hl, ← h1, List.append_assoc]
        simp only
        rw [show l.drop (k + a) = (l.drop k).drop a by rw [List.drop_drop], List.take_append_drop, List.take_append_drop]
  · rw [if_pos (by simpa using he)] at h
    cases h
    exact absurd ht he
/-- What the three steps come to, and what is left. -/
theorem steps_back {l d : List UInt8} {p s : Int} {r1 r2 r3 : RS} (h1 : numStep (l, 0) 60 = (p, r1)) (h2 : numStep r1 1099511627776 = (s, r2)) (h3 : textStep r2 2000 = (d, r3)) (he : r3.2 = 0) :
    ∃ P S : Nat, p = (P : Int) ∧ s = (S : Int) ∧ l = numL P ++ numL S ++ numL d.length ++ d ++ r3.1 ∧ P ≤ 60 ∧ S ≤ 1099511627776 ∧ d.length ≤ 2000 := by
  obtain ⟨e2, x3, y3⟩ := textStep_ok h3 he
  obtain ⟨e1, S, rfl, x2, y2⟩ := numStep_ok h2 e2
  obtain ⟨_, P, rfl, x1, y1⟩ := numStep_ok h1 e1
  refine ⟨P, S, rfl, rfl, ?_, by omega, by omega, by omega⟩
  simp only at x1
  rw [x1, x2, x3]
  simp only [List.append_assoc]
theorem steps_sheet (P S : Nat) (d t : List UInt8) (hP : P ≤ 60) (hS : S ≤ 1099511627776) (hd : d.length ≤ 2000) :
    numStep (numL P ++ numL S ++ numL d.length ++ d ++ t, 0) 60 = ((P : Int), (numL S ++ (numL d.length ++ d ++ t), 0)) ∧ numStep (numL S ++ (numL d.length ++ d ++ t), 0) 1099511627776 = ((S : Int), (numL d.length ++ d ++ t, 0)) ∧ textStep (numL d.length ++ d ++ t, 0) 2000 = (d, (t, 0)) := by
  refine ⟨?_, ?_, ?_⟩
  · have := numStep_num P (numL S ++ (numL d.length ++ d ++ t)) 60 (by omega) (by omega)
    rw [← this]
    simp only [List.append_assoc]
  · exact numStep_num S _ _ (by omega) (by omega)
  · exact textStep_text d t 2000 (by omega) (by omega)
/-- The bytes l are no sheet's. -/
def NoSheet (l : List UInt8) : Prop := ∀ (p s : Int) (d : List UInt8), MayS p s d → l ≠ sheetL p.toNat s.toNat d
theorem no_sheet {l d : List UInt8} {p s : Int} {r1 r2 r3 : RS} (h1 : numStep (l, 0) 60 = (p, r1)) (h2 : numStep r1 1099511627776 = (s, r2)) (h3 : textStep r2 2000 = (d, r3)) (hn : ¬ (r3.1 = [90] ∧ r3.2 = 0 ∧ MayS p s d)) : NoSheet l := by
  intro p' s' d' hM hl
  apply hn
  obtain ⟨⟨a1, a2⟩, ⟨b1, b2⟩, c1, _⟩ := id hM
  obtain ⟨x1, x2, x3⟩ := steps_sheet p'.toNat s'.toNat d' [90] (by omega) (by omega) c1
  subst hl
  unfold sheetL at h1
  rw [x1] at h1
  cases h1
  rw [x2] at h2
  cases h2
  rw [x3] at h3
  cases h3
  rw [Int.toNat_of_nonneg a1, Int.toNat_of_nonneg (by omega)]
  exact ⟨rfl, rfl, hM⟩
/-- A sheet has one p, one s, one d. -/
theorem sheet_inj {p s p' s' : Int} {d d' : List UInt8} (h : MayS p s d) (h' : MayS p' s' d') (e : sheetL p.toNat s.toNat d = sheetL p'.toNat s'.toNat d') : p = p' ∧ s = s' ∧ d = d' := by
  obtain ⟨⟨a1, a2⟩, ⟨b1, b2⟩, c1, _⟩ := id h
  obtain ⟨⟨a1', a2'⟩, ⟨b1', b2'⟩, c1', _⟩ := id h'
  obtain ⟨x1, x2, x3⟩ := steps_sheet p.toNat s.toNat d [90] (by omega) (by omega) c1
  obtain ⟨y1, y2, y3⟩ := steps_sheet p'.toNat s'.toNat d' [90] (by omega) (by omega) c1'
  unfold sheetL at e
  rw [e, y1] at x1
  injection x1 with e1 e2
  rw [← e2, y2] at x2
  injection x2 with e3 e4
  rw [← e4, y3] at x3
  injection x3 with e5 e6
  exact ⟨by omega, by omega, e5.symm⟩
/-- What Parse tells. -/
def ParsePost (l : List UInt8) (w : World) (e : Ending) (w' : World) : Prop :=
  Below w.heap.size w w' ∧ ((∃ (p s : Int) (A : Option Addr) (c : Nat) (d : List UInt8), Hid (l = sheetL p.toNat s.toNat d) ∧ Hid (MayS p s d) ∧ RB w' w'.heap.size A d ∧ e = .returned (.tuple #[.agg #[.int .i64 p, .int .i64 s, .slice A d.length c], .int .i64 0]))
    ∨ (Hid (NoSheet l) ∧ e = .returned (.tuple #[.agg #[.int .i64 0, .int .i64 0, .slice none 0 0], .int .i64 5])))
theorem last_is {l d : List UInt8} {P S : Nat} {x : UInt8} (h : l = numL P ++ numL S ++ numL d.length ++ d ++ [x]) : 1 ≤ l.length ∧ ∀ hk, l[l.length - 1]'hk = x := by
  subst h
  refine ⟨by simp; omega, fun hk => ?_⟩
  rw [List.getElem_append_right (by simp; omega)]
  simp
theorem load_sheet {w : World} {q : Nat} {x y z : Value} {t : TypeId} (h : w.heap[q]? = some (.cells #[x, y, z] t (0, 0))) : (loadVar 47 ⟨q, 0, none⟩).run Tryz.prog w = .ok (.agg #[x, y, z]) w :=
  run_loadVar_row w q _ _ _ _ _ h Tryz.underlying47 rfl (by kernel_rfl)
theorem results_pair {fn : Func} {p u : Tmp} {ty : TypeId} (h : fn.results = #[.cell p ty, .tmp u]) (tmps : Array Value) (w : World) (g : Nat) (v x : Value)
    (hp : tmps.getD p undef = .pointer (some ⟨g, 0, none⟩)) (hu : tmps.getD u undef = x) (hl : (loadVar ty ⟨g, 0, none⟩).run Tryz.prog w = .ok v w) :
    (results fn tmps).run Tryz.prog w = .ok (.tuple #[v, x]) w := by
  rw [results_cell_tmp h, hp, hu]
  simp [asAddr, hl, Result.andThen]
theorem block_set3 {w : World} {q : Nat} {a b c x y z : Value} {t : TypeId} (h : w.heap[q]? = some (.cells #[a, b, c] t (0, 0))) : (((w.setCell ⟨q, 0, none⟩ x).setCell ⟨q, 1, none⟩ y).setCell ⟨q, 2, none⟩ z).heap[q]? = some (.cells #[x, y, z] t (0, 0)) := by
  obtain ⟨hlt, he⟩ := Array.getElem?_eq_some_iff.1 h
  simp [World.setCell, Array.getElem?_modify, h]
theorem frozen3 {w : World} {q : Nat} {cs : Array Value} {t : TypeId} (h : w.heap[q]? = some (.cells cs t (0, 0))) (k : Nat) : w.frozen? ⟨q, k, none⟩ = false := by
  simp [World.frozen?, h]
set_option maxRecDepth 100000 in
set_option maxHeartbeats 2000000 in
theorem parse_sheet (B : Nat) (A : Option Addr) (c : Nat) (l : List UInt8) (w : World) (h : RB w B A l) (hB : B ≤ w.heap.size) (hl : l.length ≤ 70368744177664) :
    Calls Tryz.prog 60 #[.slice A l.length c] w (ParsePost l w) := by
  obtain ⟨p, l1, er1, e1⟩ : ∃ p l1 er1, numStep (l, 0) 60 = (p, (l1, er1)) := ⟨_, _, _, rfl⟩
  obtain ⟨s, l2, er2, e2⟩ : ∃ s l2 er2, numStep (l1, er1) 1099511627776 = (s, (l2, er2)) := ⟨_, _, _, rfl⟩
  obtain ⟨d, l3, er3, e3⟩ : ∃ d l3 er3, textStep (l2, er2) 2000 = (d, (l3, er3)) := ⟨_, _, _, rfl⟩
  have E1 := Lib.hid e1
  have E2 := Lib.hid e2
  have E3 := Lib.hid e3
  have hno := Lib.hid (fun hn => no_sheet (l := l) (d := d) (p := p) (s := s) e1 e2 e3 hn)
  have hba := Lib.hid (fun he => steps_back (l := l) (d := d) (p := p) (s := s) e1 e2 e3 he)
  clear e1 e2 e3
  have h0 := Lib.hid (h.alloc hB (.cells #[.int .i64 0, .int .i64 0, .slice none 0 0] 47))
  have hal := Lib.hid (heap_alloc_new w (.cells #[.int .i64 0, .int .i64 0, .slice none 0 0] 47))
  go_enter Tryz.func60, Tryz.ntmps60
  go_wp2_with (first
    | (go_at_call 94; (with_reducible refine (new_any B A c l _ h0.out (by simp; omega) hl).mono ?_); rintro e w1 ⟨q, B1, rfl, hq, hrd, hB1, hb1⟩; have HB1 := Lib.hid (((Below.refl w.heap.size w).alloc (Nat.le_refl _) _).trans (hb1.mono (by simp))); have HR1 := Lib.hid hrd; have h1 := Lib.hid (h0.out.below hb1 (by simp; omega)); have A1 := Lib.hid ((hb1.block w.heap.size (by simp)).trans hal.out); have hq1 : w.heap.size < q := (by simp at hq; omega); have hq2 : B ≤ w1.heap.size := (by have := hb1.size; simp at this; omega); clear hrd hb1 hq hB1)
    | (go_at_call 96; (with_reducible refine (text_any q B1 l2 er2 2000 _ HR3.out).mono ?_); rintro e w4 ⟨A4, c4, L4, rfl, hL4, hr4, hn4, hrd4, ht4⟩; rw [E3.out] at hL4 hrd4; have HL4 := Lib.hid hL4.out; have HR4 := Lib.hid hrd4; have HS4 := Lib.hid hr4; have HN4 := Lib.hid hn4; have hs4 := ht4.size; have HB4 := Lib.hid (HB3.out.trans (ht4.below (by omega) HB3.out.size)); have A4' := Lib.hid ((ht4.block w.heap.size (by have := lt_size A3.out; omega) (by omega)).trans A3.out); have h4 := Lib.hid (h3.out.below (ht4.below (B := B) (by omega) (by omega)) (Nat.le_refl _)); clear hL4 hrd4 ht4 hr4 hn4)
    | (go_at_call 95; (with_reducible refine (number_any q B1 l1 er1 1099511627776 _ HR2.out).mono ?_); rintro e w3 ⟨rfl, hrd3, ht3⟩; rw [E2.out] at hrd3 ⊢; have HR3 := Lib.hid hrd3; have hs3 := ht3.size; have HB3 := Lib.hid (HB2.out.trans (ht3.below (by omega) HB2.out.size)); have A3 := Lib.hid ((ht3.block w.heap.size (by have := lt_size A2.out; omega) (by omega)).trans A2.out); have h3 := Lib.hid (h2.out.below (ht3.below (B := B) (by omega) (by omega)) (Nat.le_refl _)); clear hrd3 ht3)
    | (go_at_call 95; (with_reducible refine (number_any q B1 l 0 60 _ HR1.out).mono ?_); rintro e w2 ⟨rfl, hrd2, ht2⟩; rw [E1.out] at hrd2 ⊢; have HR2 := Lib.hid hrd2; have hs2 := ht2.size; have HB2 := Lib.hid (HB1.out.trans (ht2.below (by omega) HB1.out.size)); have A2 := Lib.hid ((ht2.block w.heap.size (by have := lt_size A1.out; omega) (by omega)).trans A1.out); have h2 := Lib.hid (h1.out.below (ht2.below (B := B) (by omega) (by omega)) (Nat.le_refl _)); clear hrd2 ht2)
    | fail)
  obtain ⟨f0, f1, f2⟩ := cells3 A4'.out
  have fz := frozen3 A4'.out
  have fz0 := fz 0
  have fz1 := fz 1
  have fz2 := fz 2
  clear fz
  have HE : ∀ W, Calls Tryz.prog 97 #[.pointer (some ⟨q, 0, none⟩)] w4 W = Calls Tryz.prog 97 #[.pointer (some ⟨q, 0, none⟩)] w4 W := fun _ => rfl
  clear HE
  by_cases he : er3 = 0
  · subst he
    obtain ⟨P, S, rfl, rfl, hlq, hP, hS, hd⟩ := hba.out rfl
    by_cases hl3 : l3.length = 1
    · obtain ⟨x, rfl⟩ : ∃ x, l3 = [x] := List.length_eq_one_iff.1 hl3
      obtain ⟨hl1, hlast⟩ := last_is hlq
      have Hlq := Lib.hid hlq
      obtain ⟨ad, rfl, hadb, hcell⟩ := h4.out (by omega)
      obtain ⟨m, hm⟩ : ∃ m : Nat, (l.length : Int) - 1 = (m : Int) := ⟨l.length - 1, by omega⟩
      have hml : m < l.length := by omega
      have hc := hcell m hml
      rw [show l[m] = x from (by have := hlast (by omega); rw [← this]; congr 1; omega)] at hc
      clear hcell hlast hlq hl3 hba
      by_cases hx : x = 90
      · subst hx
        rw [show ub 90 = Value.int .u8 90 from rfl] at hc
        by_cases hM : MayS (P : Int) (S : Int) d
        · have HM := Lib.hid hM
          clear hM hno
          obtain rfl := HL4.out
          go_wp2_with (first
            | (go_at_call 97; refine (err_any q B1 _ _ _ HR4.out).mono ?_; rintro e w' ⟨rfl, rfl⟩)
            | (go_at_call 98; refine (leftr_any q B1 _ _ _ HR4.out).mono ?_; rintro e w' ⟨rfl, rfl⟩)
            | fail)
          refine (may_any w4.heap.size _ _ _ _ _ _ (HS4.out.alloc (Nat.le_refl _) _) (by simp)).mono ?_
          rintro e w5 ⟨rfl, hb5⟩
          rw [decide_eq_true HM.out]
          have HB5 := Lib.hid ((HB4.out.alloc HB4.out.size _).trans (hb5.mono (by have := HB4.out.size; simp; omega)))
          have HS5 := Lib.hid ((HS4.out.alloc (Nat.le_refl _) _).below hb5 (by simp))
          have s5 := hb5.size
          have A5 := (hb5.block w.heap.size (by have := lt_size A4'.out; simp; omega)).trans ((Below.heap_alloc w4 _ _ (lt_size A4'.out)).trans A4'.out)
          have D5 := (hb5.block w4.heap.size (by simp)).trans (heap_alloc_new w4 _)
          have fz5 := frozen3 A5
          have f50 := fz5 0
          have f51 := fz5 1
          have f52 := fz5 2
          obtain ⟨g0, g1, g2⟩ := cells3 D5
          obtain ⟨g3, g4, g5⟩ := cells3 A5
          have A5H := Lib.hid A5
          clear A5 D5 fz5 hb5
          go_wp2
          refine bodyPost_ret (results_pair rfl _ _ w.heap.size _ _ rfl rfl (load_sheet (block_set3 A5H.out))) rfl ?_
          have hfar : ∀ a', A4 = some a' → 0 < L4.length → a'.block ≠ w.heap.size := fun a' e _ => (by have := HN4.out a' e; have := lt_size A3.out; omega)
          have hsz : w4.heap.size ≤ w5.heap.size := by simp at s5; omega
          refine ⟨((HB5.out.setCell (Nat.le_refl _) _).setCell (Nat.le_refl _) _).setCell (Nat.le_refl _) _, .inl ⟨P, S, A4, c4, L4, ?_, HM, ?_, rfl⟩⟩
          · show l = _
            rw [Hlq.out]; rfl
          · exact (((HS5.out.setFar hfar _).setFar hfar _).setFar hfar _).mono (by simp; omega)
        · have HM := Lib.hid hM
          have HNO := Lib.hid (hno.out fun h => hM h.2.2)
          clear hM hno
          obtain rfl := HL4.out
          go_wp2_with (first
            | (go_at_call 97; refine (err_any q B1 _ _ _ HR4.out).mono ?_; rintro e w' ⟨rfl, rfl⟩)
            | (go_at_call 98; refine (leftr_any q B1 _ _ _ HR4.out).mono ?_; rintro e w' ⟨rfl, rfl⟩)
            | fail)
          refine (may_any w4.heap.size _ _ _ _ _ _ (HS4.out.alloc (Nat.le_refl _) _) (by simp)).mono ?_
          rintro e w5 ⟨rfl, hb5⟩
          rw [decide_eq_false HM.out]
          have HB5 := Lib.hid ((HB4.out.alloc HB4.out.size _).trans (hb5.mono (by have := HB4.out.size; simp; omega)))
          have A5 := (hb5.block w.heap.size (by have := lt_size A4'.out; simp; omega)).trans ((Below.heap_alloc w4 _ _ (lt_size A4'.out)).trans A4'.out)
          have fz5 := frozen3 A5
          have f50 := fz5 0
          have f51 := fz5 1
          have f52 := fz5 2
          obtain ⟨g3, g4, g5⟩ := cells3 A5
          have A5H := Lib.hid A5
          clear A5 fz5 hb5
          go_wp2
          refine bodyPost_ret (results_pair rfl _ _ w.heap.size _ _ rfl rfl (load_sheet (block_set3 A5H.out))) rfl ?_
          exact ⟨((HB5.out.setCell (Nat.le_refl _) _).setCell (Nat.le_refl _) _).setCell (Nat.le_refl _) _, .inr ⟨HNO, rfl⟩⟩
      · have hc' : ∃ z : Int, ub x = Value.int .u8 z ∧ (z == 90) = false := ⟨x.toNat, rfl, by
          have : x.toNat ≠ 90 := fun e => hx (UInt8.toNat.inj e)
          simp; omega⟩
        obtain ⟨z, hz1, hz2⟩ := hc'
        rw [hz1] at hc
        have HNO := Lib.hid (hno.out fun h => hx (by simpa using h.1))
        clear hno hz1
        go_wp2_with (first
          | (go_at_call 97; refine (err_any q B1 _ _ _ HR4.out).mono ?_; rintro e w' ⟨rfl, rfl⟩)
          | (go_at_call 98; refine (leftr_any q B1 _ _ _ HR4.out).mono ?_; rintro e w' ⟨rfl, rfl⟩)
          | fail)
        refine bodyPost_ret (results_pair rfl _ _ w.heap.size _ _ rfl rfl (load_sheet (block_set3 A4'.out))) rfl ?_
        exact ⟨((HB4.out.setCell (Nat.le_refl _) _).setCell (Nat.le_refl _) _).setCell (Nat.le_refl _) _, .inr ⟨HNO, rfl⟩⟩
    · have HNO := Lib.hid (hno.out fun h => hl3 (by rw [h.1]; rfl))
      have hl3' : ((l3.length : Int) == 1) = false := by simp; omega
      clear hno hba
      go_wp2_with (first
        | (go_at_call 97; refine (err_any q B1 _ _ _ HR4.out).mono ?_; rintro e w' ⟨rfl, rfl⟩)
        | (go_at_call 98; refine (leftr_any q B1 _ _ _ HR4.out).mono ?_; rintro e w' ⟨rfl, rfl⟩)
        | fail)
      refine bodyPost_ret (results_pair rfl _ _ w.heap.size _ _ rfl rfl (load_sheet (block_set3 A4'.out))) rfl ?_
      exact ⟨((HB4.out.setCell (Nat.le_refl _) _).setCell (Nat.le_refl _) _).setCell (Nat.le_refl _) _, .inr ⟨HNO, rfl⟩⟩
  · have HNO := Lib.hid (hno.out fun h => he h.2.1)
    have he' : (er3 == 0) = false := by simpa using he
    clear hno hba
    go_wp2_with (first
      | (go_at_call 97; refine (err_any q B1 _ _ _ HR4.out).mono ?_; rintro e w' ⟨rfl, rfl⟩)
      | fail)
    refine bodyPost_ret (results_pair rfl _ _ w.heap.size _ _ rfl rfl (load_sheet (block_set3 A4'.out))) rfl ?_
    exact ⟨((HB4.out.setCell (Nat.le_refl _) _).setCell (Nat.le_refl _) _).setCell (Nat.le_refl _) _, .inr ⟨HNO, rfl⟩⟩
end Go.Proofs.YtnadcdgpfopcaaaGreat
