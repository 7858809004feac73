/- What makes bytes: count, digits, slices.Grow, slices.Concat of two, slices.Clone, Number, Text of package bytes. -/
import Derived.Test.YtfjijpejoocngaaSeq
import Derived.Test.YtfjijpejoocngaaShelf
import Derived.Lib.SliceRun
namespace Go.Proofs.Ytfjijpejoocngaa
open Go.RowKit

set_option maxRecDepth 100000 in
theorem count_any (n : Nat) (w : World) (h : n ≤ 1099511627776) : Calls Try.prog 41 #[.int .i64 n] w fun e w' => e = .returned (.int .i64 (numL n).length) ∧ w = w' := by
  have hc := numL_cnt n (by omega)
  have hl := Lib.bitLen_le n 41 (by omega) (by omega)
  obtain ⟨B, hB⟩ : ∃ B, B = Lib.bitLen n := ⟨_, rfl⟩
  rw [← hB] at hc hl
  have hh := Lib.hid hc
  have hb := Lib.hid hB
  have hn := Int.toNat_natCast n
  clear hc hB
  go_enter Try.func41, Try.ntmps41
  go_wp2_with (go_at_call 42; refine (Try.bits_Len _ _ (by omega) (by omega)).mono ?_; rintro e w' ⟨rfl, rfl⟩; rw [hn, ← hb.out])
  go_ret
  exact ⟨ret_int (by rw [hh.out]; omega), rfl⟩

/-- The digits up to the place k, 128 added to each. -/
def digs (n c k : Nat) : List Value := (List.range c).map fun i => if i < k then ub (byteOf (n / 128 ^ (c - 1 - i) % 128 + 128)) else .int .u8 0
theorem digs_set (n c k : Nat) (h : k < c) : (digs n c k).set k (ub (byteOf (n / 128 ^ (c - 1 - k) % 128 + 128))) = digs n c (k + 1) := by
  unfold digs
  apply List.ext_getElem?
  intro j
  rw [List.getElem?_set]
  by_cases hj : j < c
  · by_cases e : k = j
    · subst e; simp [h]
    · simp only [e, if_false, List.getElem?_map, List.getElem?_range hj, Option.map_some]
      congr 1
      split <;> split <;> first | rfl | omega
  · by_cases e : k = j
    · omega
    · simp [e, hj]
theorem digs_last (n c : Nat) (h : (numL n).length = c) (h1 : 1 ≤ c) : (digs n c c).set (c - 1) (ub (byteOf (n % 128))) = (numL n).map ub := by
  unfold digs
  apply List.ext_getElem?
  intro j
  rw [List.getElem?_set]
  by_cases hj : j < c
  · have ha : ((numL n).map ub)[j]? = some (ub (byteOf (n / 128 ^ (c - 1 - j) % 128 + if j + 1 < c then 128 else 0))) := by
      rw [List.getElem?_map, numL_at n j (by omega), h]; rfl
    rw [ha]
    by_cases e : c - 1 = j
    · subst e
      rw [if_pos rfl, if_pos (by simp; omega), if_neg (by omega)]; simp
    · rw [if_neg e, List.getElem?_map, List.getElem?_range hj, if_pos (by omega)]
      simp [hj]
  · rw [if_neg (by omega), List.getElem?_map, List.getElem?_map, List.getElem?_eq_none (by simpa using hj), List.getElem?_eq_none (by omega)]
    rfl
theorem digs_at (n c k : Nat) (h : k < c) : (digs n c k)[k]? = some (.int .u8 0) := by unfold digs; simp [h]
theorem digs_zero (n c : Nat) : (madeCells (Value.int .u8 0).cells (c * 1)).toList = digs n c 0 := by
  show (madeCells #[Value.int .u8 0] (c * 1)).toList = _
  rw [Nat.mul_one, toList_madeCells_one]
  unfold digs
  apply List.ext_getElem?
  intro j
  by_cases hj : j < c
  · simp [hj]
  · simp [hj]
theorem digs_full (n c : Nat) (h : 1 ≤ c) : (digs n c c)[c - 1]? = some (.int .u8 (n % 128 + 128 : Nat)) := by
  unfold digs
  rw [List.getElem?_map, List.getElem?_range (by omega), Option.map_some, if_pos (by omega), show c - 1 - (c - 1) = 0 by omega, Nat.pow_zero, Nat.div_one, ub_ofNat _ (by omega)]
theorem dig_end (n : Nat) : Value.int .u8 (bits .andNot .u8 ((n % 128 + 128 : Nat) : Int) 128) = ub (byteOf (n % 128)) := by
  rw [ub_ofNat _ (by omega), not128 _ (by omega) (by omega)]
  congr 1; omega
theorem dig_val (n m : Nat) : bits .or .u8 ((n : Int) / 2 ^ (7 * m) % 256) 128 = ((byteOf (n / 128 ^ m % 128 + 128)).toNat : Int) := by
  rw [byteOf_nat _ (by omega), or128 _ (by omega) (by omega), Int.pow_mul]
  show ((n : Int) / ((128 : Int)) ^ m % 256) % 128 + 128 = _
  have : ((n : Int) / ((128 : Int)) ^ m) = ((n / 128 ^ m : Nat) : Int) := by simp
  rw [this]; omega
set_option maxRecDepth 100000 in
theorem digits_any (n : Nat) (w : World) (h : n ≤ 1099511627776) : Calls Try.prog 34 #[.int .i64 n] w (Fresh w (numL n)) := by
  obtain ⟨i0, hi, hz0, hz1, hz2⟩ := info_parts info_byte
  obtain ⟨c, hc⟩ : ∃ c, c = (numL n).length := ⟨_, rfl⟩
  have hl := numL_len n (by omega)
  rw [← hc] at hl
  have H := Lib.hid hc
  clear hc
  go_enter Try.func34, Try.ntmps34
  go_wp2_with (first | (go_at_call 41; refine (count_any n _ h).mono ?_; rintro e w' ⟨rfl, rfl⟩; rw [← H.out]) | (at_make; go_loud (refine wpList_make_full _ rfl _ _ 22 rfl w.heap.size 5 i0 _ 1 Try.underlying22 hi hz0 hz1 .i64 .i64 _ _ c rfl rfl rfl rfl (by rw [hz2]; omega) (by unfold maxLen; omega) (Nat.le_refl _) ?_; intro w1 hown hg1)))
  have hs1 : w.heap.size < w1.heap.size := (hown.lt _ rfl).2
  go_loopw [4, 5, 11] (fun _ _ i wr => ∃ k : Nat, k ≤ c ∧ i = .int .i64 k ∧ wr.ownsRow w.heap.size 5 1 (.slice (some ⟨w.heap.size, 0, none⟩) c c) c (digs n c k) ∧ Below w.heap.size w wr) (fun _ _ i _ => c - (intOf i).toNat)
  case atStart => exact ⟨0, Nat.zero_le _, rfl, by rw [← digs_zero]; exact hown, (Below.refl _ _).grown hg1 (Nat.le_refl _) (fun k e => by cases e)⟩
  case round =>
    obtain ⟨k, hk, rfl, hown, hb⟩ := hrel
    by_cases hlt : k < c
    · have hcell := (hown.cellAt k (by omega)).trans (digs_at n c k hlt)
      have hfr := hown.frozenAt k
      have Hst := Lib.hid (hown.stored k (ub (byteOf (n / 128 ^ (c - 1 - k) % 128 + 128))))
      have Hv := Lib.hid (dig_val n (c - 1 - k))
      go_wp2
      go_roundw
      case rel =>
        rw [Hv.out]
        have := Hst.out.1
        rw [digs_set n c k hlt] at this
        exact ⟨k + 1, by omega, by go_num, this, hb.setCell (Nat.le_refl _) _⟩
      case measure => simp [intOf]; omega
    · obtain rfl : k = c := by omega
      have hcell := (hown.cellAt (k - 1) (by omega)).trans (digs_full n k (by omega))
      have hfr := hown.frozenAt (k - 1)
      have Hst := Lib.hid (hown.stored (k - 1) (ub (byteOf (n % 128))))
      have hk0 : 0 ≤ (k : Int) - 1 := by omega
      have hk1 : ((k : Int) - 1).toNat = k - 1 := by omega
      go_wp2
      go_ret
      have := Hst.out.1
      rw [digs_last n k H.out.symm (by omega), ← dig_end] at this
      exact Fresh.of this (Nat.le_refl _) (hb.setCell (Nat.le_refl _) _)

set_option maxRecDepth 100000 in
theorem grow_any (n : Nat) (w : World) (h : n ≤ 140737488355328) : Calls Try.prog 40 #[.slice none 0 0, .int .i64 n] w fun e w' => ∃ v, e = .returned v ∧ w'.ownsRow w.heap.size 5 1 v 0 [] ∧ Below w.heap.size w w' := by
  by_cases h0 : n = 0
  · subst h0
    go_enter Try.func40, Try.ntmps40
    go_wp2
    go_ret
    exact ⟨_, rfl, World.ownsRow_nil _ _ _ _, Below.refl _ _⟩
  · obtain ⟨i0, hi, hz0, hz1, hz2⟩ := info_parts info_byte
    have hrun := fun ty => Lib.run_append_nil_zeros (P := Try.prog) w 22 3 ty 5 i0 _ .i64 .i64 Try.underlying22 Try.underlying3 hi hz0 n (by omega) (by omega) (by omega) (by rw [hz2]; omega)
    have hge := grownCap_ge w n 0 5
    have hmx := grownCap_le_maxLen w n 0 5 (by unfold maxLen; omega)
    obtain ⟨G, hG⟩ : ∃ G, G = grownCap w n 0 5 := ⟨_, rfl⟩
    rw [← hG] at hrun hge hmx
    clear hG
    go_enter Try.func40, Try.ntmps40
    go_wp2_with (at_builtin; refine Lib.wpList_append_run _ rfl _ _ _ _ rfl _ _ rfl rfl _ _ (hrun _) ?_)
    go_ret
    exact ⟨_, rfl, World.ownsRow_made w.drew _ G (Nat.le_refl _) hmx (by simp [Builtin.zeroCells]; omega), (Below.refl _ _).drew.alloc (Nat.le_refl _) _⟩

theorem grow_int (x : Int) (n : Nat) (w : World) (hx : x = n) (h : n ≤ 140737488355328) : Calls Try.prog 40 #[.slice none 0 0, .int .i64 x] w fun e w' => ∃ v, e = .returned v ∧ w'.ownsRow w.heap.size 5 1 v 0 [] ∧ Below w.heap.size w w' := by
  subst hx
  exact grow_any n w h
/-- Fresh, and the bytes are a row of the call's own: more may be laid behind. -/
def FreshO (w : World) (l : List UInt8) (e : Ending) (w' : World) : Prop :=
  ∃ (A : Option Addr) (c : Nat) (L : List UInt8), e = .returned (.slice A L.length c) ∧ Hid (L = l) ∧ w'.ownsRow w.heap.size 5 1 (.slice A L.length c) L.length (L.map ub) ∧ Below w.heap.size w w'
theorem own_lower {w : World} {base base' n : Nat} {e : TypeId} {size : Nat} {v : Value} {xs : List Value} (h : w.ownsRow base e size v n xs) (hb : base' ≤ base) : w.ownsRow base' e size v n xs := by
  refine ⟨h.1, ?_⟩
  rcases h.2 with h0 | ⟨g, cap, cur, hv, hg, h1⟩
  · exact .inl h0
  · exact .inr ⟨g, cap, cur, hv, Nat.le_trans hb hg, h1⟩
theorem FreshO.fresh {w w' : World} {l : List UInt8} {e : Ending} (h : FreshO w l e w') : Fresh w l e w' := by
  obtain ⟨A, c, L, rfl, hL, hown, hb⟩ := h
  obtain ⟨A', c', L', he, h1, h2⟩ := Fresh.of hown (Nat.le_refl _) hb
  exact ⟨A', c', L', he, h1.out.trans hL.out, h2⟩
set_option maxRecDepth 100000 in
set_option maxHeartbeats 1000000 in
theorem concat_own (B g : Nat) (A1 A2 : Option Addr) (c1 c2 k : Nat) (l1 l2 : List UInt8) (w : World) (hg : w.heap[g]? = some (.cells #[.slice A1 l1.length c1, .slice A2 l2.length c2] 22 (0, 0)))
    (h1 : RB w B A1 l1) (h2 : RB w B A2 l2) (hB : B ≤ w.heap.size) (hl1 : l1.length ≤ 70368744177664) (hl2 : l2.length ≤ 70368744177664) :
    Calls Try.prog 33 #[.slice (some ⟨g, 0, none⟩) 2 k] w (FreshO w (l1 ++ l2)) := by
  obtain ⟨i0, hi, hz0, hz1, hz2⟩ := info_parts info_byte
  have hgl := lt_size hg
  have hc0 : w.cell? ⟨g, 0, none⟩ = some (.slice A1 l1.length c1) := by simp [World.cell?, hg]
  have hc1 : w.cell? ⟨g, 1, none⟩ = some (.slice A2 l2.length c2) := by simp [World.cell?, hg]
  go_enter Try.func33, Try.ntmps33
  go_wp2
  refine wp_loop_rounds 3 ?_
  rw [rounds_succ]
  go_wp2
  rw [rounds_succ]
  go_wp2
  rw [rounds_succ]
  go_wp2_with fail
  refine (grow_int _ (l1.length + l2.length) _ (by omega) (by omega)).mono ?_
  rintro e w1 ⟨v, rfl, hown, hb⟩
  obtain ⟨p, cap, rfl, _⟩ := own_slice hown
  have hs1 := hb.size
  have hc0' : w1.cell? ⟨g, 0, none⟩ = some (.slice A1 l1.length c1) := (hb.cell (p := ⟨g, 0, none⟩) hgl).trans hc0
  have hc1' : w1.cell? ⟨g, 1, none⟩ = some (.slice A2 l2.length c2) := (hb.cell (p := ⟨g, 1, none⟩) hgl).trans hc1
  have r1 := h1.below hb hB
  have r2 := h2.below hb hB
  clear hc0 hc1
  go_wp2
  refine wp_loop_rounds 3 ?_
  rw [rounds_succ]
  go_wp2_with (at_builtin; refine wpList_append_bytes _ rfl _ _ _ rfl w.heap.size 5 i0 _ Try.underlying22 hi hz0 hz1 hz2 rfl _ [] rfl hown B A1 c1 l1 rfl r1 (by simp; omega) hs1 ?_; intro p1 cap1 w2 hown1 hg1 _)
  rw [rounds_succ]
  simp only [List.nil_append] at hown1
  have hb1 := hb.grown hg1 hs1 fun k e => (hown.lt k e).1
  have hs2 := hb1.size
  have hc1'' : w2.cell? ⟨g, 1, none⟩ = some (.slice A2 l2.length c2) := (World.cell?_of_block (hg1.block g (by omega) fun e => by have := (hown.lt g e.symm).1; omega)).trans hc1'
  have r2' := r2.grown hg1 (by omega) fun k e => by have := (hown.lt k e).1; omega
  clear hc0' hc1'
  go_wp2_with (at_builtin; refine wpList_append_bytes _ rfl _ _ _ rfl w.heap.size 5 i0 _ Try.underlying22 hi hz0 hz1 hz2 rfl _ l1 rfl hown1 B A2 c2 l2 rfl r2' (by omega) hs2 ?_; intro p2 cap2 w3 hown2 hg2 _)
  rw [rounds_succ]
  have hb2 := hb1.grown hg2 hs2 fun k e => (hown1.lt k e).1
  go_wp2
  go_ret
  exact ⟨p2, cap2, l1 ++ l2, by rw [List.length_append]; rfl, rfl, hown2, hb2⟩
theorem concat_any (B g : Nat) (A1 A2 : Option Addr) (c1 c2 k : Nat) (l1 l2 : List UInt8) (w : World) (hg : w.heap[g]? = some (.cells #[.slice A1 l1.length c1, .slice A2 l2.length c2] 22 (0, 0)))
    (h1 : RB w B A1 l1) (h2 : RB w B A2 l2) (hB : B ≤ w.heap.size) (hl1 : l1.length ≤ 70368744177664) (hl2 : l2.length ≤ 70368744177664) :
    Calls Try.prog 33 #[.slice (some ⟨g, 0, none⟩) 2 k] w (Fresh w (l1 ++ l2)) :=
  (concat_own B g A1 A2 c1 c2 k l1 l2 w hg h1 h2 hB hl1 hl2).mono fun _ _ h => h.fresh

set_option maxRecDepth 100000 in
theorem clone_any (B : Nat) (A : Option Addr) (c : Nat) (l : List UInt8) (w : World) (h : RB w B A l) (hB : B ≤ w.heap.size) (hl : l.length ≤ 70368744177664) :
    Calls Try.prog 37 #[.slice A l.length c] w (Fresh w l) := by
  obtain ⟨i0, hi, hz0, hz1, hz2⟩ := info_parts info_byte
  rcases A with _ | ad
  · have hl0 : l = [] := by
      rcases Nat.eq_zero_or_pos l.length with h0 | h0
      · exact List.eq_nil_of_length_eq_zero h0
      · obtain ⟨ad, h, _⟩ := h h0
        cases h
    subst hl0
    have hnil := fun w => Lib.run_eql_slice_nil (P := Try.prog) w 22 5 none 0 c 0 0 Try.underlying22
    go_enter Try.func37, Try.ntmps37
    go_wp2
    go_ret
    exact ⟨none, 0, [], rfl, rfl, Nat.le_refl _, .nil, fun _ e => (by cases e), Below.refl _ _⟩
  · have hnil := fun w => Lib.run_eql_slice_nil (P := Try.prog) w 22 5 (some ad) l.length c 0 0 Try.underlying22
    go_enter Try.func37, Try.ntmps37
    have hown := World.ownsRow_made (base := w.heap.size) (e := 5) (size := 1) w #[] 0 (Nat.le_refl _) (Nat.zero_le _) rfl
    go_wp2_with (at_builtin; refine wpList_append_bytes _ rfl _ _ _ rfl w.heap.size 5 i0 _ Try.underlying22 hi hz0 hz1 hz2 rfl _ [] rfl hown B (some ad) c l rfl (h.alloc hB _) (by simp; omega) (by simp) ?_; intro p1 cap1 w2 hown1 hg1 _)
    go_ret
    exact Fresh.of hown1 (Nat.le_refl _) (((Below.refl _ _).alloc (Nat.le_refl _) _).grown hg1 (by simp) fun k e => (hown.lt k e).1)

theorem digits_int (x : Int) (n : Nat) (w : World) (hx : x = n) (h : n ≤ 1099511627776) : Calls Try.prog 34 #[.int .i64 x] w (Fresh w (numL n)) := by
  subst hx
  exact digits_any n w h
set_option maxRecDepth 100000 in
theorem number_made (B : Nat) (A : Option Addr) (c : Nat) (l : List UInt8) (n : Int) (w : World) (h : RB w B A l) (hB : B ≤ w.heap.size) (hl : l.length ≤ 70368744177664) :
    Calls Try.prog 23 #[.slice A l.length c, .int .i64 n] w (Fresh w (l ++ numL (heldW n))) := by
  go_enter Try.func23, Try.ntmps23
  go_wp2_with fail
  refine (digits_int _ (heldW n) _ (by unfold heldW; split; omega; split <;> omega) (heldW_le n)).mono ?_
  rintro e w1 ⟨A1, c1, L1, rfl, hL1, hc1, hr1, _, hb1⟩
  have hs1 := hb1.size
  have hn : L1.length ≤ 6 := by rw [hL1.out]; exact (numL_len (heldW n) (by have := heldW_le n; omega)).2
  go_wp2_with fail
  refine (concat_any w1.heap.size w1.heap.size A A1 c c1 2 l L1 _ (heap_alloc_new w1 _) (((h.below hb1 hB).mono (by omega)).alloc (Nat.le_refl _) _) (hr1.alloc (Nat.le_refl _) _) (by simp) hl (by omega)).mono ?_
  rintro e w2 ⟨A2, c2, L2, rfl, hL2, hc2, hr2, hn2, hb2⟩
  go_wp2
  go_ret
  exact ⟨A2, c2, L2, rfl, by rw [← hL1.out]; exact hL2, hc2, hr2, fun ad e => (by have := hn2 ad e; simp at this; omega), (hb1.alloc hs1 _).trans (hb2.mono (by simp; omega))⟩

set_option maxRecDepth 100000 in
theorem text_own (B : Nat) (A A' : Option Addr) (c c' : Nat) (l s : List UInt8) (w : World) (h : RB w B A l) (h' : RB w B A' s) (hB : B ≤ w.heap.size) (hl : l.length ≤ 70368744177000) (hs : s.length ≤ 70368744177664) :
    Calls Try.prog 24 #[.slice A l.length c, .slice A' s.length c'] w (FreshO w (l ++ numL (heldW s.length) ++ s)) := by
  go_enter Try.func24, Try.ntmps24
  go_wp2_with fail
  refine (number_made B A c l s.length _ h hB (by omega)).mono ?_
  rintro e w1 ⟨A1, c1, L1, rfl, hL1, hc1, hr1, _, hb1⟩
  have hs1 := hb1.size
  have hn : L1.length ≤ l.length + 6 := by
    rw [hL1.out]
    have := (numL_len (heldW s.length) (by have := heldW_le s.length; omega)).2
    simp; omega
  go_wp2_with fail
  refine (concat_own w1.heap.size w1.heap.size A1 A' c1 c' 2 L1 s _ (heap_alloc_new w1 _) (hr1.alloc (Nat.le_refl _) _) (((h'.below hb1 hB).mono (by omega)).alloc (Nat.le_refl _) _) (by simp) (by omega) hs).mono ?_
  rintro e w2 ⟨A2, c2, L2, rfl, hL2, hown2, hb2⟩
  go_wp2
  go_ret
  exact ⟨A2, c2, L2, rfl, by rw [← hL1.out]; exact hL2, own_lower hown2 (by simp; omega), (hb1.alloc hs1 _).trans (hb2.mono (by simp; omega))⟩
theorem text_made (B : Nat) (A A' : Option Addr) (c c' : Nat) (l s : List UInt8) (w : World) (h : RB w B A l) (h' : RB w B A' s) (hB : B ≤ w.heap.size) (hl : l.length ≤ 70368744177000) (hs : s.length ≤ 70368744177664) :
    Calls Try.prog 24 #[.slice A l.length c, .slice A' s.length c'] w (Fresh w (l ++ numL (heldW s.length) ++ s)) :=
  (text_own B A A' c c' l s w h h' hB hl hs).mono fun _ _ h => h.fresh
end Go.Proofs.Ytfjijpejoocngaa
