/- Keys of package least: all that have a count, rising. -/
import Derived.Test.YtdoaacfonkgokaaAll
import Derived.Test.YtdoaacfonkgokaaLow
import Derived.Test.YtdoaacfonkgokaaShelf
namespace Go.Proofs.Ytdoaacfonkgokaa
open Go.RowKit Go.Maps

theorem info_int : (Try.prog.info? 3).map (fun i => (i.zero, i.size, i.bytes)) = some (some (.int .i64 0), 1, 8) := by kernel_rfl
theorem info_string : (Try.prog.info? 9).map (fun i => (i.zero, i.size, i.bytes)) = some (some (.string ⟨#[]⟩), 1, 16) := by kernel_rfl

theorem holds_own {α : Type} [Inhabited α] {enc : α → Value} {w : World} {base g cap : Nat} {e : TypeId} {ks : List α} (h : w.ownsRow base e 1 (.slice (some ⟨g, 0, none⟩) ks.length cap) ks.length (ks.map enc)) : Sort.Holds enc w g 0 ks.toArray := by
  intro j hj
  have hj' : j < ks.length := by simpa using hj
  have hc := h.cellAt j (by omega)
  rcases h.2 with ⟨h0, _⟩ | ⟨g', cap', cur, hv, _, hb, _⟩
  · cases h0
  · cases hv
    refine ⟨?_, by simp [World.frozen?, hb]⟩
    rw [Nat.zero_add, hc]
    simp [hj']
theorem grown_sort {α : Type} [Inhabited α] (enc : α → Value) (w : World) (g n : Nat) (os : Array Obj) (d : Array α) : w.grownBy (Sort.grow (Sort.putRow enc (Sort.ahead w n) g 0 d) os) (some g) :=
  ⟨rfl, rfl, rfl, by simp, fun k hk hne => by
    rw [Sort.heap_grow_old _ _ (by simpa using hk)]
    have hgk : g ≠ k := fun e => hne (by rw [e])
    simp [Sort.putRow, Sort.mapBlock, Array.getElem?_modify, hgk]⟩
theorem own_sort {α : Type} [Inhabited α] {enc : α → Value} {w : World} {base g cap n : Nat} {e : TypeId} {os : Array Obj} {ks ts : List α} (hl : ts.length = ks.length)
    (h : w.ownsRow base e 1 (.slice (some ⟨g, 0, none⟩) ks.length cap) ks.length (ks.map enc)) :
    (Sort.grow (Sort.putRow enc (Sort.ahead w n) g 0 ts.toArray) os).ownsRow base e 1 (.slice (some ⟨g, 0, none⟩) ks.length cap) ks.length (ts.map enc) := by
  refine ⟨by simp [hl], ?_⟩
  rcases h.2 with ⟨h0, _⟩ | ⟨g', cap', cur, hv, hbase, hb, h1, h2, h3, h4⟩
  · cases h0
  · cases hv
    have hg := lt_size hb
    refine .inr ⟨_, _, Sort.putCells enc 0 ts.toArray cur, rfl, hbase, ?_, h1, h2, by simpa [Sort.putCells] using h3, ?_⟩
    · rw [Sort.heap_grow_old _ _ (by simpa using hg)]
      simp [Sort.putRow, Sort.mapBlock, Array.getElem?_modify, hb, Sort.onCells]
    · apply List.ext_getElem?
      intro j
      by_cases hj : j < ts.length
      · have : j < cur.size := by omega
        rw [List.getElem?_take_of_lt (by omega), Array.getElem?_toList]
        simp [Sort.putCells, hj, this]
      · rw [List.getElem?_take_eq_none (by omega), List.getElem?_eq_none (by simp; omega)]
theorem rising {α : Type} (le : α → α → Bool) (lt : α → α → Prop) (tr : ∀ a b c, le a b = true → le b c = true → le a c = true) (tot : ∀ a b, (le a b || le b a) = true) (hlt : ∀ a b, le a b = true → a ≠ b → lt a b) {l : List α} (h : l.Nodup) : (l.mergeSort le).Pairwise lt := by
  have h1 := List.pairwise_mergeSort tr tot l
  have h2 : (l.mergeSort le).Pairwise (· ≠ ·) := (List.mergeSort_perm l le).nodup_iff.2 h
  exact (h1.and h2).imp fun ⟨a, b⟩ => hlt _ _ a b
theorem rising_int {l : List Int} (h : l.Nodup) : (l.mergeSort fun x y => decide (x ≤ y)).Pairwise (· < ·) :=
  rising _ _ (fun a b c => by simp; omega) (fun a b => by simp; omega) (fun a b => by simp; omega) h
theorem rising_string {l : List (List UInt8)} (h : l.Nodup) : (l.mergeSort fun x y => decide (x ≤ y)).Pairwise (· < ·) :=
  rising _ _ (fun a b c => by simp only [decide_eq_true_eq]; exact List.le_trans) (fun a b => by simp only [Bool.or_eq_true, decide_eq_true_eq]; exact List.le_total a b)
    (fun a b => by simp only [decide_eq_true_eq]; exact fun h1 h2 => List.not_le.1 fun h3 => h2 (List.le_antisymm h1 h3)) h
theorem own_slice {W : World} {b : Nat} {e : TypeId} {size : Nat} {v : Value} {k : Nat} {xs : List Value} (h : W.ownsRow b e size v k xs) : ∃ p cap, v = .slice p k cap := by
  rcases h.2 with ⟨rfl, rfl⟩ | ⟨g, cap, cur, rfl, _⟩
  · exact ⟨_, _, rfl⟩
  · exact ⟨_, _, rfl⟩
theorem own_succ {W : World} {b : Nat} {e : TypeId} {size : Nat} {v : Value} {k : Nat} {xs : List Value} (h : W.ownsRow b e size v k xs) (hk : 1 ≤ k) : ∃ g cap, v = .slice (some ⟨g, 0, none⟩) k cap := by
  rcases h.2 with ⟨_, h0⟩ | ⟨g, cap, _, rfl, _⟩
  · omega
  · exact ⟨g, cap, rfl⟩
/-- Blocks of two element types are two. -/
theorem own_apart {w : World} {base : Nat} {e t : TypeId} {size n g : Nat} {v : Value} {xs : List Value} {cur : Array Value} {fr : Nat × Nat} (h : w.ownsRow base e size v n xs) (hg : w.heap[g]? = some (.cells cur t fr)) (ht : t ≠ e) : some g ≠ v.ownBlock := by
  rcases h.2 with ⟨rfl, _⟩ | ⟨g', cap, cur', rfl, _, hb, _⟩
  · simp [Value.ownBlock]
  · intro e1
    obtain rfl : g = g' := by simpa [Value.ownBlock] using e1
    rw [hg] at hb
    cases hb
    exact ht rfl

/-- What Keys tells. -/
def KeysPost_int (f : Int → Int) (n : Nat) (w : World) (e : Ending) (w' : World) : Prop :=
  ∃ (sv : Value) (ks : List (Int)), e = .returned sv ∧ ks.Pairwise (· < ·) ∧ (∀ k : Int, k ∈ ks ↔ f k ≠ 0) ∧ ks.length ≤ n ∧ w'.ownsRow w.heap.size 3 1 sv ks.length (ks.map (Value.int .i64)) ∧ Below w.heap.size w w'

set_option maxRecDepth 100000 in
theorem keys_nil_int (w : World) : Calls Try.prog 15 #[.pointer none] w (KeysPost_int (fun _ => 0) 0 w) := by
  go_enter Try.func15, Try.ntmps15
  go_wp2_with (go_at_call 29; refine (rows_nil_int _).mono ?_; rintro e w1 ⟨sv, l, rfl, _, hmem, hlen, hrow, hb1⟩; have Hm := Lib.hid hmem; clear hmem; have hl0 : l.length = 0 := (by omega); obtain rfl := List.eq_nil_of_length_eq_zero hl0; obtain ⟨p, cap, rfl⟩ := own_slice hrow; clear hl0)
  refine wp_loop_rounds 1 ?_
  rw [rounds_succ]
  go_wp2_with (go_at_call 32; refine (Try.slices_Sort_int_none _ _ _).mono ?_; rintro e w' ⟨rfl, rfl⟩)
  go_ret
  exact ⟨_, [], rfl, List.Pairwise.nil, fun k => by simp, Nat.le_refl _, World.ownsRow_nil _ _ _ _, hb1⟩

set_option maxRecDepth 100000 in
set_option maxHeartbeats 1000000 in
theorem keys_int (p : Nat) (ob : Option Nat) (n : Nat) (f : Int → Int) (w : World) (h : Tally_int w p ob n f) (hn : n ≤ 1000000) :
    Calls Try.prog 15 #[.pointer (some ⟨p, 0, none⟩)] w (KeysPost_int f n w) := by
  obtain ⟨i0, hi, hz0, hz1, hz2⟩ := info_parts info_int
  go_enter Try.func15, Try.ntmps15
  go_wp2_with (go_at_call 29; refine (rows_int p ob n f _ h hn).mono ?_; rintro e w1 ⟨sv, l, rfl, hnd, hmem, hlen, hrow, hb1⟩; have Hm := Lib.hid hmem; clear hmem; obtain ⟨p0, cap, rfl⟩ := own_slice hrow)
  have hs1 := hb1.size
  go_loopw [3, 9] (fun v i wr => ∃ j : Nat, j ≤ l.length ∧ i = .int .i64 j ∧ wr.ownsRow w.heap.size 3 1 v j ((l.take j).map (Value.int .i64)) ∧ Below w.heap.size w wr ∧ wr.ownsRow w.heap.size 53 2 (.slice p0 l.length cap) l.length (flat (Value.int .i64) f l)) (fun _ i _ => l.length - (intOf i).toNat)
  case atStart => exact ⟨0, Nat.zero_le _, rfl, World.ownsRow_nil _ _ _ _, hb1, hrow⟩
  case round =>
    obtain ⟨j, hj, rfl, hown, hnx, hrw⟩ := hrel
    by_cases hlt : j < l.length
    · rcases hrw.2 with ⟨h0, h0'⟩ | ⟨g, cap', cur, hv, hbase, hb, h1, h2, h3, h4⟩
      · omega
      · have hap := Lib.hid (own_apart hown hb (by decide))
        cases hv
        have hc : ∀ j u, (flat (Value.int .i64) f l)[j]? = some u → wr.cell? ⟨g, j, none⟩ = some u := fun j u hu => by
          have := hrw.cells (g := g) rfl j u hu
          by_cases hj : j = 0
          · subst hj; simpa [Addr.add] using this
          · simpa [Addr.add, hj] using this
        have hgl := Lib.hid (lt_size hb)
        have Hb := Lib.hid hb
        have Ht := Lib.hid (take_more l j hlt)
        have hls := Lib.hid (show (l.take j).length = j by simp; omega)
        have hsz := hnx.size
        clear h4 hb h3
        by_cases hj0 : j = 0
        · subst hj0
          have hk0 : wr.cell? ⟨g, 0, none⟩ = some (.int .i64 l[0]) := hc _ _ (flat_at (Value.int .i64) f l 0 hlt).1
          have hk1 : wr.cell? ⟨g, 1, none⟩ = some (.int .i64 (f l[0])) := hc _ _ (flat_at (Value.int .i64) f l 0 hlt).2
          clear hc hj
          go_wp2_with (at_builtin; refine wpList_append_own _ rfl _ _ 33 rfl w.heap.size 3 i0 _ 1 8 Try.underlying33 hi hz0 hz1 hz2 rfl (by decide) _ _ _ rfl ((hown.alloc _).alloc _) ⟨wr.heap.size + 1, 0, none⟩ 1 1 [.int .i64 l[0]] rfl rfl (by simpa using cell_one_new (wr.alloc _) _ _) (by simp [Value.oneCell']) (by unfold maxLen; omega) (by omega) (by simp; omega) ?_; intro v' w3 hown' hg3 _; go_frame)
          go_roundw
          case rel =>
            refine ⟨1, by omega, rfl, by rw [Ht.out, List.map_append]; exact hown', ((hnx.alloc hsz _).alloc (by simp; omega) _).grown hg3 (by simp; omega) (fun j hj => (hown.lt j hj).1), ?_⟩
            exact ((hrw.alloc _).alloc _).kept hg3 (.inr (by show some g ≠ _; exact hap.out))
          case measure => simp [intOf]; omega
        · have hk0 : wr.cell? ⟨g, j * 2, none⟩ = some (.int .i64 l[j]) := hc _ _ (flat_at (Value.int .i64) f l j hlt).1
          have hk1 : wr.cell? ⟨g, j * 2 + 1, none⟩ = some (.int .i64 (f l[j])) := hc _ _ (flat_at (Value.int .i64) f l j hlt).2
          clear hc
          go_wp2_with (at_builtin; refine wpList_append_own _ rfl _ _ 33 rfl w.heap.size 3 i0 _ 1 8 Try.underlying33 hi hz0 hz1 hz2 rfl (by decide) _ _ _ rfl ((hown.alloc _).alloc _) ⟨wr.heap.size + 1, 0, none⟩ 1 1 [.int .i64 l[j]] rfl rfl (by simpa using cell_one_new (wr.alloc _) _ _) (by simp [Value.oneCell']) (by unfold maxLen; omega) (by omega) (by simp; omega) ?_; intro v' w3 hown' hg3 _; go_frame)
          go_roundw
          case rel =>
            refine ⟨j + 1, by omega, by go_num, by rw [Ht.out, List.map_append]; exact hown', ((hnx.alloc hsz _).alloc (by simp; omega) _).grown hg3 (by simp; omega) (fun j hj => (hown.lt j hj).1), ?_⟩
            exact ((hrw.alloc _).alloc _).kept hg3 (.inr (by show some g ≠ _; exact hap.out))
          case measure => simp [intOf]; omega
    · obtain rfl : j = l.length := by omega
      have hperm := List.mergeSort_perm l (fun x y => decide (x ≤ y))
      have hlen2 := Lib.hid (List.length_mergeSort (le := fun x y : Int => decide (x ≤ y)) l)
      have hris := Lib.hid (rising_int hnd)
      have hmem2 := Lib.hid (fun k => (hperm.mem_iff (a := k)).trans (Hm.out k))
      rw [List.take_length] at hown
      clear hperm
      by_cases hl0 : l.length = 0
      · obtain rfl := List.eq_nil_of_length_eq_zero hl0
        obtain ⟨q, cap2, rfl⟩ := own_slice hown
        clear hl0 hj hlt
        go_wp2_with (go_at_call 32; refine (Try.slices_Sort_int_none _ _ _).mono ?_; rintro e w' ⟨rfl, rfl⟩)
        go_ret
        exact ⟨_, [], rfl, List.Pairwise.nil, fun k => by simpa using hmem2.out k, Nat.zero_le _, hown, hnx⟩
      · obtain ⟨g, cap2, rfl⟩ := own_succ hown (by omega)
        have Hown := Lib.hid hown
        have hgl := (hown.lt g rfl)
        clear hown
        go_wp2_with (go_at_call 32; refine (Try.slices_Sort_int g 0 cap2 l _ (holds_own Hown.out) hgl.2 (by omega)).mono ?_; rintro e w' ⟨rfl, nn, os, rfl⟩)
        go_ret
        refine ⟨_, _, rfl, hris.out, hmem2.out, by rw [hlen2.out]; exact hlen, by have := own_sort (os := os) (n := nn) hlen2.out Hown.out; rw [hlen2.out]; exact this, hnx.grown (grown_sort _ _ _ _ _ _) hnx.size (fun j hj => by cases hj; exact hgl.1)⟩

/-- What Keys tells. -/
def KeysPost_string (f : List UInt8 → Int) (n : Nat) (w : World) (e : Ending) (w' : World) : Prop :=
  ∃ (sv : Value) (ks : List (List UInt8)), e = .returned sv ∧ ks.Pairwise (· < ·) ∧ (∀ k : List UInt8, k ∈ ks ↔ f k ≠ 0) ∧ ks.length ≤ n ∧ w'.ownsRow w.heap.size 9 1 sv ks.length (ks.map encStr) ∧ Below w.heap.size w w'

set_option maxRecDepth 100000 in
theorem keys_nil_string (w : World) : Calls Try.prog 23 #[.pointer none] w (KeysPost_string (fun _ => 0) 0 w) := by
  go_enter Try.func23, Try.ntmps23
  go_wp2_with (go_at_call 37; refine (rows_nil_string _).mono ?_; rintro e w1 ⟨sv, l, rfl, _, hmem, hlen, hrow, hb1⟩; have Hm := Lib.hid hmem; clear hmem; have hl0 : l.length = 0 := (by omega); obtain rfl := List.eq_nil_of_length_eq_zero hl0; obtain ⟨p, cap, rfl⟩ := own_slice hrow; clear hl0)
  refine wp_loop_rounds 1 ?_
  rw [rounds_succ]
  go_wp2_with (go_at_call 38; refine (Try.slices_Sort_string_none _ _ _).mono ?_; rintro e w' ⟨rfl, rfl⟩)
  go_ret
  exact ⟨_, [], rfl, List.Pairwise.nil, fun k => by simp, Nat.le_refl _, World.ownsRow_nil _ _ _ _, hb1⟩

set_option maxRecDepth 100000 in
set_option maxHeartbeats 1000000 in
theorem keys_string (p : Nat) (ob : Option Nat) (n : Nat) (f : List UInt8 → Int) (w : World) (h : Tally_string w p ob n f) (hn : n ≤ 1000000) :
    Calls Try.prog 23 #[.pointer (some ⟨p, 0, none⟩)] w (KeysPost_string f n w) := by
  obtain ⟨i0, hi, hz0, hz1, hz2⟩ := info_parts info_string
  go_enter Try.func23, Try.ntmps23
  go_wp2_with (go_at_call 37; refine (rows_string p ob n f _ h hn).mono ?_; rintro e w1 ⟨sv, l, rfl, hnd, hmem, hlen, hrow, hb1⟩; have Hm := Lib.hid hmem; clear hmem; obtain ⟨p0, cap, rfl⟩ := own_slice hrow)
  have hs1 := hb1.size
  go_loopw [3, 9] (fun v i wr => ∃ j : Nat, j ≤ l.length ∧ i = .int .i64 j ∧ wr.ownsRow w.heap.size 9 1 v j ((l.take j).map encStr) ∧ Below w.heap.size w wr ∧ wr.ownsRow w.heap.size 65 2 (.slice p0 l.length cap) l.length (flat encStr f l)) (fun _ i _ => l.length - (intOf i).toNat)
  case atStart => exact ⟨0, Nat.zero_le _, rfl, World.ownsRow_nil _ _ _ _, hb1, hrow⟩
  case round =>
    obtain ⟨j, hj, rfl, hown, hnx, hrw⟩ := hrel
    by_cases hlt : j < l.length
    · rcases hrw.2 with ⟨h0, h0'⟩ | ⟨g, cap', cur, hv, hbase, hb, h1, h2, h3, h4⟩
      · omega
      · have hap := Lib.hid (own_apart hown hb (by decide))
        cases hv
        have hc : ∀ j u, (flat encStr f l)[j]? = some u → wr.cell? ⟨g, j, none⟩ = some u := fun j u hu => by
          have := hrw.cells (g := g) rfl j u hu
          by_cases hj : j = 0
          · subst hj; simpa [Addr.add] using this
          · simpa [Addr.add, hj] using this
        have hgl := Lib.hid (lt_size hb)
        have Hb := Lib.hid hb
        have Ht := Lib.hid (take_more l j hlt)
        have hls := Lib.hid (show (l.take j).length = j by simp; omega)
        have hsz := hnx.size
        clear h4 hb h3
        by_cases hj0 : j = 0
        · subst hj0
          have hk0 : wr.cell? ⟨g, 0, none⟩ = some (encStr l[0]) := hc _ _ (flat_at encStr f l 0 hlt).1
          have hk1 : wr.cell? ⟨g, 1, none⟩ = some (.int .i64 (f l[0])) := hc _ _ (flat_at encStr f l 0 hlt).2
          clear hc hj
          go_wp2_with (at_builtin; refine wpList_append_own _ rfl _ _ 36 rfl w.heap.size 9 i0 _ 1 16 Try.underlying36 hi hz0 hz1 hz2 rfl (by decide) _ _ _ rfl ((hown.alloc _).alloc _) ⟨wr.heap.size + 1, 0, none⟩ 1 1 [encStr l[0]] rfl rfl (by simpa using cell_one_new (wr.alloc _) _ _) (by simp [Value.oneCell', encStr]) (by unfold maxLen; omega) (by omega) (by simp; omega) ?_; intro v' w3 hown' hg3 _; go_frame)
          go_roundw
          case rel =>
            refine ⟨1, by omega, rfl, by rw [Ht.out, List.map_append]; exact hown', ((hnx.alloc hsz _).alloc (by simp; omega) _).grown hg3 (by simp; omega) (fun j hj => (hown.lt j hj).1), ?_⟩
            exact ((hrw.alloc _).alloc _).kept hg3 (.inr (by show some g ≠ _; exact hap.out))
          case measure => simp [intOf]; omega
        · have hk0 : wr.cell? ⟨g, j * 2, none⟩ = some (encStr l[j]) := hc _ _ (flat_at encStr f l j hlt).1
          have hk1 : wr.cell? ⟨g, j * 2 + 1, none⟩ = some (.int .i64 (f l[j])) := hc _ _ (flat_at encStr f l j hlt).2
          clear hc
          go_wp2_with (at_builtin; refine wpList_append_own _ rfl _ _ 36 rfl w.heap.size 9 i0 _ 1 16 Try.underlying36 hi hz0 hz1 hz2 rfl (by decide) _ _ _ rfl ((hown.alloc _).alloc _) ⟨wr.heap.size + 1, 0, none⟩ 1 1 [encStr l[j]] rfl rfl (by simpa using cell_one_new (wr.alloc _) _ _) (by simp [Value.oneCell', encStr]) (by unfold maxLen; omega) (by omega) (by simp; omega) ?_; intro v' w3 hown' hg3 _; go_frame)
          go_roundw
          case rel =>
            refine ⟨j + 1, by omega, by go_num, by rw [Ht.out, List.map_append]; exact hown', ((hnx.alloc hsz _).alloc (by simp; omega) _).grown hg3 (by simp; omega) (fun j hj => (hown.lt j hj).1), ?_⟩
            exact ((hrw.alloc _).alloc _).kept hg3 (.inr (by show some g ≠ _; exact hap.out))
          case measure => simp [intOf]; omega
    · obtain rfl : j = l.length := by omega
      have hperm := List.mergeSort_perm l (fun x y => decide (x ≤ y))
      have hlen2 := Lib.hid (List.length_mergeSort (le := fun x y : List UInt8 => decide (x ≤ y)) l)
      have hris := Lib.hid (rising_string hnd)
      have hmem2 := Lib.hid (fun k => (hperm.mem_iff (a := k)).trans (Hm.out k))
      rw [List.take_length] at hown
      clear hperm
      by_cases hl0 : l.length = 0
      · obtain rfl := List.eq_nil_of_length_eq_zero hl0
        obtain ⟨q, cap2, rfl⟩ := own_slice hown
        clear hl0 hj hlt
        go_wp2_with (go_at_call 38; refine (Try.slices_Sort_string_none _ _ _).mono ?_; rintro e w' ⟨rfl, rfl⟩)
        go_ret
        exact ⟨_, [], rfl, List.Pairwise.nil, fun k => by simpa using hmem2.out k, Nat.zero_le _, hown, hnx⟩
      · obtain ⟨g, cap2, rfl⟩ := own_succ hown (by omega)
        have Hown := Lib.hid hown
        have hgl := (hown.lt g rfl)
        clear hown
        go_wp2_with (go_at_call 38; refine (Try.slices_Sort_string g 0 cap2 l _ (holds_own Hown.out) hgl.2 (by omega)).mono ?_; rintro e w' ⟨rfl, nn, os, rfl⟩)
        go_ret
        refine ⟨_, _, rfl, hris.out, hmem2.out, by rw [hlen2.out]; exact hlen, by have := own_sort (os := os) (n := nn) hlen2.out Hown.out; rw [hlen2.out]; exact this, hnx.grown (grown_sort _ _ _ _ _ _) hnx.size (fun j hj => by cases hj; exact hgl.1)⟩
end Go.Proofs.Ytdoaacfonkgokaa
