/- The landed chip: part: new bytes, the first n of those that came. -/
import Derived.Laws.CopyOwn
import Derived.Deep.OwnRows
import Derived.Test.YteghegojhhoppaaLHas
namespace Go.Proofs.Yteghegojhhoppaa
open Go.RowKit

/-- What part tells and leaves. -/
def PartPost (l : List UInt8) (n : Nat) (w : World) (e : Ending) (w' : World) : Prop := ∃ A2 L, e = .returned (.slice A2 L.length L.length) ∧ Hid (L = l.take n) ∧ NewB w w' A2 L
theorem newB_none (w : World) : NewB w w none [] := ⟨.nil, .refl _ _⟩
theorem newB_row {w w' : World} {l : List UInt8} {t : TypeId} (hb : Below w.heap.size w w') (h : w'.heap[w.heap.size]? = some (.cells (l.map ub).toArray t (0, 0))) : NewB w w' (some ⟨w.heap.size, 0, none⟩) l := by
  refine ⟨fun _ => ⟨_, rfl, ⟨Nat.le_refl _, lt_size h⟩, fun j hj => ?_⟩, hb⟩
  have e : (⟨w.heap.size, 0, none⟩ : Addr).add j = ⟨w.heap.size, j, none⟩ := by
    unfold Addr.add
    split
    · next e => subst e; rfl
    · simp
  rw [e]
  simp [World.cell?, h, hj]
theorem made_bytes (n : Nat) : madeCells #[Value.int .u8 0] n = (List.replicate n (Value.int .u8 0)).toArray := by
  apply Array.ext
  · simp [madeCells]
  · intro i h1 h2
    simp [madeCells, Nat.mod_one]
theorem splice_all {xs ys : List Value} (h : xs.length = ys.length) : splice xs 0 ys = ys := by simp [splice, ← h]
set_option maxRecDepth 100000 in
set_option maxHeartbeats 1000000 in
theorem part_some (A : Option Addr) (c m : Nat) (l : List UInt8) (n : Nat) (w : World) (B : Nat) (hr : RB w B A l) (hB : B ≤ w.heap.size) (hm : m = min n l.length) (hm0 : 1 ≤ m) (hm1 : l.length ≤ 140737488355328) (v : Value) (hv : v = .int .i64 n) :
    Calls Try.prog 22 #[.slice A l.length c, v] w (PartPost l n w) := by
  subst hv
  obtain ⟨i0, hi, hz0, hz1, hz2⟩ := info_parts info_byte
  have hsz : (Try.prog.info? 5).map (·.size) = some 1 := by rw [hi]; simp [hz1]
  obtain ⟨l2, hl2⟩ : ∃ l2, l2 = l.take n := ⟨_, rfl⟩
  have hlen : l2.length = m := by rw [hl2, List.length_take]; omega
  have hr2 := hr.take n
  rw [← hl2] at hr2
  obtain ⟨ad, rfl, hab, hcell⟩ := hr2 (by omega)
  obtain ⟨xs, hxs⟩ : ∃ xs, xs = l2.map ub := ⟨_, rfl⟩
  have hxl : xs.length = m := by rw [hxs, List.length_map, hlen]
  have hsrc : ∀ j v, xs[j]? = some v → w.cell? (ad.add j) = some v := fun j v h => by
    subst hxs
    rw [List.getElem?_map] at h
    obtain ⟨b, hb, rfl⟩ := Option.map_eq_some_iff.1 h
    obtain ⟨hj, rfl⟩ := List.getElem?_eq_some_iff.1 hb
    exact hcell j hj
  have hsrc2 : ∀ o j v, xs[j]? = some v → (w.alloc o).cell? (ad.add j) = some v := fun o j v h =>
    (World.cell?_of_block (heap_alloc_old _ _ (by rw [block_add]; exact Nat.lt_of_lt_of_le hab hB))).trans (hsrc j v h)
  have h1c : ∀ v ∈ xs, v.oneCell' = true := fun v hv => by
    subst hxs
    obtain ⟨b, _, rfl⟩ := List.mem_map.1 hv
    rfl
  have hmz : m ≠ 0 := by omega
  have HM := Lib.hid hm
  have H2 := Lib.hid hl2
  have HL := Lib.hid hlen
  have HX := Lib.hid hxs
  clear hr hr2 hl2 hcell hlen hxs
  by_cases hle : n ≤ l.length
  · obtain rfl : m = n := by omega
    clear hm
    go_enter Try.func22, Try.ntmps22
    go_wp2_with (first
      | (at_make; go_loud (refine wpList_make_row _ rfl _ _ 43 rfl 5 i0 (.int .u8 0) Try.underlying43 hi hz0 hz1 rfl .i64 .i64 m rfl rfl (by rw [hz2]; omega) (by omega) ?_; rw [made_bytes]))
      | (refine wpList_copy_splice rfl _ _ 43 43 rfl 5 Try.underlying43 hsz _ _ _ _ _ _ rfl rfl w.heap.size 0 (List.replicate m (.int .u8 0)) 5 (by rw [heap_alloc_new]; simp) xs (by rw [hxl]; show m = min l.length m; omega) (fun _ => ⟨rfl, ad, rfl, hsrc2 _⟩) (by rw [hxl]; simp) h1c w.heap.size w ((Below.refl _ _).alloc (Nat.le_refl _) _) (Nat.le_refl _) ?_; intro w2 hw2 hb2))
    go_ret
    refine ⟨some ⟨w.heap.size, 0, none⟩, l2, by rw [HL.out]; rfl, H2.out, newB_row (t := 5) hb2 ?_⟩
    rw [hw2.out, splice_all (by simp [hxl]), HX.out]
  · obtain rfl : m = l.length := by omega
    clear hm
    go_enter Try.func22, Try.ntmps22
    go_wp2_with (first
      | (at_make; go_loud (refine wpList_make_row _ rfl _ _ 43 rfl 5 i0 (.int .u8 0) Try.underlying43 hi hz0 hz1 rfl .i64 .i64 l.length rfl rfl (by rw [hz2]; omega) (by omega) ?_; rw [made_bytes]))
      | (refine wpList_copy_splice rfl _ _ 43 43 rfl 5 Try.underlying43 hsz _ _ _ _ _ _ rfl rfl w.heap.size 0 (List.replicate l.length (.int .u8 0)) 5 (by rw [heap_alloc_new]; simp) xs (by rw [hxl]; show l.length = min l.length l.length; omega) (fun _ => ⟨rfl, ad, rfl, hsrc2 _⟩) (by rw [hxl]; simp) h1c w.heap.size w ((Below.refl _ _).alloc (Nat.le_refl _) _) (Nat.le_refl _) ?_; intro w2 hw2 hb2))
    go_ret
    refine ⟨some ⟨w.heap.size, 0, none⟩, l2, by rw [HL.out]; rfl, H2.out, newB_row (t := 5) hb2 ?_⟩
    rw [hw2.out, splice_all (by simp [hxl]), HX.out]
theorem part_any (A : Option Addr) (c : Nat) (l : List UInt8) (n : Nat) (w : World) (B : Nat) (hr : RB w B A l) (hB : B ≤ w.heap.size) (hm1 : l.length ≤ 140737488355328) (v : Value) (hv : v = .int .i64 n) :
    Calls Try.prog 22 #[.slice A l.length c, v] w (PartPost l n w) := by
  by_cases h0 : 1 ≤ min n l.length
  · exact part_some A c _ l n w B hr hB rfl h0 hm1 v hv
  · subst hv
    have e1 : l.take n = [] := by
      apply List.eq_nil_of_length_eq_zero
      rw [List.length_take]; omega
    by_cases hn : n = 0
    · subst hn
      go_enter Try.func22, Try.ntmps22
      go_wp2
      go_ret
      exact ⟨none, [], rfl, e1.symm, newB_none w⟩
    · have hl : l.length = 0 := by omega
      go_enter Try.func22, Try.ntmps22
      go_wp2
      go_ret
      exact ⟨none, [], rfl, e1.symm, newB_none w⟩
end Go.Proofs.Yteghegojhhoppaa
