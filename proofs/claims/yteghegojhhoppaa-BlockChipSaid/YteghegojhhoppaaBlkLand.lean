/- Package block: Clean, Left, Bad, Cleans, Counts, Good. -/
import Derived.Test.YteghegojhhoppaaBlk
import Derived.Test.YteghegojhhoppaaRowB
namespace Go.Proofs.Yteghegojhhoppaa
open Go.RowKit

/-- A block as a value. -/
abbrev bcV (b : Bk) (A : Option Addr) (n c : Nat) : Value := .agg #[.bool b.bad, .int .i64 b.next, .int .i64 b.count, .slice A n c]
set_option maxRecDepth 100000 in
set_option maxHeartbeats 1000000 in
theorem clean_any (b : Bk) (A : Option Addr) (n c : Nat) (w : World) : Calls Try.prog 8 #[bcV b A n c] w fun e w' => e = .returned (.bool (cleanB b)) ∧ Below w.heap.size w w' := by
  obtain ⟨bad, next, count, pages⟩ := b
  cases bad with
  | true =>
    go_enter Try.func8, Try.ntmps8
    go_wp2_with fail
    go_ret
    exact ⟨rfl, (Below.refl _ _).alloc (Nat.le_refl _) _⟩
  | false =>
    go_enter Try.func8, Try.ntmps8
    go_wp2_with fail
    go_ret
    exact ⟨ret_bool (by simp [cleanB]), (Below.refl _ _).alloc (Nat.le_refl _) _⟩
set_option maxRecDepth 100000 in
set_option maxHeartbeats 1000000 in
theorem left_any (b : Bk) (A : Option Addr) (n c : Nat) (pages : Int) (w : World) (h1 : (Lit.int .i64 b.next).wf = true) (h2 : (Lit.int .i64 pages).wf = true) : Calls Try.prog 7 #[bcV b A n c, .int .i64 pages] w fun e w' => e = .returned (.int .i64 (leftB b pages)) ∧ Below w.heap.size w w' := by
  obtain ⟨bad, next, count, pgs⟩ := b
  obtain ⟨k1, k3⟩ := wf_le h1
  obtain ⟨k2, k4⟩ := wf_le h2
  have k1' : -9223372036854775808 ≤ next := k1
  have k3' : next ≤ 9223372036854775807 := k3
  clear h1 h2 k1 k3
  cases bad with
  | true =>
    go_enter Try.func7, Try.ntmps7
    go_wp2_with fail
    go_ret
    exact ⟨rfl, (Below.refl _ _).alloc (Nat.le_refl _) _⟩
  | false =>
    by_cases c1 : pages ≤ next
    · go_enter Try.func7, Try.ntmps7
      go_wp2_with fail
      go_ret
      exact ⟨ret_int (by simp only [leftB]; rw [if_neg (by decide)]; split; rfl; rw [if_neg (by omega)]; omega), (Below.refl _ _).alloc (Nat.le_refl _) _⟩
    · by_cases c2 : next < 0
      · by_cases c3 : 9223372036854775807 + next < pages
        · go_enter Try.func7, Try.ntmps7
          go_wp2_with fail
          go_ret
          exact ⟨ret_int (by simp only [leftB]; rw [if_neg (by decide), if_neg (by omega), if_pos (by omega)]), (Below.refl _ _).alloc (Nat.le_refl _) _⟩
        · go_enter Try.func7, Try.ntmps7
          go_wp2_with fail
          go_ret
          exact ⟨ret_int (by simp only [leftB]; rw [if_neg (by decide), if_neg (by omega), if_neg (by omega)]), (Below.refl _ _).alloc (Nat.le_refl _) _⟩
      · go_enter Try.func7, Try.ntmps7
        go_wp2_with fail
        go_ret
        exact ⟨ret_int (by simp only [leftB]; rw [if_neg (by decide), if_neg (by omega), if_neg (by omega)]), (Below.refl _ _).alloc (Nat.le_refl _) _⟩
/-- A row that is filled from its beginning: what stands there behind j rounds. -/
def fillL {α β : Type} (f : α → β) (d : β) (l : List α) (j : Nat) : List β := (l.take j).map f ++ List.replicate (l.length - j) d
theorem fill_zero {α β : Type} (f : α → β) (d : β) (l : List α) : fillL f d l 0 = List.replicate l.length d := by simp [fillL]
theorem fill_all {α β : Type} (f : α → β) (d : β) (l : List α) : fillL f d l l.length = l.map f := by simp [fillL]
theorem fill_length {α β : Type} (f : α → β) (d : β) (l : List α) (j : Nat) (h : j ≤ l.length) : (fillL f d l j).length = l.length := by simp [fillL]; omega
theorem fill_set {α β : Type} (f : α → β) (d : β) (l : List α) (j : Nat) (h : j < l.length) : (fillL f d l j).set j (f l[j]) = fillL f d l (j + 1) := by
  unfold fillL
  rw [List.take_succ_eq_append_getElem h, List.set_append_right _ _ (by rw [List.length_map, List.length_take]; omega), show l.length - j = (l.length - (j + 1)) + 1 by omega, List.replicate_succ]
  have e : j - (List.map f (List.take j l)).length = 0 := by rw [List.length_map, List.length_take]; omega
  rw [e, List.map_append]
  simp
theorem made_ints (n : Nat) : madeCells #[Value.int .i64 0] n = ((List.replicate n (0 : Int)).map (Value.int .i64)).toArray := by
  apply Array.ext
  · simp [madeCells]
  · intro i h1 h2
    simp [madeCells, Nat.mod_one]
theorem made_bools (n : Nat) : madeCells #[Value.bool false] n = ((List.replicate n false).map Value.bool).toArray := by
  apply Array.ext
  · simp [madeCells]
  · intro i h1 h2
    simp [madeCells, Nat.mod_one]
theorem make_ints (n : Nat) (h : n ≤ 1000000) (w : World) : (Instr.makeSlice 31 (.int .i64 n) (.int .i64 n)).run Try.prog w = .ok (.slice (some ⟨w.heap.size, 0, none⟩) n n) (w.alloc (.cells (madeCells #[Value.int .i64 0] n) 3)) :=
  run_make_row' 31 3 (.int .i64 0) 8 Try.underlying31 info_int rfl .i64 .i64 n (by omega) (by omega) w
theorem make_bools (n : Nat) (h : n ≤ 1000000) (w : World) : (Instr.makeSlice 33 (.int .i64 n) (.int .i64 n)).run Try.prog w = .ok (.slice (some ⟨w.heap.size, 0, none⟩) n n) (w.alloc (.cells (madeCells #[Value.bool false] n) 4)) :=
  run_make_row' 33 4 (.bool false) 1 Try.underlying33 info_bool rfl .i64 .i64 n (by omega) (by omega) w
theorem row_set {w : World} {g : Nat} {l : List Int} {t : TypeId} (h : w.heap[g]? = some (.cells (l.map (Value.int .i64)).toArray t (0, 0))) (k : Nat) (v : Int) : (w.setCell ⟨g, k, none⟩ (.int .i64 v)).heap[g]? = some (.cells ((l.set k v).map (Value.int .i64)).toArray t (0, 0)) := by
  rw [heap_setCell_same w g k _ t _ h]
  simp [List.map_set]
theorem brow_set {w : World} {g : Nat} {l : List Bool} {t : TypeId} (h : w.heap[g]? = some (.cells (l.map Value.bool).toArray t (0, 0))) (k : Nat) (v : Bool) : (w.setCell ⟨g, k, none⟩ (.bool v)).heap[g]? = some (.cells ((l.set k v).map Value.bool).toArray t (0, 0)) := by
  rw [heap_setCell_same w g k _ t _ h]
  simp [List.map_set]
section
variable (A : Option Addr) (c : Nat) (l : List Bk) (w : World) (hl : l.length ≤ 1000) (hA : BLies w A l)
include hl hA
set_option maxRecDepth 100000 in
set_option maxHeartbeats 2000000 in
theorem bad_any : Calls Try.prog 9 #[.slice A l.length c] w fun e w' => e = .returned (.int .i64 (badB l : Int)) ∧ Below w.heap.size w w' := by
  have HA := Lib.hid hA
  clear hA
  go_enter Try.func9, Try.ntmps9
  go_wp2_with fail
  go_loopw [3, 8] (fun v3 v8 wr => ∃ j : Nat, j ≤ l.length ∧ v8 = .int .i64 j ∧ v3 = .int .i64 (badB (l.take j) : Int) ∧ Below w.heap.size w wr) (fun _ v8 _ => l.length - (intOf v8).toNat)
  case atStart => exact ⟨0, Nat.zero_le _, rfl, rfl, Below.refl _ _⟩
  case round =>
    obtain ⟨j, hj, rfl, rfl, hB⟩ := hrel
    have HB := Lib.hid hB
    have hs := hB.size
    clear hB
    by_cases hj1 : j < l.length
    · obtain ⟨B, o, rfl, hBs, hc⟩ := HA.out (by omega)
      obtain ⟨k0, k1, k2, A1, n1, c1, k3⟩ := (hc j hj1).kept (HB.out.block B hBs)
      have HT := Lib.hid (bad_take hj1)
      have hle := bad_le (l.take j)
      have hle2 : (l.take j).length ≤ 1000 := by simp; omega
      clear hc
      generalize badB (l.take j) = v at HT hle ⊢
      generalize l[j] = b at k0 k1 k2 HT
      obtain ⟨bad, next, count, pgs⟩ := b
      cases bad with
      | true =>
        go_wp2_with fail
        go_roundw
        case rel => exact ⟨j + 1, by omega, by go_num, by rw [HT.out]; go_num, HB.out.alloc HB.out.size _⟩
        case measure => simp [intOf]; omega
      | false =>
        go_wp2_with fail
        go_roundw
        case rel => exact ⟨j + 1, by omega, by go_num, by rw [HT.out]; go_num, HB.out.alloc HB.out.size _⟩
        case measure => simp [intOf]; omega
    · obtain rfl : j = l.length := by omega
      have hz := Lib.hid (show l.take l.length = l from List.take_length)
      go_wp2_with fail
      go_ret
      exact ⟨ret_int (by rw [hz.out]), HB.out⟩
/-- What a call leaves that tells ints in a row of its own. -/
def RowPost (xs : List Int) (w : World) (e : Ending) (w' : World) : Prop :=
  ∃ A c, e = .returned (.slice A xs.length c) ∧ IA w' A xs ∧ (∀ ad, A = some ad → w.heap.size ≤ ad.block) ∧ Below w.heap.size w w'
set_option maxRecDepth 100000 in
set_option maxHeartbeats 2000000 in
theorem cleans_any : Calls Try.prog 10 #[.slice A l.length c] w (RowPost (cleansB l) w) := by
  have HA := Lib.hid hA
  clear hA
  go_enter Try.func10, Try.ntmps10
  go_wp2_with fail
  go_loopw [3, 8] (fun v3 v8 wr => ∃ j : Nat, j ≤ l.length ∧ v8 = .int .i64 j ∧ IOwn wr w.heap.size v3 (cleansB (l.take j)) ∧ Below w.heap.size w wr) (fun _ v8 _ => l.length - (intOf v8).toNat)
  case atStart => exact ⟨0, Nat.zero_le _, rfl, iown_nil _ _, Below.refl _ _⟩
  case round =>
    obtain ⟨j, hj, rfl, hO, hB⟩ := hrel
    have HB := Lib.hid hB
    have HO := Lib.hid hO
    have hs := hB.size
    clear hB hO
    by_cases hj1 : j < l.length
    · obtain ⟨B, o, rfl, hBs, hc⟩ := HA.out (by omega)
      obtain ⟨k0, k1, k2, A1, n1, c1, k3⟩ := (hc j hj1).kept (HB.out.block B hBs)
      have HT := Lib.hid (cleans_take hj1)
      have hle := cleans_le (l.take j)
      have hle2 : (l.take j).length ≤ 1000 := by simp; omega
      clear hc
      generalize l[j] = b at k0 k1 k2 HT
      have HC := Lib.hid (fun w1 => clean_any b A1 n1 c1 w1)
      have HW1 := Lib.hid ((Below.refl wr.heap.size wr).alloc (Nat.le_refl _) (.cells #[.bool b.bad, .int .i64 b.next, .int .i64 b.count, .slice A1 n1 c1] 27))
      cases hcb : cleanB b with
      | true =>
        rw [hcb] at HC HT
        rw [if_pos rfl] at HT
        clear hcb
        generalize cleansB (l.take j) = xs at *
        obtain ⟨p, cap, rfl, _⟩ := own_slice HO.out
        go_wp2_with (first
          | (go_at_call 8; refine (HC.out _).mono ?_; rintro e w2 ⟨rfl, hb2⟩; have HB2 := Lib.hid (HW1.out.trans (hb2.mono (by simp))); have hs2 := hb2.size; clear hb2)
          | (at_builtin; refine wpList_app rfl _ _ rfl w.heap.size _ xs [(j : Int)] _ 1 rfl rfl (iown_keep (iown_keep HO.out HB2.out) ((Below.refl _ _).alloc (Nat.le_refl _) _)) (iown_one _ _) (by simp) (by simp; omega) (by simp at hs2 ⊢; omega) ?_; intro q cap2 w3 h3 hg3))
        go_roundw
        case rel => exact ⟨j + 1, by omega, by go_num, by rw [HT.out]; exact h3, iown_below (v := .slice p xs.length cap) (iown_keep (iown_keep HO.out HB2.out) ((Below.refl _ _).alloc (Nat.le_refl _) _)) ((HB.out.trans (HB2.out.mono HB.out.size)).alloc (by simp at hs2; omega) _) hg3 (by simp at hs2 ⊢; omega)⟩
        case measure => simp [intOf]; omega
      | false =>
        rw [hcb] at HC HT
        rw [if_neg (by decide), List.append_nil] at HT
        clear hcb
        go_wp2_with (go_at_call 8; refine (HC.out _).mono ?_; rintro e w2 ⟨rfl, hb2⟩; have HB2 := Lib.hid (HW1.out.trans (hb2.mono (by simp))); clear hb2)
        go_roundw
        case rel => exact ⟨j + 1, by omega, by go_num, by rw [HT.out]; exact iown_keep HO.out HB2.out, HB.out.trans (HB2.out.mono HB.out.size)⟩
        case measure => simp [intOf]; omega
    · obtain rfl : j = l.length := by omega
      have hz := Lib.hid (show l.take l.length = l from List.take_length)
      rw [hz.out] at HO
      obtain ⟨p, cap, rfl, _⟩ := own_slice HO.out
      go_wp2_with fail
      go_ret
      exact ⟨p, cap, rfl, HO.out.arr.1, HO.out.arr.2.2, HB.out⟩
set_option maxRecDepth 100000 in
set_option maxHeartbeats 2000000 in
theorem counts_any : Calls Try.prog 16 #[.slice A l.length c] w (RowPost (l.map (fun b : Bk => b.count)) w) := by
  have HA := Lib.hid hA
  clear hA
  have hmk := fun w1 : World => make_ints l.length (by omega) w1
  have HX0 := Lib.hid (heap_alloc_new w (.cells (madeCells #[Value.int .i64 0] l.length) 3))
  have HB0 := Lib.hid ((Below.refl w.heap.size w).alloc (Nat.le_refl _) (.cells (madeCells #[Value.int .i64 0] l.length) 3))
  have HE := Lib.hid (made_ints l.length)
  go_enter Try.func16, Try.ntmps16
  go_wp2_with fail
  rw [HE.out] at HX0 HB0 ⊢
  obtain ⟨G, hG⟩ : ∃ G, G = w.heap.size := ⟨_, rfl⟩
  have HG := Lib.hid hG
  rw [← hG] at HX0 ⊢
  generalize w.alloc (.cells _ 3) = w1 at HX0 HB0 ⊢
  clear hmk hG
  go_loopw [4, 11] (fun _ v11 wr => ∃ j : Nat, j ≤ l.length ∧ v11 = .int .i64 j ∧ wr.heap[G]? = some (.cells ((fillL (fun b : Bk => b.count) (0 : Int) l j).map (Value.int .i64)).toArray 3 (0, 0)) ∧ Below w.heap.size w wr) (fun _ v11 _ => l.length - (intOf v11).toNat)
  case atStart => exact ⟨0, Nat.zero_le _, rfl, by rw [fill_zero]; exact HX0.out, HB0.out⟩
  case round =>
    obtain ⟨j, hj, rfl, hx, hB⟩ := hrel
    have HX := Lib.hid hx
    have HB := Lib.hid hB
    have hs := hB.size
    have hGs := (Array.getElem?_eq_some_iff.1 hx).1
    clear hx hB
    by_cases hj1 : j < l.length
    · obtain ⟨B, o, rfl, hBs, hc⟩ := HA.out (by omega)
      obtain ⟨k0, k1, k2, A1, n1, c1, k3⟩ := (hc j hj1).kept (HB.out.block B hBs)
      have hjf : j < (fillL (fun b : Bk => b.count) (0 : Int) l j).length := by rw [fill_length _ _ _ _ hj]; exact hj1
      have HW1 := fun cs : Array Value => Lib.hid ((Below.refl wr.heap.size wr).alloc (Nat.le_refl _) (.cells cs 27))
      clear hc
      have HN := Lib.hid (fill_set (fun b : Bk => b.count) (0 : Int) l j hj1)
      generalize l[j] = b at k0 k1 k2 HN
      have hx2 : (wr.alloc (.cells #[.bool b.bad, .int .i64 b.next, .int .i64 b.count, .slice A1 n1 c1] 27)).heap[G]? = some (.cells ((fillL (fun b : Bk => b.count) (0 : Int) l j).map (Value.int .i64)).toArray 3 (0, 0)) := (heap_alloc_old _ _ hGs).trans HX.out
      have q0 := row_cell hx2 j hjf
      have q1 := row_frozen hx2 j
      have HXN := Lib.hid (row_set HX.out j (((fun b : Bk => b.count) : Bk → _) b))
      rw [HN.out] at HXN
      clear hx2
      generalize (fillL (fun b : Bk => b.count) (0 : Int) l j)[j] = old at q0
      go_wp2_with fail
      go_roundw
      case rel => exact ⟨j + 1, by omega, by go_num, (heap_alloc_old _ _ (by simpa using hGs)).trans HXN.out, (HB.out.setCell (p := ⟨G, j, none⟩) (by rw [HG.out]; exact Nat.le_refl _) _).alloc (by simp; omega) _⟩
      case measure => simp [intOf]; omega
    · obtain rfl : j = l.length := by omega
      have HZ := Lib.hid (fill_all (fun b : Bk => b.count) (0 : Int) l)
      go_wp2_with fail
      go_ret
      refine ⟨some ⟨G, 0, none⟩, l.length, ?_, ?_, fun ad e => ?_, HB.out⟩
      · rw [List.length_map]; rfl
      · rw [← HZ.out]; exact row_arr HX.out
      · cases e; rw [HG.out]; exact Nat.le_refl _
/-- As RowPost, of bools. -/
def RowBPost (xs : List Bool) (w : World) (e : Ending) (w' : World) : Prop :=
  ∃ A c, e = .returned (.slice A xs.length c) ∧ BA w' A xs ∧ (∀ ad, A = some ad → w.heap.size ≤ ad.block) ∧ Below w.heap.size w w'
set_option maxRecDepth 100000 in
set_option maxHeartbeats 2000000 in
theorem good_any : Calls Try.prog 11 #[.slice A l.length c] w (RowBPost (l.map (fun b : Bk => !b.bad)) w) := by
  have HA := Lib.hid hA
  clear hA
  have hmk := fun w1 : World => make_bools l.length (by omega) w1
  have HX0 := Lib.hid (heap_alloc_new w (.cells (madeCells #[Value.bool false] l.length) 4))
  have HB0 := Lib.hid ((Below.refl w.heap.size w).alloc (Nat.le_refl _) (.cells (madeCells #[Value.bool false] l.length) 4))
  have HE := Lib.hid (made_bools l.length)
  go_enter Try.func11, Try.ntmps11
  go_wp2_with fail
  rw [HE.out] at HX0 HB0 ⊢
  obtain ⟨G, hG⟩ : ∃ G, G = w.heap.size := ⟨_, rfl⟩
  have HG := Lib.hid hG
  rw [← hG] at HX0 ⊢
  generalize w.alloc (.cells _ 4) = w1 at HX0 HB0 ⊢
  clear hmk hG
  go_loopw [4, 11] (fun _ v11 wr => ∃ j : Nat, j ≤ l.length ∧ v11 = .int .i64 j ∧ wr.heap[G]? = some (.cells ((fillL (fun b : Bk => !b.bad) false l j).map Value.bool).toArray 4 (0, 0)) ∧ Below w.heap.size w wr) (fun _ v11 _ => l.length - (intOf v11).toNat)
  case atStart => exact ⟨0, Nat.zero_le _, rfl, by rw [fill_zero]; exact HX0.out, HB0.out⟩
  case round =>
    obtain ⟨j, hj, rfl, hx, hB⟩ := hrel
    have HX := Lib.hid hx
    have HB := Lib.hid hB
    have hs := hB.size
    have hGs := (Array.getElem?_eq_some_iff.1 hx).1
    clear hx hB
    by_cases hj1 : j < l.length
    · obtain ⟨B, o, rfl, hBs, hc⟩ := HA.out (by omega)
      obtain ⟨k0, k1, k2, A1, n1, c1, k3⟩ := (hc j hj1).kept (HB.out.block B hBs)
      have hjf : j < (fillL (fun b : Bk => !b.bad) false l j).length := by rw [fill_length _ _ _ _ hj]; exact hj1
      have HW1 := fun cs : Array Value => Lib.hid ((Below.refl wr.heap.size wr).alloc (Nat.le_refl _) (.cells cs 27))
      clear hc
      have HN := Lib.hid (fill_set (fun b : Bk => !b.bad) false l j hj1)
      generalize l[j] = b at k0 k1 k2 HN
      have hx2 : (wr.alloc (.cells #[.bool b.bad, .int .i64 b.next, .int .i64 b.count, .slice A1 n1 c1] 27)).heap[G]? = some (.cells ((fillL (fun b : Bk => !b.bad) false l j).map Value.bool).toArray 4 (0, 0)) := (heap_alloc_old _ _ hGs).trans HX.out
      have q0 := brow_cell hx2 j hjf
      have q1 := row_frozen hx2 j
      have HXN := Lib.hid (brow_set HX.out j (((fun b : Bk => !b.bad) : Bk → _) b))
      rw [HN.out] at HXN
      clear hx2
      generalize (fillL (fun b : Bk => !b.bad) false l j)[j] = old at q0
      go_wp2_with fail
      go_roundw
      case rel => exact ⟨j + 1, by omega, by go_num, (heap_alloc_old _ _ (by simpa using hGs)).trans HXN.out, (HB.out.setCell (p := ⟨G, j, none⟩) (by rw [HG.out]; exact Nat.le_refl _) _).alloc (by simp; omega) _⟩
      case measure => simp [intOf]; omega
    · obtain rfl : j = l.length := by omega
      have HZ := Lib.hid (fill_all (fun b : Bk => !b.bad) false l)
      go_wp2_with fail
      go_ret
      refine ⟨some ⟨G, 0, none⟩, l.length, ?_, ?_, fun ad e => ?_, HB.out⟩
      · rw [List.length_map]; rfl
      · rw [← HZ.out]; exact brow_arr HX.out
      · cases e; rw [HG.out]; exact Nat.le_refl _
end
end Go.Proofs.Yteghegojhhoppaa
