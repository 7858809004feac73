/- cmp.Compare and cmp.Or at int; the closure that compares two refs by their spots; the order of a row. -/
import Derived.Deep.RegionHeld3
import Derived.Deep.DeepCutAuto
import Derived.Handy
import Derived.Shelf.SlSortCmp.NoneTotal
import Derived.Test.YtbebbnkolpgndaaPSort
namespace Go.Proofs.Ytbebbnkolpgndaa
open Go.RowKit Go.Shelf Go.Lib Go.Sort

theorem nan_int (x : Int) (w : World) : Calls Try.prog 42 #[.int .i64 x] w fun e w' => e = .returned (.bool false) ∧ w' = w := by
  go_enter Try.func42, Try.ntmps42
  go_wp2_with fail
  go_ret
  exact ⟨ret_bool (by simp), rfl⟩
theorem compare_int (x y : Int) (w : World) : Calls Try.prog 31 #[.int .i64 x, .int .i64 y] w fun e w' => e = .returned (.int .i64 (compareInt x y)) ∧ w' = w := by
  unfold compareInt
  by_cases h1 : x < y
  · rw [if_pos h1]
    go_enter Try.func31, Try.ntmps31
    go_wp2_with (go_at_call 42; refine (nan_int _ _).mono ?_; rintro e w' ⟨rfl, rfl⟩)
    go_ret
    exact ⟨rfl, rfl⟩
  · by_cases h2 : x > y
    · rw [if_neg h1, if_pos h2]
      go_enter Try.func31, Try.ntmps31
      go_wp2_with (go_at_call 42; refine (nan_int _ _).mono ?_; rintro e w' ⟨rfl, rfl⟩)
      go_ret
      exact ⟨rfl, rfl⟩
    · rw [if_neg h1, if_neg h2]
      go_enter Try.func31, Try.ntmps31
      go_wp2_with (go_at_call 42; refine (nan_int _ _).mono ?_; rintro e w' ⟨rfl, rfl⟩)
      go_ret
      exact ⟨rfl, rfl⟩
theorem or2_int (b : Nat) (x y : Int) (w : World) (h0 : w.cell? ⟨b, 0, none⟩ = some (.int .i64 x)) (h1 : w.cell? ⟨b, 1, none⟩ = some (.int .i64 y)) :
    Calls Try.prog 30 #[.slice (some ⟨b, 0, none⟩) 2 2] w fun e w' => e = .returned (.int .i64 (if x = 0 then y else x)) ∧ w' = w := by
  by_cases hx : x = 0
  · subst hx
    by_cases hy : y = 0
    · subst hy
      go_enter Try.func30, Try.ntmps30
      go_wp2_with fail
      refine wp_loop_rounds 3 ?_
      repeat any_goals (rw [rounds_succ]; go_wp2_with fail)
      go_ret
      exact ⟨rfl, rfl⟩
    · have hy2 : (y == 0) = false := by simpa using hy
      go_enter Try.func30, Try.ntmps30
      go_wp2_with fail
      refine wp_loop_rounds 3 ?_
      repeat any_goals (rw [rounds_succ]; go_wp2_with fail)
      go_ret
      exact ⟨rfl, rfl⟩
  · have hx2 : (x == 0) = false := by simpa using hx
    rw [if_neg hx]
    go_enter Try.func30, Try.ntmps30
    go_wp2_with fail
    refine wp_loop_rounds 3 ?_
    repeat any_goals (rw [rounds_succ]; go_wp2_with fail)
    go_ret
    exact ⟨rfl, rfl⟩
def cfO (x y : Fd) : Int := if compareInt x.2.1 y.2.1 = 0 then compareInt x.2.2 y.2.2 else compareInt x.2.1 y.2.1
theorem cfO_lt (x y : Fd) : cfO x y < 0 ↔ ltS x.2 y.2 = true := by
  rw [lt_iff]
  unfold cfO compareInt
  split <;> split <;> (try split) <;> (try split) <;> omega
theorem cells2c {w : World} {g : Nat} {a b : Value} {t : TypeId} (h : w.heap[g]? = some (.cells #[a, b] t (0, 0))) : w.cell? ⟨g, 0, none⟩ = some a ∧ w.cell? ⟨g, 1, none⟩ = some b := by
  simp [World.cell?, h]
theorem cells4f {w : World} {g : Nat} {a b c d : Value} {t : TypeId} (h : w.heap[g]? = some (.cells #[a, b, c, d] t (0, 0))) : w.cell? ⟨g, 2, none⟩ = some c ∧ w.cell? ⟨g, 3, none⟩ = some d := by
  simp [World.cell?, h]
def cfP (x y : P2) : Int := if compareInt x.1 y.1 = 0 then compareInt x.2 y.2 else compareInt x.1 y.1
theorem cfO_cfP (x y : Fd) : cfO x y = cfP x.2 y.2 := rfl
set_option maxRecDepth 100000 in
set_option maxHeartbeats 2000000 in
theorem order_any (x y : P2) (W : World) : Calls Try.prog 27 #[P2V x, P2V y] W fun e w' => e = .returned (.int .i64 (cfP x y)) ∧ ∃ q os', w' = grow (W.drewN q) os' := by
  obtain ⟨V, hV⟩ : ∃ V, (W.alloc (.cells #[.int .i64 x.1, .int .i64 x.2] 24)).alloc (.cells #[.int .i64 y.1, .int .i64 y.2] 24) = V := ⟨_, rfl⟩
  have HVg := Lib.hid hV
  have h1 : V.heap[W.heap.size]? = some (.cells #[.int .i64 x.1, .int .i64 x.2] 24 (0, 0)) := by rw [← hV]; exact (heap_alloc_old _ _ (by simp)).trans (heap_alloc_new W _)
  have h2 : V.heap[W.heap.size + 1]? = some (.cells #[.int .i64 y.1, .int .i64 y.2] 24 (0, 0)) := by rw [← hV]; have := heap_alloc_new (W.alloc (.cells #[.int .i64 x.1, .int .i64 x.2] 24)) (.cells #[.int .i64 y.1, .int .i64 y.2] 24); simpa using this
  obtain ⟨a0, a1⟩ := cells2c h1
  obtain ⟨b0, b1⟩ := cells2c h2
  have HC : Hid (cfP x y = if compareInt x.1 y.1 = 0 then compareInt x.2 y.2 else compareInt x.1 y.1) := Lib.hid rfl
  generalize cfP x y = r at HC ⊢
  generalize hc1 : compareInt x.1 y.1 = c1 at HC
  generalize hc2 : compareInt x.2 y.2 = c2 at HC
  have H1 := Lib.hid hc1
  have H2 := Lib.hid hc2
  have hl1 := lt_size h1
  have hl2 := lt_size h2
  have HA := Lib.hid (And.intro ((World.cell?_of_block (a := ⟨W.heap.size, 0, none⟩) (heap_alloc_old V (.cells #[.int .i64 c1, .int .i64 c2] 3) hl1)).trans a0) (And.intro ((World.cell?_of_block (a := ⟨W.heap.size, 1, none⟩) (heap_alloc_old V (.cells #[.int .i64 c1, .int .i64 c2] 3) hl1)).trans a1) (And.intro ((World.cell?_of_block (a := ⟨W.heap.size + 1, 0, none⟩) (heap_alloc_old V (.cells #[.int .i64 c1, .int .i64 c2] 3) hl2)).trans b0) ((World.cell?_of_block (a := ⟨W.heap.size + 1, 1, none⟩) (heap_alloc_old V (.cells #[.int .i64 c1, .int .i64 c2] 3) hl2)).trans b1))))
  have HN := Lib.hid (heap_alloc_new V (.cells #[.int .i64 c1, .int .i64 c2] 3))
  clear hc1 hc2 h1 h2 hl1 hl2
  go_enter Try.func27, Try.ntmps27
  go_upto_region 1 with fail
  go_region_held3 (fun w' => w'.cell? ⟨W.heap.size, 0, none⟩ = some (.int .i64 x.1) ∧ w'.cell? ⟨W.heap.size, 1, none⟩ = some (.int .i64 x.2) ∧ w'.cell? ⟨W.heap.size + 1, 0, none⟩ = some (.int .i64 y.1) ∧ w'.cell? ⟨W.heap.size + 1, 1, none⟩ = some (.int .i64 y.2))
    (first | exact ⟨a0, a1, b0, b1⟩ | exact HA.out)
    (first
      | (go_at_call 31; (with_reducible refine (compare_int x.1 y.1 _).mono ?_); rintro e w9 ⟨rfl, rfl⟩; rw [H1.out])
      | (go_at_call 31; (with_reducible refine (compare_int x.2 y.2 _).mono ?_); rintro e w9 ⟨rfl, rfl⟩; rw [H2.out])
      | (go_at_call 30; refine (or2_int _ c1 c2 _ (by exact (cells2c HN.out).1) (by exact (cells2c HN.out).2)).mono ?_; rintro e w9 ⟨rfl, rfl⟩; rw [← HC.out]))
  go_wp2_with fail
  go_ret
  refine ⟨rfl, 1, #[.cells #[.int .i64 x.1, .int .i64 x.2] 24] ++ #[.cells #[.int .i64 y.1, .int .i64 y.2] 24] ++ #[.cells #[.int .i64 c1, .int .i64 c2] 3], ?_⟩
  rw [← HVg.out, alloc_eq_grow, alloc_eq_grow, alloc_eq_grow, grow_grow, grow_grow]
  rfl
theorem clo_any (x y : Fd) (W : World) : Calls Try.prog 26 #[.agg (fenc x).toArray, .agg (fenc y).toArray] W fun e w' => e = .returned (.int .i64 (cfO x y)) ∧ ∃ q os', w' = grow (W.drewN q) os' := by
  obtain ⟨V, hV⟩ : ∃ V, (W.alloc (.cells (fenc x).toArray 34)).alloc (.cells (fenc y).toArray 34) = V := ⟨_, rfl⟩
  have HVg := Lib.hid hV
  have h1 : V.heap[W.heap.size]? = some (.cells (fenc x).toArray 34 (0, 0)) := by rw [← hV]; exact (heap_alloc_old _ _ (by simp)).trans (heap_alloc_new W _)
  have h2 : V.heap[W.heap.size + 1]? = some (.cells (fenc y).toArray 34 (0, 0)) := by rw [← hV]; have := heap_alloc_new (W.alloc (.cells (fenc x).toArray 34)) (.cells (fenc y).toArray 34); simpa using this
  obtain ⟨a0, a1⟩ := cells4f h1
  obtain ⟨b0, b1⟩ := cells4f h2
  clear h1 h2
  rw [cfO_cfP]
  go_enter Try.func26, Try.ntmps26
  go_wp2_with (go_at_call 27; refine (order_any x.2 y.2 _).mono ?_; rintro e w9 ⟨rfl, q, os', rfl⟩)
  go_ret
  refine ⟨rfl, q, #[.cells (fenc x).toArray 34] ++ #[.cells (fenc y).toArray 34] ++ os', ?_⟩
  rw [← HVg.out, alloc_eq_grow, alloc_eq_grow]
  show grow (grow (grow (W.drewN q) #[.cells (fenc x).toArray 34]) #[.cells (fenc y).toArray 34]) os' = _
  rw [grow_grow, grow_grow, Array.append_assoc]
theorem sort_none (fv : Value) (w : World) : Calls Try.prog 25 #[.slice none 0 0, fv] w fun e w' => e = .returned (.tuple #[]) ∧ w' = w := by
  have h := AnyF.slices_SortFunc_none Ytbebbnkolpgndaa.sortFd none 0 fv w
  exact h
theorem sorted_any {w : World} {base c : Nat} {A : Option Addr} {l : List Fd} (h : FOwn w base (.slice A l.length c) l) (hl : l.length ≤ 1000000) :
    Calls Try.prog 25 #[.slice A l.length c, .func (.func 26) #[] #[]] w fun e w' => e = .returned (.tuple #[]) ∧
      (∀ (n : Nat) (w0 : World), n ≤ base → Below n w0 w → Below n w0 w') ∧ ∃ l' : List Fd, l'.Perm l ∧ (∀ i j (hi : i < l'.length) (hj : j < l'.length), i < j → ltS l'[j].2 l'[i].2 = false) ∧ FLies w' A l' :=
  sort_any 26 cfO cfO_lt clo_any (enters_of Try.func26 (by kernel_rfl) rfl) sort_none h hl
end Go.Proofs.Ytbebbnkolpgndaa
