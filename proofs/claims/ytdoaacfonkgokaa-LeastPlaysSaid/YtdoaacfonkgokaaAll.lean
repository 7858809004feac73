/- rows of package least: what the tally has, each key once, in whatever order the map is gone through. -/
import Derived.Maps.AppendAt
import Derived.OwnWalk
import Derived.Sort.OwnSorted
import Derived.Test.YtdoaacfonkgokaaTally
namespace Go.Proofs.Ytdoaacfonkgokaa
open Go.RowKit Go.Maps

/-- l: the keys met so far: each once; those that are no longer to come. -/
def Coll {α : Type} (lit : α → Lit) (D : DataW Unit) (left : Lit → Bool) (l : List α) : Prop :=
  l.Nodup ∧ ∀ k, k ∈ l ↔ (Maps.has D (lit k) = true ∧ left (lit k) = false)
theorem coll_start {α : Type} (lit : α → Lit) (D : DataW Unit) : Coll lit D (Maps.has D) [] :=
  ⟨List.nodup_nil, fun k => by simp⟩
theorem coll_step {α : Type} {lit : α → Lit} (inj : ∀ a b, lit a = lit b → a = b) {D : DataW Unit} {left : Lit → Bool} {l : List α} (h : Coll lit D left l) {x : α} (hx : WideAt.IsKeyLit (lit x)) (hlk : left (lit x) = true) (hh : Maps.has D (lit x) = true) :
    Coll lit D (fun z => left z && !z.sameKey (lit x)) (l ++ [x]) := by
  have hn : x ∉ l := fun hm => by have := ((h.2 x).1 hm).2; rw [hlk] at this; cases this
  refine ⟨List.nodup_append.2 ⟨h.1, by simp, fun a ha b hb => ?_⟩, fun k => ?_⟩
  · obtain rfl : b = x := by simpa using hb
    exact fun e => hn (e ▸ ha)
  · by_cases e : k = x
    · subst e
      simp [hh, WideAt.sameKey_self hx]
    · have hs : (lit k).sameKey (lit x) = false := by
        cases hq : (lit k).sameKey (lit x) with
        | false => rfl
        | true => exact absurd (inj _ _ (WideAt.sameKey_eq hq)) e
      simp [h.2 k, e, hs]
theorem coll_end {α : Type} {lit : α → Lit} {D : DataW Unit} {left : Lit → Bool} {l : List α} {f : α → Int} (h : Coll lit D left l) (hl : ∀ kl, left kl = false) (hc : Cnt lit D f) : l.Nodup ∧ ∀ k, k ∈ l ↔ f k ≠ 0 :=
  ⟨h.1, fun k => by rw [h.2 k, hl, (hc k).2]; simp⟩
theorem two_new (w : World) (x y : Value) (t : TypeId) : ∀ j u, [x, y][j]? = some u → (w.alloc (.cells #[x, y] t)).cell? ((⟨w.heap.size, 0, none⟩ : Addr).add j) = some u := by
  intro j u h
  match j, h with
  | 0, h => simp at h; subst h; simp [Addr.add]
  | 1, h => simp at h; subst h; simp [Addr.add]
theorem row_ne {H : Type} {P : Program} {k : TypeId} {R : Value → Option (DataW H × List MemPlace)} {w : World} {b r n : Nat} {D : DataW H} {left : Lit → Bool} {cnt base : Nat} {e : TypeId} {size : Nat} {v : Value} {m : Nat} {xs : List Value}
    (h : w.ownsRow base e size v m xs) (hr : w.ranges P k R b r n D left cnt) : some r ≠ v.ownBlock := row_ne_iter h hr
/-- The rows of the keys l. -/
def flat {α : Type} (enc : α → Value) (f : α → Int) (l : List α) : List Value := l.flatMap fun k => [enc k, .int .i64 (f k)]
theorem flat_snoc {α : Type} (enc : α → Value) (f : α → Int) (l : List α) (x : α) : flat enc f (l ++ [x]) = flat enc f l ++ [enc x, .int .i64 (f x)] := by simp [flat]
theorem flat_at {α : Type} (enc : α → Value) (f : α → Int) (l : List α) (i : Nat) (h : i < l.length) : (flat enc f l)[i * 2]? = some (enc l[i]) ∧ (flat enc f l)[i * 2 + 1]? = some (.int .i64 (f l[i])) := by
  induction l generalizing i with
  | nil => simp at h
  | cons x l ih =>
    cases i with
    | zero => simp [flat]
    | succ i =>
      have := ih i (by simpa using h)
      have e : flat enc f (x :: l) = enc x :: .int .i64 (f x) :: flat enc f l := by simp [flat]
      rw [e, show (i + 1) * 2 = i * 2 + 2 by omega]
      simpa using this

theorem info_row_int : (Try.prog.info? 53).map (fun i => (i.zero, i.size, i.bytes)) = some (some (.agg #[.int .i64 0, .int .i64 0]), 2, 16) := by kernel_rfl

/-- What rows leaves: the keys l, each once, all that have a count, and the slice of their rows. -/
def RowsPost_int (f : Int → Int) (n : Nat) (w : World) (e : Ending) (w' : World) : Prop :=
  ∃ sv l, e = .returned sv ∧ l.Nodup ∧ (∀ k, k ∈ l ↔ f k ≠ 0) ∧ l.length ≤ n ∧ w'.ownsRow w.heap.size 53 2 sv l.length (flat (Value.int .i64) f l) ∧ Below w.heap.size w w'

set_option maxRecDepth 100000 in
theorem rows_nil_int (w : World) : Calls Try.prog 29 #[.pointer none] w (RowsPost_int (fun _ => 0) 0 w) := by
  go_enter Try.func29, Try.ntmps29
  go_wp2
  go_ret
  exact ⟨_, [], rfl, List.nodup_nil, by simp, Nat.le_refl _, World.ownsRow_nil _ _ _ _, Below.refl _ _⟩

set_option maxRecDepth 100000 in
set_option maxHeartbeats 1000000 in
theorem rows_int (p : Nat) (ob : Option Nat) (n : Nat) (f : Int → Int) (w : World) (h : Tally_int w p ob n f) (hn : n ≤ 1000000) :
    Calls Try.prog 29 #[.pointer (some ⟨p, 0, none⟩)] w (RowsPost_int f n w) := by
  obtain ⟨c0, c1, c2, f0⟩ := cell3 h.1
  obtain ⟨i0, hi, hz0, hz1, hz2⟩ := info_parts info_row_int
  rcases h.2.2 with ⟨rfl, hz⟩ | ⟨b, D, rfl, hown, hc⟩
  · have Hz := Lib.hid hz
    clear hz
    have hrg := run_range_nilMap (P := Try.prog) w 26 3 3 Try.underlying26
    have hnx : ∀ ty, (Instr.next (.pointer (some ⟨w.heap.size, 0, none⟩)) false ty).run Try.prog (w.alloc (.mapIter none 0 #[] 0)) = _ := fun ty => run_next_nilMap _ ty 0 0 #[]
    go_enter Try.func29, Try.ntmps29
    go_wp2
    refine wp_loop_rounds 1 ?_
    rw [rounds_succ]
    go_wp2
    go_ret
    exact ⟨_, [], rfl, List.nodup_nil, fun k => by simp [Hz.out k], Nat.zero_le _, World.ownsRow_nil _ _ _ _, (Below.refl _ _).alloc (Nat.le_refl _) _⟩
  · have Hc := Lib.hid hc
    have hsz := Lib.hid hown.size_le
    have hbl := hown.lt
    clear hc
    go_enter Try.func29, Try.ntmps29
    go_wp2_with (at_range; refine wpList_range_own _ rfl _ 26 rfl 3 3 law_int Try.underlying26 _ b n D rfl hown ?_; intro w0 hrg0 hg0 hs0)
    go_frame
    go_loopw [3] (fun v wr => ∃ (left : Lit → Bool) (cnt : Nat) (l : List (Int)), wr.ranges Try.prog 3 (plainElem Try.prog 3) b w.heap.size n D left cnt ∧ l.length + cnt ≤ n ∧
        wr.ownsRow w.heap.size 53 2 v l.length (flat (Value.int .i64) f l) ∧ Coll (Lit.int .i64) D left l ∧ Below w.heap.size w wr)
      (fun _ wr => wr.rangeLeft b w.heap.size)
    case atStart =>
      exact ⟨_, _, [], hrg0, by simpa using hsz.out, World.ownsRow_nil _ _ _ _, coll_start _ _, (Below.refl _ _).grown hg0 (Nat.le_refl _) (fun j hj => by cases hj)⟩
    case round =>
      obtain ⟨left, cnt, l, hrg, hcs, hrow, hC, hnx⟩ := hrel
      go_wp2_with (at_next; refine wpList_next_ranges _ rfl _ rfl 3 law_int (plainElem Try.prog 3) (Value.int .i64) (Value.int .i64) (fun key kl hk => by obtain ⟨x, hx, _⟩ := Maps.keyOf_int_inv Try.underlying3 hk; exact ⟨x, hx⟩) (fun v y hv => by obtain ⟨c, rfl, _⟩ := plainElem_int_inv Try.underlying3 hv; exact ⟨c, rfl⟩) b w.heap.size n _ _ _ rfl hrg ?_ ?_)
      · intro _ hl0
        go_wp2
        go_ret
        obtain ⟨h1, h2⟩ := coll_end hC hl0 Hc.out
        exact ⟨_, l, rfl, h1, h2, by omega, hrow, hnx⟩
      · intro x c kl yd yp w2 cnt2 hkey hlk hv hat hrg2 hlt hg2 hs2 hen
        obtain ⟨x', ex, rfl, _⟩ := Maps.keyOf_int_inv Try.underlying3 hkey
        obtain rfl : x = x' := by simpa using ex
        obtain ⟨c', ec, hyd, _⟩ := plainElem_int_inv Try.underlying3 hv
        obtain rfl : c = c' := by simpa using ec
        obtain rfl : c = f x := by
          have h1 := hat (.lit (.int .i64 0))
          rw [(Hc.out x).1] at h1
          have h2 := congrArg Prod.fst hyd
          simp only at h2
          rw [h2] at h1
          simpa using h1.symm
        have hC2 := coll_step inj_int hC (law_int.key hkey) hlk (has_true_of_atKey hat)
        have hrow2 := hrow.kept hg2 (Or.inr (row_ne hrow hrg).symm)
        have hsz2 := Lib.hid hs2
        clear hs2 hv hat hyd ec ex
        go_wp2_with (at_builtin; refine wpList_append_own _ rfl _ _ 59 rfl w.heap.size 53 i0 _ 2 16 Try.underlying59 hi hz0 hz1 hz2 rfl (by decide) _ _ _ rfl (hrow2.alloc _) ⟨w2.heap.size, 0, none⟩ 1 1 [.int .i64 x, .int .i64 (f x)] rfl rfl (two_new _ _ _ _) (by simp [Value.oneCell']) (by unfold maxLen; omega) (by omega) (by have := hnx.size; have := hg2.size; simp; omega) ?_; intro v' w3 hown' hg3 _; go_frame)
        have hrg3 := (hrg2.alloc _).kept hg3 (row_ne_low hrow2 hbl) (row_ne hrow2 hrg2)
        go_roundw
        case rel =>
          refine ⟨_, cnt2, l ++ [x], hrg3, by simp; omega, by rw [flat_snoc]; simpa using hown', hC2, ?_⟩
          exact ((hnx.grown hg2 hnx.size (fun j hj => by cases hj; exact Nat.le_refl _)).alloc (by have := hnx.size; have := hg2.size; omega) _).grown hg3 (by have := hnx.size; have := hg2.size; simp; omega) (fun j hj => (hrow2.lt j hj).1)
        case measure => rw [hrg3.left_eq, hrg.left_eq]; exact hlt

theorem info_row_string : (Try.prog.info? 65).map (fun i => (i.zero, i.size, i.bytes)) = some (some (.agg #[.string ⟨#[]⟩, .int .i64 0]), 2, 24) := by kernel_rfl

/-- What rows leaves: the keys l, each once, all that have a count, and the slice of their rows. -/
def RowsPost_string (f : List UInt8 → Int) (n : Nat) (w : World) (e : Ending) (w' : World) : Prop :=
  ∃ sv l, e = .returned sv ∧ l.Nodup ∧ (∀ k, k ∈ l ↔ f k ≠ 0) ∧ l.length ≤ n ∧ w'.ownsRow w.heap.size 65 2 sv l.length (flat encStr f l) ∧ Below w.heap.size w w'

set_option maxRecDepth 100000 in
theorem rows_nil_string (w : World) : Calls Try.prog 37 #[.pointer none] w (RowsPost_string (fun _ => 0) 0 w) := by
  go_enter Try.func37, Try.ntmps37
  go_wp2
  go_ret
  exact ⟨_, [], rfl, List.nodup_nil, by simp, Nat.le_refl _, World.ownsRow_nil _ _ _ _, Below.refl _ _⟩

set_option maxRecDepth 100000 in
set_option maxHeartbeats 1000000 in
theorem rows_string (p : Nat) (ob : Option Nat) (n : Nat) (f : List UInt8 → Int) (w : World) (h : Tally_string w p ob n f) (hn : n ≤ 1000000) :
    Calls Try.prog 37 #[.pointer (some ⟨p, 0, none⟩)] w (RowsPost_string f n w) := by
  obtain ⟨c0, c1, c2, f0⟩ := cell3 h.1
  obtain ⟨i0, hi, hz0, hz1, hz2⟩ := info_parts info_row_string
  rcases h.2.2 with ⟨rfl, hz⟩ | ⟨b, D, rfl, hown, hc⟩
  · have Hz := Lib.hid hz
    clear hz
    have hrg := run_range_nilMap (P := Try.prog) w 63 9 3 Try.underlying63
    have hnx : ∀ ty, (Instr.next (.pointer (some ⟨w.heap.size, 0, none⟩)) false ty).run Try.prog (w.alloc (.mapIter none 0 #[] 0)) = _ := fun ty => run_next_nilMap _ ty 0 0 #[]
    go_enter Try.func37, Try.ntmps37
    go_wp2
    refine wp_loop_rounds 1 ?_
    rw [rounds_succ]
    go_wp2
    go_ret
    exact ⟨_, [], rfl, List.nodup_nil, fun k => by simp [Hz.out k], Nat.zero_le _, World.ownsRow_nil _ _ _ _, (Below.refl _ _).alloc (Nat.le_refl _) _⟩
  · have Hc := Lib.hid hc
    have hsz := Lib.hid hown.size_le
    have hbl := hown.lt
    clear hc
    go_enter Try.func37, Try.ntmps37
    go_wp2_with (at_range; refine wpList_range_own _ rfl _ 63 rfl 9 3 law_str Try.underlying63 _ b n D rfl hown ?_; intro w0 hrg0 hg0 hs0)
    go_frame
    go_loopw [3] (fun v wr => ∃ (left : Lit → Bool) (cnt : Nat) (l : List (List UInt8)), wr.ranges Try.prog 9 (plainElem Try.prog 3) b w.heap.size n D left cnt ∧ l.length + cnt ≤ n ∧
        wr.ownsRow w.heap.size 65 2 v l.length (flat encStr f l) ∧ Coll Lit.string D left l ∧ Below w.heap.size w wr)
      (fun _ wr => wr.rangeLeft b w.heap.size)
    case atStart =>
      exact ⟨_, _, [], hrg0, by simpa using hsz.out, World.ownsRow_nil _ _ _ _, coll_start _ _, (Below.refl _ _).grown hg0 (Nat.le_refl _) (fun j hj => by cases hj)⟩
    case round =>
      obtain ⟨left, cnt, l, hrg, hcs, hrow, hC, hnx⟩ := hrel
      go_wp2_with (at_next; refine wpList_next_ranges _ rfl _ rfl 9 law_str (plainElem Try.prog 3) encStr (Value.int .i64) (fun key kl hk => by obtain ⟨x, hx, _⟩ := Maps.keyOf_str Try.underlying9 hk; exact ⟨x, hx⟩) (fun v y hv => by obtain ⟨c, rfl, _⟩ := plainElem_int_inv Try.underlying3 hv; exact ⟨c, rfl⟩) b w.heap.size n _ _ _ rfl hrg ?_ ?_)
      · intro _ hl0
        go_wp2
        go_ret
        obtain ⟨h1, h2⟩ := coll_end hC hl0 Hc.out
        exact ⟨_, l, rfl, h1, h2, by omega, hrow, hnx⟩
      · intro x c kl yd yp w2 cnt2 hkey hlk hv hat hrg2 hlt hg2 hs2 hen
        obtain ⟨x', ex, rfl, _⟩ := Maps.keyOf_str Try.underlying9 hkey
        obtain rfl : x = x' := by simpa using ex
        obtain ⟨c', ec, hyd, _⟩ := plainElem_int_inv Try.underlying3 hv
        obtain rfl : c = c' := by simpa using ec
        obtain rfl : c = f x := by
          have h1 := hat (.lit (.int .i64 0))
          rw [(Hc.out x).1] at h1
          have h2 := congrArg Prod.fst hyd
          simp only at h2
          rw [h2] at h1
          simpa using h1.symm
        have hC2 := coll_step inj_str hC (law_str.key hkey) hlk (has_true_of_atKey hat)
        have hrow2 := hrow.kept hg2 (Or.inr (row_ne hrow hrg).symm)
        have hsz2 := Lib.hid hs2
        clear hs2 hv hat hyd ec ex
        go_wp2_with (at_builtin; refine wpList_append_own _ rfl _ _ 70 rfl w.heap.size 65 i0 _ 2 24 Try.underlying70 hi hz0 hz1 hz2 rfl (by decide) _ _ _ rfl (hrow2.alloc _) ⟨w2.heap.size, 0, none⟩ 1 1 [encStr x, .int .i64 (f x)] rfl rfl (two_new _ _ _ _) (by simp [Value.oneCell', encStr]) (by unfold maxLen; omega) (by omega) (by have := hnx.size; have := hg2.size; simp; omega) ?_; intro v' w3 hown' hg3 _; go_frame)
        have hrg3 := (hrg2.alloc _).kept hg3 (row_ne_low hrow2 hbl) (row_ne hrow2 hrg2)
        go_roundw
        case rel =>
          refine ⟨_, cnt2, l ++ [x], hrg3, by simp; omega, by rw [flat_snoc]; simpa using hown', hC2, ?_⟩
          exact ((hnx.grown hg2 hnx.size (fun j hj => by cases hj; exact Nat.le_refl _)).alloc (by have := hnx.size; have := hg2.size; omega) _).grown hg3 (by have := hnx.size; have := hg2.size; simp; omega) (fun j hj => (hrow2.lt j hj).1)
        case measure => rw [hrg3.left_eq, hrg.left_eq]; exact hlt
end Go.Proofs.Ytdoaacfonkgokaa
