/- The landed package wear: Ends, Apart, Coldest, Hottest, Due. -/
import Derived.Test.YtjgpjmlnmjgdmaaWearLook2
import Derived.Test.YtjgpjmlnmjgdmaaWearBuck
namespace Go.Proofs.Ytjgpjmlnmjgdmaa
open Go.RowKit

/-- What the landed Buckets tells: a row, or none. -/
def BuckPostW (zs : List (Int × Bool)) (w : World) (e : Ending) (w' : World) : Prop :=
  ∃ A c, e = .returned (.slice A (bucketsP zs).length c) ∧ IA w' A (bucketsP zs) ∧ (∀ ad, A = some ad → w.heap.size ≤ ad.block) ∧ Below w.heap.size w w'
theorem roomy_some {ad : Addr} {c n : Nat} (h : n ≤ c) : Roomy (some ad) c n := ⟨h, fun e => by cases e⟩
theorem Roomy.le {A : Option Addr} {c n m : Nat} (h : Roomy A c n) (hm : m ≤ n) : Roomy A c m := ⟨Nat.le_trans hm h.1, h.2⟩
theorem rowL_of {W : World} {B : Nat} {v : Value} {l : List Int} (h : IOw W B v l) : RowL (Value.int .i64) W v l := by
  rcases h.2 with ⟨rfl, h0⟩ | ⟨g, cap, cur, rfl, hg⟩
  · exact .inl ⟨rfl, List.eq_nil_of_length_eq_zero h0⟩
  · refine .inr ⟨⟨g, 0, none⟩, cap, rfl, fun j hj => ?_⟩
    have := World.ownsRow.cellAt h j (by simpa using hj)
    rw [addr_at, Nat.zero_add, this]
    simp [hj]
theorem best_at {α : Type} {bt : α → α → Bool} (O : Ord bt) (zs : List α) : zs.reverse = [] ∨ ∃ a, BestAt bt zs.reverse a := by
  induction zs with
  | nil => exact .inl rfl
  | cons x r ih =>
    right
    rw [List.reverse_cons]
    rcases ih with h | ⟨a, h⟩
    · rw [h]; exact ⟨0, bestAt_first O x⟩
    · obtain ⟨ha, _⟩ := id h
      cases e : bt x r.reverse[a] with
      | true => exact ⟨_, bestAt_turn O ha h x e⟩
      | false => exact ⟨a, bestAt_keep ha h x e⟩
theorem best_is {α : Type} {bt : α → α → Bool} (O : Ord bt) (zs : List α) : ∃ r, Best bt zs r := by
  have := best_at O zs.reverse
  rw [List.reverse_reverse] at this
  rcases this with h | ⟨a, h⟩
  · exact ⟨-1, .inl ⟨h, rfl⟩⟩
  · exact ⟨a, best_of h⟩
theorem best_one {α : Type} {bt : α → α → Bool} {zs : List α} {r r' : Int} (h : Best bt zs r) (h' : Best bt zs r') : r = r' := by
  rcases h with ⟨h1, h2⟩ | ⟨a, ha, rfl, h1, h2⟩
  · rcases h' with ⟨_, h3⟩ | ⟨a', ha', _⟩
    · omega
    · subst h1; simp at ha'
  · rcases h' with ⟨h3, _⟩ | ⟨a', ha', rfl, h3, h4⟩
    · subst h3; simp at ha
    · rcases Nat.lt_trichotomy a a' with h | h | h
      · have i1 := h4 a h
        have i2 := h1 a' ha'
        rw [i1] at i2; cases i2
      · omega
      · have i1 := h2 a' h
        have i2 := h3 a ha
        rw [i1] at i2; cases i2
theorem low_is {v : Value} {l : List Int} {B : Nat} {r : Int} (hr : Best ltInt l r) (hl : l.length ≤ 1000000) (w : World) (h : IOw w B v l) : Calls Try.prog 24 #[v] w fun e w' => e = .returned (.int .i64 r) ∧ w = w' := by
  refine (low_int_any v l w (rowL_of h) (by omega)).mono ?_
  rintro e w' ⟨r', rfl, hr', rfl⟩
  exact ⟨ret_int (best_one hr' hr), rfl⟩
theorem high_is {v : Value} {l : List Int} {B : Nat} {r : Int} (hr : Best gtInt l r) (hl : l.length ≤ 1000000) (w : World) (h : IOw w B v l) : Calls Try.prog 25 #[v] w fun e w' => e = .returned (.int .i64 r) ∧ w = w' := by
  refine (high_int_any v l w (rowL_of h) (by omega)).mono ?_
  rintro e w' ⟨r', rfl, hr', rfl⟩
  exact ⟨ret_int (best_one hr' hr), rfl⟩
theorem low_q {v : Value} {l : List Int} {B : Nat} {r : Int} (hr : Best ltInt l r) (hl : l.length ≤ 1000000) (w : World) (h : IOw w B v l) (n : Nat) : Calls Try.prog 24 #[v] (w.drewN n) fun e w' => e = .returned (.int .i64 r) ∧ w' = w.drewN n :=
  (low_is hr hl (w.drewN n) (own_keep h fun _ _ _ _ _ _ => rfl)).mono fun _ _ h => ⟨h.1, h.2.symm⟩
theorem high_q {v : Value} {l : List Int} {B : Nat} {r : Int} (hr : Best gtInt l r) (hl : l.length ≤ 1000000) (w : World) (h : IOw w B v l) (n : Nat) : Calls Try.prog 25 #[v] (w.drewN n) fun e w' => e = .returned (.int .i64 r) ∧ w' = w.drewN n :=
  (high_is hr hl (w.drewN n) (own_keep h fun _ _ _ _ _ _ => rfl)).mono fun _ _ h => ⟨h.1, h.2.symm⟩
theorem pick_none (v : Value) (w : World) : Calls Try.prog 27 #[v, .int .i64 (-1)] w fun e w' => e = .returned (.int .i64 (-1)) ∧ w = w' := by
  go_enter Try.func27, Try.ntmps27
  go_wp2_with fail
  go_ret
  exact ⟨rfl, rfl⟩
theorem ow_cell {W : World} {B : Nat} {v : Value} {l : List Int} (h : IOw W B v l) {a : Nat} (ha : a < l.length) : ∃ g cap, v = .slice (some ⟨g, 0, none⟩) l.length cap ∧ W.cell? ⟨g, a, none⟩ = some (.int .i64 l[a]) := by
  rcases h.2 with ⟨_, h0⟩ | ⟨g, cap, cur, rfl, hg⟩
  · omega
  · refine ⟨g, cap, rfl, ?_⟩
    have := World.ownsRow.cellAt h a (by simpa using ha)
    rw [this]
    simp [ha]
theorem pick_at {v : Value} {l : List Int} {B : Nat} (a : Nat) (ha : a < l.length) (w : World) (h : IOw w B v l) : Calls Try.prog 27 #[v, .int .i64 (a : Int)] w fun e w' => e = .returned (.int .i64 l[a]) ∧ w = w' := by
  obtain ⟨g, cap, rfl, hc⟩ := ow_cell h ha
  generalize l[a] = y at hc ⊢
  clear h
  go_enter Try.func27, Try.ntmps27
  go_wp2_with fail
  go_ret
  exact ⟨rfl, rfl⟩
def farP (lo hi : Int) : Int := if hi - lo ≤ 9223372036854775807 then hi - lo else 9223372036854775807
theorem between_any (lo hi : Int) (w : World) (h1 : -9223372036854775808 ≤ lo) (h2 : hi ≤ 9223372036854775807) (h3 : lo ≤ hi) : Calls Try.prog 26 #[.int .i64 lo, .int .i64 hi] w fun e w' => e = .returned (.int .i64 (farP lo hi)) ∧ w = w' := by
  by_cases c1 : lo < 0
  · by_cases c2 : 9223372036854775807 + lo < hi
    · go_enter Try.func26, Try.ntmps26
      go_wp2_with fail
      go_ret
      exact ⟨ret_int (by unfold farP; rw [if_neg (by omega)]), rfl⟩
    · go_enter Try.func26, Try.ntmps26
      go_wp2_with fail
      go_ret
      exact ⟨ret_int (by unfold farP; rw [if_pos (by omega)]), rfl⟩
  · go_enter Try.func26, Try.ntmps26
    go_wp2_with fail
    go_ret
    exact ⟨ret_int (by unfold farP; rw [if_pos (by omega)]), rfl⟩
section
variable (A A' : Option Addr) (c c' : Nat) (l : List Int) (b : List Bool) (w : World) (hl : l.length ≤ 1000) (hb : b.length ≤ 1000) (hA : IA w A l) (hA' : BA w A' b) (hw : ∀ x ∈ l, (Lit.int .i64 x).wf = true) (hR : Roomy A' c' b.length)
include hl hb hA hA' hw hR
set_option maxRecDepth 100000 in
set_option maxHeartbeats 1000000 in
theorem ends_any : Calls Try.prog 9 #[.slice A l.length c, .slice A' b.length c'] w fun e w' => e = .returned (.tuple #[.int .i64 (loP (l.zip b)), .int .i64 (hiP (l.zip b))]) ∧ Below w.heap.size w w' := by
  have HLk := Lib.hid (look_any A A' c c' l b w (by omega) (by omega) hA hA' hR)
  have hle : (looksP (l.zip b)).length ≤ 1000 := by
    have := looks_le (l.zip b)
    simp at this; omega
  obtain ⟨r1, hr1⟩ := best_is ord_ltInt (looksP (l.zip b))
  obtain ⟨r2, hr2⟩ := best_is ord_gtInt (looksP (l.zip b))
  have HR1 := Lib.hid hr1
  have HR2 := Lib.hid hr2
  have hrng := ends_range l b hw
  clear hA hA' hw hR
  generalize l.zip b = zs at *
  rcases low_look hr1 with ⟨hn, _, e1, e2, _⟩ | ⟨a, ha, _, rfl, ea, _⟩
  · have hn0 : (looksP zs).length = 0 := by rw [hn]; rfl
    have E := Lib.hid (And.intro e1 e2)
    clear hr1 hr2 e1 e2 hn
    go_enter Try.func9, Try.ntmps9
    go_wp2_with (go_at_call 23; refine HLk.out.mono ?_; rintro e w1 ⟨v1, v2, rfl, h1, h2, hb1⟩; obtain ⟨p2, k2, rfl⟩ := ownsRow_slice h2; rw [hn0])
    go_ret2
    refine ⟨?_, hb1⟩
    rw [E.out.1, E.out.2]; rfl
  · rcases high_look hr2 with ⟨hn, _⟩ | ⟨a2, ha2, _, rfl, eb, _⟩
    · rw [hn] at ha; simp at ha
    · obtain ⟨n, hn⟩ : ∃ n, (looksP zs).length = n + 1 := ⟨(looksP zs).length - 1, by omega⟩
      have E := Lib.hid (And.intro ea eb)
      have HN := Lib.hid hn
      clear hr1 hr2 ea eb hn
      go_enter Try.func9, Try.ntmps9
      go_wp2_with (go_at_call 23; refine HLk.out.mono ?_; rintro e w1 ⟨v1, v2, rfl, h1, h2, hb1⟩; obtain ⟨g, cap, rfl, c1⟩ := ow_cell h2 ha; rw [E.out.1] at c1; obtain ⟨g2, cap2, hv2, c2⟩ := ow_cell h2 ha2; cases hv2; rw [E.out.2] at c2; have HLo := Lib.hid (low_q HR1.out (by omega) w1 h2); have HHi := Lib.hid (high_q HR2.out (by omega) w1 h2); clear h1 h2)
      go_quiet (first | (go_at_call 24; refine Calls.quiet_of_same (HLo.out _)) | (go_at_call 25; refine Calls.quiet_of_same (HHi.out _)))
      go_wp2_with fail
      go_ret2
      exact ⟨rfl, drewN_below hb1 _⟩
set_option maxRecDepth 100000 in
set_option maxHeartbeats 1000000 in
theorem apart_any : Calls Try.prog 11 #[.slice A l.length c, .slice A' b.length c'] w fun e w' => e = .returned (.int .i64 (apartP (l.zip b))) ∧ Below w.heap.size w w' := by
  have HE := Lib.hid (ends_any A A' c c' l b w hl hb hA hA' hw hR)
  have hrng := ends_range l b hw
  have hlo := lo_le_hi (l.zip b)
  have HB := Lib.hid (fun W => between_any (loP (l.zip b)) (hiP (l.zip b)) W hrng.1.1 hrng.2.2 hlo)
  have HP := Lib.hid (show farP (loP (l.zip b)) (hiP (l.zip b)) = apartP (l.zip b) from rfl)
  clear hA hA' hw hR hrng hlo
  go_enter Try.func11, Try.ntmps11
  go_wp2_with (first
    | (go_at_call 9; refine HE.out.mono ?_; rintro e w1 ⟨rfl, h1⟩)
    | (go_at_call 26; refine (HB.out _).mono ?_; rintro e w2 ⟨rfl, rfl⟩))
  go_ret
  exact ⟨ret_int HP.out, h1⟩
set_option maxRecDepth 100000 in
set_option maxHeartbeats 1000000 in
theorem cold_any : Calls Try.prog 13 #[.slice A l.length c, .slice A' b.length c'] w fun e w' => e = .returned (.int .i64 (coldP (l.zip b))) ∧ Below w.heap.size w w' := by
  have HLk := Lib.hid (look_any A A' c c' l b w (by omega) (by omega) hA hA' hR)
  have hle : (looksP (l.zip b)).length ≤ 1000 := by
    have := looks_le (l.zip b)
    simp at this; omega
  obtain ⟨r1, hr1⟩ := best_is ord_ltInt (looksP (l.zip b))
  have HR1 := Lib.hid hr1
  have _k := hw
  clear hA hA' hw hR _k
  generalize l.zip b = zs at *
  have hle6 : (looksP zs).length ≤ 1000000 := by omega
  rcases low_look hr1 with ⟨-, rfl, -, -, e3, -⟩ | ⟨a, -, hp, rfl, -, e3⟩
  · have E := Lib.hid e3
    clear hr1 e3
    go_enter Try.func13, Try.ntmps13
    go_wp2_with (first
      | (go_at_call 23; refine HLk.out.mono ?_; rintro e w1 ⟨v1, v2, rfl, h1, h2, hb1⟩; have H1 := Lib.hid h1; have H2 := Lib.hid h2; obtain ⟨p1, k1, rfl⟩ := ownsRow_slice h1; obtain ⟨p2, k2, rfl⟩ := ownsRow_slice h2; have HLo := Lib.hid (low_is HR1.out hle6 w1 h2); clear h1 h2)
      | (go_at_call 24; refine HLo.out.mono ?_; rintro e w2 ⟨rfl, rfl⟩)
      | (go_at_call 27; refine (pick_none _ _).mono ?_; rintro e w2 ⟨rfl, rfl⟩))
    go_ret
    exact ⟨ret_int E.out.symm, hb1⟩
  · have E := Lib.hid e3
    clear hr1 e3
    go_enter Try.func13, Try.ntmps13
    go_wp2_with (first
      | (go_at_call 23; refine HLk.out.mono ?_; rintro e w1 ⟨v1, v2, rfl, h1, h2, hb1⟩; have H1 := Lib.hid h1; have H2 := Lib.hid h2; obtain ⟨p1, k1, rfl⟩ := ownsRow_slice h1; obtain ⟨p2, k2, rfl⟩ := ownsRow_slice h2; have HLo := Lib.hid (low_is HR1.out hle6 w1 h2); clear h1 h2)
      | (go_at_call 24; refine HLo.out.mono ?_; rintro e w2 ⟨rfl, rfl⟩)
      | (go_at_call 27; refine (pick_at a hp _ H1.out).mono ?_; rintro e w2 ⟨rfl, rfl⟩))
    go_ret
    exact ⟨ret_int E.out, hb1⟩
set_option maxRecDepth 100000 in
set_option maxHeartbeats 1000000 in
theorem hot_any : Calls Try.prog 15 #[.slice A l.length c, .slice A' b.length c'] w fun e w' => e = .returned (.int .i64 (hotP (l.zip b))) ∧ Below w.heap.size w w' := by
  have HLk := Lib.hid (look_any A A' c c' l b w (by omega) (by omega) hA hA' hR)
  have hle : (looksP (l.zip b)).length ≤ 1000 := by
    have := looks_le (l.zip b)
    simp at this; omega
  obtain ⟨r1, hr1⟩ := best_is ord_gtInt (looksP (l.zip b))
  have HR1 := Lib.hid hr1
  have _k := hw
  clear hA hA' hw hR _k
  generalize l.zip b = zs at *
  have hle6 : (looksP zs).length ≤ 1000000 := by omega
  rcases high_look hr1 with ⟨-, rfl, -, -, -, e3⟩ | ⟨a, -, hp, rfl, -, e3⟩
  · have E := Lib.hid e3
    clear hr1 e3
    go_enter Try.func15, Try.ntmps15
    go_wp2_with (first
      | (go_at_call 23; refine HLk.out.mono ?_; rintro e w1 ⟨v1, v2, rfl, h1, h2, hb1⟩; have H1 := Lib.hid h1; have H2 := Lib.hid h2; obtain ⟨p1, k1, rfl⟩ := ownsRow_slice h1; obtain ⟨p2, k2, rfl⟩ := ownsRow_slice h2; have HLo := Lib.hid (high_is HR1.out hle6 w1 h2); clear h1 h2)
      | (go_at_call 25; refine HLo.out.mono ?_; rintro e w2 ⟨rfl, rfl⟩)
      | (go_at_call 27; refine (pick_none _ _).mono ?_; rintro e w2 ⟨rfl, rfl⟩))
    go_ret
    exact ⟨ret_int E.out.symm, hb1⟩
  · have E := Lib.hid e3
    clear hr1 e3
    go_enter Try.func15, Try.ntmps15
    go_wp2_with (first
      | (go_at_call 23; refine HLk.out.mono ?_; rintro e w1 ⟨v1, v2, rfl, h1, h2, hb1⟩; have H1 := Lib.hid h1; have H2 := Lib.hid h2; obtain ⟨p1, k1, rfl⟩ := ownsRow_slice h1; obtain ⟨p2, k2, rfl⟩ := ownsRow_slice h2; have HLo := Lib.hid (high_is HR1.out hle6 w1 h2); clear h1 h2)
      | (go_at_call 25; refine HLo.out.mono ?_; rintro e w2 ⟨rfl, rfl⟩)
      | (go_at_call 27; refine (pick_at a hp _ H1.out).mono ?_; rintro e w2 ⟨rfl, rfl⟩))
    go_ret
    exact ⟨ret_int E.out, hb1⟩
set_option maxRecDepth 100000 in
set_option maxHeartbeats 1000000 in
theorem due_any (most : Int) (_hm : (Lit.int .i64 most).wf = true) : Calls Try.prog 17 #[.slice A l.length c, .slice A' b.length c', .int .i64 most] w fun e w' => e = .returned (.int .i64 (dueP (l.zip b) most)) ∧ Below w.heap.size w w' := by
  have HE := Lib.hid (apart_any A A' c c' l b w hl hb hA hA' hw hR)
  have HC : Hid (∀ w1, Below w.heap.size w w1 → Calls Try.prog 13 #[.slice A l.length c, .slice A' b.length c'] w1 fun e w' => e = .returned (.int .i64 (coldP (l.zip b))) ∧ Below w1.heap.size w1 w') := Lib.hid fun w1 h1 => cold_any A A' c c' l b w1 hl hb (hA.below h1) (hA'.below h1) hw hR
  clear hA hA' hw hR
  by_cases hd : apartP (l.zip b) ≤ most
  · have HD := Lib.hid (show dueP (l.zip b) most = -1 from if_pos hd)
    generalize apartP (l.zip b) = ap at *
    go_enter Try.func17, Try.ntmps17
    go_wp2_with (go_at_call 11; refine HE.out.mono ?_; rintro e w1 ⟨rfl, h1⟩)
    go_ret
    exact ⟨ret_int HD.out.symm, h1⟩
  · have HD := Lib.hid (show dueP (l.zip b) most = coldP (l.zip b) from if_neg hd)
    generalize apartP (l.zip b) = ap at *
    go_enter Try.func17, Try.ntmps17
    go_wp2_with (first
      | (go_at_call 11; refine HE.out.mono ?_; rintro e w1 ⟨rfl, h1⟩)
      | (go_at_call 13; refine (HC.out w1 h1).mono ?_; rintro e w2 ⟨rfl, h2⟩))
    go_ret
    exact ⟨ret_int HD.out.symm, h1.trans (h2.mono h1.size)⟩
end
end Go.Proofs.Ytjgpjmlnmjgdmaa
