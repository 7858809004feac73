/- Package least at int: Low and High, the tally's New, Of, Add: their contracts; no conditions but the ranges of int. -/
import Derived.WalkKit
import Derived.WalkSpells
import Derived.WalkLawsBesides
import Derived.IntWalk
import Derived.Lib.Hide
import Derived.Outline
import Derived.Deep.QuietTactic
import Derived.BigQuiet
import Derived.Maps.OwnSet
import Derived.Maps.RangeWalk
import Derived.Sort.KeysCollected
import Derived.Carry
import Derived.Test.YtjgpjmlnmjgdmaaProg
import Derived.Test.YtjgpjmlnmjgdmaaWearRef
namespace Go.Proofs.Ytjgpjmlnmjgdmaa
open Go.RowKit Go.Maps
theorem isNaN_int (x : Int) (w : World) : Calls Try.prog 39 #[.int .i64 x] w fun e w' => e = .returned (.bool false) ∧ w = w' := by
  go_enter Try.func39, Try.ntmps39
  go_wp2
  go_ret
  exact ⟨rfl, rfl⟩
theorem odd_int (x : Int) (w : World) : Calls Try.prog 36 #[.int .i64 x] w fun e w' => e = .returned (.bool false) ∧ w = w' := by
  go_enter Try.func36, Try.ntmps36
  go_wp2
  go_ret
  exact ⟨rfl, rfl⟩
/-- What a count is, with more added. -/
def heldN (n more : Int) : Int := if more > 1099511627776 - n then 1099511627776 else if more < -n then 0 else n + more
theorem heldN_range (n more : Int) : 0 ≤ heldN n more ∧ heldN n more ≤ 1099511627776 := by unfold heldN; repeat' split; all_goals omega
theorem held_any (n more : Int) (w : World) (h0 : 0 ≤ n) (h1 : n ≤ 1099511627776) :
    Calls Try.prog 34 #[.int .i64 n, .int .i64 more] w fun e w' => e = .returned (.int .i64 (heldN n more)) ∧ w = w' := by
  by_cases c1 : 1099511627776 - n < more
  · go_enter Try.func34, Try.ntmps34
    go_wp2
    go_ret
    exact ⟨ret_int (by unfold heldN; rw [if_pos (by omega)]), rfl⟩
  · by_cases c2 : more < -n
    · go_enter Try.func34, Try.ntmps34
      go_wp2
      go_ret
      exact ⟨ret_int (by unfold heldN; rw [if_neg (by omega), if_pos (by omega)]), rfl⟩
    · go_enter Try.func34, Try.ntmps34
      go_wp2
      go_ret
      exact ⟨ret_int (by unfold heldN; rw [if_neg (by omega), if_neg (by omega)]), rfl⟩
theorem less_int (x y : Int) (w : World) : Calls Try.prog 33 #[.int .i64 x, .int .i64 y] w fun e w' => e = .returned (.bool (decide (x < y))) ∧ w = w' := by
  go_enter Try.func33, Try.ntmps33
  go_wp2_with (first | (go_at_call 39; refine (isNaN_int _ _).mono ?_; rintro e w' ⟨rfl, rfl⟩) | fail)
  go_ret
  exact ⟨rfl, rfl⟩
/-- The slice value sv reads as the list zs. -/
def RowL {α : Type} (enc : α → Value) (w : World) (sv : Value) (zs : List α) : Prop :=
  (sv = .slice none 0 0 ∧ zs = []) ∨ ∃ ad cap, sv = .slice (some ad) zs.length cap ∧ ∀ j (h : j < zs.length), w.cell? (ad.add j) = some (enc zs[j])
/-- r is the place of the first of the best. -/
def Best {α : Type} (bt : α → α → Bool) (zs : List α) (r : Int) : Prop :=
  (zs = [] ∧ r = -1) ∨ ∃ a, ∃ h : a < zs.length, r = (a : Int) ∧ (∀ i (hi : i < zs.length), bt zs[i] zs[a] = false) ∧ ∀ i (hi : i < a), bt zs[a] zs[i] = true
structure Ord {α : Type} (bt : α → α → Bool) : Prop where
  irr : ∀ x, bt x x = false
  tr : ∀ x c i, bt x c = true → bt i c = false → bt x i = true
  asym : ∀ x i, bt x i = true → bt i x = false
theorem best_start {α : Type} (bt : α → α → Bool) : Best bt [] (-1) := .inl ⟨rfl, rfl⟩
theorem best_first {α : Type} {bt : α → α → Bool} (O : Ord bt) (x : α) : Best bt [x] 0 :=
  .inr ⟨0, by simp, rfl, fun i hi => by obtain rfl : i = 0 := by simpa using hi
                                        exact O.irr _, fun i hi => by omega⟩
/-- The best of all but the last one's place, known to be there. -/
def BestAt {α : Type} (bt : α → α → Bool) (zs : List α) (a : Nat) : Prop :=
  ∃ h : a < zs.length, (∀ i (hi : i < zs.length), bt zs[i] zs[a] = false) ∧ ∀ i (hi : i < a), bt zs[a] zs[i] = true
theorem bestAt_first {α : Type} {bt : α → α → Bool} (O : Ord bt) (x : α) : BestAt bt [x] 0 :=
  ⟨by simp, fun i hi => by obtain rfl : i = 0 := by simpa using hi
                           exact O.irr _, fun i hi => by omega⟩
theorem bestAt_turn {α : Type} {bt : α → α → Bool} (O : Ord bt) {zs : List α} {a : Nat} (ha : a < zs.length) (h : BestAt bt zs a) (x : α) (hx : bt x zs[a] = true) : BestAt bt (zs ++ [x]) zs.length := by
  obtain ⟨_, h1, h2⟩ := h
  have key : ∀ i (hi : i < zs.length), bt x zs[i] = true := fun i hi => O.tr _ _ _ hx (h1 i hi)
  refine ⟨by simp, fun i hi => ?_, fun i hi => ?_⟩
  · by_cases e : i < zs.length
    · rw [List.getElem_append_left e]
      simpa using O.asym _ _ (key i e)
    · obtain rfl : i = zs.length := by simp at hi; omega
      exact O.irr _
  · rw [List.getElem_append_left hi]
    simpa using key i hi
theorem bestAt_keep {α : Type} {bt : α → α → Bool} {zs : List α} {a : Nat} (ha : a < zs.length) (h : BestAt bt zs a) (x : α) (hx : bt x zs[a] = false) : BestAt bt (zs ++ [x]) a := by
  obtain ⟨_, h1, h2⟩ := h
  refine ⟨by simp; omega, fun i hi => ?_, fun i hi => ?_⟩
  · rw [List.getElem_append_left ha]
    by_cases e : i < zs.length
    · rw [List.getElem_append_left e]; exact h1 i e
    · obtain rfl : i = zs.length := by simp at hi; omega
      simpa using hx
  · rw [List.getElem_append_left ha, List.getElem_append_left (by omega)]; exact h2 i hi
theorem best_of {α : Type} {bt : α → α → Bool} {zs : List α} {a : Nat} (h : BestAt bt zs a) : Best bt zs a := by
  obtain ⟨h, h1, h2⟩ := h
  exact .inr ⟨a, h, rfl, h1, h2⟩
theorem take_more {α : Type} (zs : List α) (k : Nat) (h : k < zs.length) : zs.take (k + 1) = zs.take k ++ [zs[k]] := by
  rw [List.take_succ_eq_append_getElem h]
def ltInt (x y : Int) : Bool := decide (x < y)
def gtInt (x y : Int) : Bool := decide (y < x)
theorem ord_ltInt : Ord ltInt := ⟨fun x => by simp [ltInt], fun x c i => by simp [ltInt]; omega, fun x i => by simp [ltInt]; omega⟩
theorem ord_gtInt : Ord gtInt := ⟨fun x => by simp [gtInt], fun x c i => by simp [gtInt]; omega, fun x i => by simp [gtInt]; omega⟩
def BestPost {α : Type} (bt : α → α → Bool) (zs : List α) (w : World) (e : Ending) (w' : World) : Prop := ∃ r, e = .returned (.int .i64 r) ∧ Best bt zs r ∧ w = w'
set_option maxHeartbeats 1000000 in
theorem low_int_any (sv : Value) (zs : List Int) (w : World) (h : RowL (Value.int .i64) w sv zs) (hl : zs.length ≤ 9223372036854775807) :
    Calls Try.prog 24 #[sv] w (BestPost ltInt zs w) := by
  rcases h with ⟨rfl, rfl⟩ | ⟨ad, cap, rfl, hc⟩
  · go_enter Try.func24, Try.ntmps24
    go_wp2
    refine wp_loop_rounds 1 ?_
    rw [rounds_succ]
    go_wp2
    go_ret
    exact ⟨-1, rfl, best_start _, rfl⟩
  · go_enter Try.func24, Try.ntmps24
    go_wp2
    go_loop [3, 8] (fun t i => ∃ k : Nat, k ≤ zs.length ∧ i = .int .i64 k ∧ ((k = 0 ∧ t = .int .i64 (-1)) ∨ ∃ a : Nat, a < k ∧ t = .int .i64 a ∧ BestAt ltInt (zs.take k) a)) (fun _ i => zs.length - (intOf i).toNat)
    case atStart => exact ⟨0, Nat.zero_le _, rfl, .inl ⟨rfl, rfl⟩⟩
    case round =>
      obtain ⟨k, hk, rfl, hrel⟩ := hrel
      by_cases hlt : k < zs.length
      · have hcell := hc k hlt
        have ht := Lib.hid (take_more zs k hlt)
        have htl := Lib.hid (show (zs.take k).length = k by simp; omega)
        rcases hrel with ⟨hk0, rfl⟩ | ⟨a, ha, rfl, hb⟩
        · obtain rfl := hk0
          have hcell0 : w.cell? ad = some ((Value.int .i64) zs[0]) := by simpa [Addr.add] using hc 0 hlt
          clear hk hcell
          go_wp2
          go_round
          case rel => exact ⟨1, by omega, rfl, .inr ⟨0, by omega, rfl, by rw [ht.out]; exact bestAt_first ord_ltInt _⟩⟩
          case measure => simp [intOf]; omega
        · have hcell2 := hc a (by omega)
          have h0 : decide ((a : Int) < 0) = false := by simp
          have hal : a < (zs.take k).length := by rw [htl.out]; exact ha
          have hga : zs[a] = (zs.take k)[a] := by simp
          have Hga := Lib.hid hga
          clear hga
          cases hbt : ltInt zs[k] zs[a] with
          | true =>
            have Hbt := Lib.hid hbt
            clear hbt
            go_wp2_with (first | (go_at_call 33; refine (less_int _ _ _).mono ?_; rintro e w' ⟨rfl, rfl⟩; have hd : decide (zs[k] < zs[a]) = true := Hbt.out) | fail)
            go_round
            case rel => exact ⟨k + 1, by omega, by go_num, .inr ⟨k, by omega, rfl, by
              have := bestAt_turn ord_ltInt hal hb zs[k] (by rw [← Hga.out]; exact Hbt.out)
              rw [ht.out]; rw [htl.out] at this; exact this⟩⟩
            case measure => simp [intOf]; omega
          | false =>
            have Hbt := Lib.hid hbt
            clear hbt
            go_wp2_with (first | (go_at_call 33; refine (less_int _ _ _).mono ?_; rintro e w' ⟨rfl, rfl⟩; have hd : decide (zs[k] < zs[a]) = false := Hbt.out) | fail)
            go_round
            case rel => exact ⟨k + 1, by omega, by go_num, .inr ⟨a, by omega, rfl, by
              rw [ht.out]; exact bestAt_keep hal hb zs[k] (by rw [← Hga.out]; exact Hbt.out)⟩⟩
            case measure => simp [intOf]; omega
      · have hz := Lib.hid (show zs.take k = zs by rw [List.take_of_length_le (by omega)])
        rcases hrel with ⟨hk0, rfl⟩ | ⟨a, ha, rfl, hb⟩
        · have hnil := Lib.hid (show zs = [] from List.eq_nil_of_length_eq_zero (by omega))
          clear hk0
          go_wp2
          go_ret
          exact ⟨-1, rfl, by rw [hnil.out]; exact best_start _, rfl⟩
        · go_wp2
          go_ret
          exact ⟨a, rfl, best_of (by rw [← hz.out]; exact hb), rfl⟩
set_option maxHeartbeats 1000000 in
theorem high_int_any (sv : Value) (zs : List Int) (w : World) (h : RowL (Value.int .i64) w sv zs) (hl : zs.length ≤ 9223372036854775807) :
    Calls Try.prog 25 #[sv] w (BestPost gtInt zs w) := by
  rcases h with ⟨rfl, rfl⟩ | ⟨ad, cap, rfl, hc⟩
  · go_enter Try.func25, Try.ntmps25
    go_wp2
    refine wp_loop_rounds 1 ?_
    rw [rounds_succ]
    go_wp2
    go_ret
    exact ⟨-1, rfl, best_start _, rfl⟩
  · go_enter Try.func25, Try.ntmps25
    go_wp2
    go_loop [3, 8] (fun t i => ∃ k : Nat, k ≤ zs.length ∧ i = .int .i64 k ∧ ((k = 0 ∧ t = .int .i64 (-1)) ∨ ∃ a : Nat, a < k ∧ t = .int .i64 a ∧ BestAt gtInt (zs.take k) a)) (fun _ i => zs.length - (intOf i).toNat)
    case atStart => exact ⟨0, Nat.zero_le _, rfl, .inl ⟨rfl, rfl⟩⟩
    case round =>
      obtain ⟨k, hk, rfl, hrel⟩ := hrel
      by_cases hlt : k < zs.length
      · have hcell := hc k hlt
        have ht := Lib.hid (take_more zs k hlt)
        have htl := Lib.hid (show (zs.take k).length = k by simp; omega)
        rcases hrel with ⟨hk0, rfl⟩ | ⟨a, ha, rfl, hb⟩
        · obtain rfl := hk0
          have hcell0 : w.cell? ad = some ((Value.int .i64) zs[0]) := by simpa [Addr.add] using hc 0 hlt
          clear hk hcell
          go_wp2
          go_round
          case rel => exact ⟨1, by omega, rfl, .inr ⟨0, by omega, rfl, by rw [ht.out]; exact bestAt_first ord_gtInt _⟩⟩
          case measure => simp [intOf]; omega
        · have hcell2 := hc a (by omega)
          have h0 : decide ((a : Int) < 0) = false := by simp
          have hal : a < (zs.take k).length := by rw [htl.out]; exact ha
          have hga : zs[a] = (zs.take k)[a] := by simp
          have Hga := Lib.hid hga
          clear hga
          cases hbt : gtInt zs[k] zs[a] with
          | true =>
            have Hbt := Lib.hid hbt
            clear hbt
            go_wp2_with (first | (go_at_call 33; refine (less_int _ _ _).mono ?_; rintro e w' ⟨rfl, rfl⟩; have hd : decide (zs[a] < zs[k]) = true := Hbt.out) | fail)
            go_round
            case rel => exact ⟨k + 1, by omega, by go_num, .inr ⟨k, by omega, rfl, by
              have := bestAt_turn ord_gtInt hal hb zs[k] (by rw [← Hga.out]; exact Hbt.out)
              rw [ht.out]; rw [htl.out] at this; exact this⟩⟩
            case measure => simp [intOf]; omega
          | false =>
            have Hbt := Lib.hid hbt
            clear hbt
            go_wp2_with (first | (go_at_call 33; refine (less_int _ _ _).mono ?_; rintro e w' ⟨rfl, rfl⟩; have hd : decide (zs[a] < zs[k]) = false := Hbt.out) | fail)
            go_round
            case rel => exact ⟨k + 1, by omega, by go_num, .inr ⟨a, by omega, rfl, by
              rw [ht.out]; exact bestAt_keep hal hb zs[k] (by rw [← Hga.out]; exact Hbt.out)⟩⟩
            case measure => simp [intOf]; omega
      · have hz := Lib.hid (show zs.take k = zs by rw [List.take_of_length_le (by omega)])
        rcases hrel with ⟨hk0, rfl⟩ | ⟨a, ha, rfl, hb⟩
        · have hnil := Lib.hid (show zs = [] from List.eq_nil_of_length_eq_zero (by omega))
          clear hk0
          go_wp2
          go_ret
          exact ⟨-1, rfl, by rw [hnil.out]; exact best_start _, rfl⟩
        · go_wp2
          go_ret
          exact ⟨a, rfl, best_of (by rw [← hz.out]; exact hb), rfl⟩
def upd {α : Type} [DecidableEq α] (f : α → Int) (k : α) (v : Int) : α → Int := fun j => if j = k then v else f j
theorem upd_same {α : Type} [DecidableEq α] (f : α → Int) (k : α) (v : Int) : upd f k v k = v := by simp [upd]
theorem upd_other {α : Type} [DecidableEq α] (f : α → Int) {k j : α} (h : j ≠ k) (v : Int) : upd f k v j = f j := by simp [upd, h]
/-- The map that reads as D has the counts f: none that is 0. -/
def Cnt {α : Type} (lit : α → Lit) (D : DataW Unit) (f : α → Int) : Prop :=
  ∀ k, D.atKey (lit k) (.lit (.int .i64 0)) = .lit (.int .i64 (f k)) ∧ (Maps.has D (lit k) = true ↔ f k ≠ 0)
theorem cnt_empty {α : Type} (lit : α → Lit) : Cnt lit (.map []) (fun _ => 0) := fun k =>
  ⟨Maps.atKey_of_not_has rfl _, by simp [Maps.has]⟩
theorem cnt_put {α : Type} [DecidableEq α] {lit : α → Lit} (inj : ∀ a b, lit a = lit b → a = b) {D : DataW Unit} {f : α → Int} (h : Cnt lit D f) (hD : IsMap D) {k : α} (hk : WideAt.IsKeyLit (lit k)) {v : Int} (hv : v ≠ 0) :
    Cnt lit (D.put (lit k) (.lit (.int .i64 v))) (upd f k v) := fun j => by
  by_cases e : j = k
  · subst e
    rw [Maps.atKey_put_same hD hk, Maps.has_put_same hD hk, upd_same]
    exact ⟨rfl, by simp [hv]⟩
  · have hne : lit j ≠ lit k := fun e' => e (inj _ _ e')
    rw [Maps.atKey_put_other hne, Maps.has_put_other hne, upd_other _ e]
    exact h j
theorem cnt_del {α : Type} [DecidableEq α] {lit : α → Lit} (inj : ∀ a b, lit a = lit b → a = b) {D : DataW Unit} {f : α → Int} (h : Cnt lit D f) (k : α) :
    Cnt lit (D.del (lit k)) (upd f k 0) := fun j => by
  by_cases e : j = k
  · subst e
    rw [Maps.atKey_del_same, Maps.has_del_same, upd_same]
    exact ⟨rfl, by simp⟩
  · have hne : lit j ≠ lit k := fun e' => e (inj _ _ e')
    rw [Maps.atKey_del_other hne, Maps.has_del_other hne, upd_other _ e]
    exact h j
/-- From w to w' a tally at p, whose map is at ob, has turned: nothing else that was there. -/
structure Touch (p : Nat) (ob : Option Nat) (w w' : World) : Prop where
  os : w'.os = w.os
  tape : w'.tape = w.tape
  output : w'.output = w.output
  size : w.heap.size ≤ w'.heap.size
  block : ∀ i, i < w.heap.size → i ≠ p → some i ≠ ob → w'.heap[i]? = w.heap[i]?
theorem Touch.below {p : Nat} {ob : Option Nat} {w w' : World} (h : Touch p ob w w') {B : Nat} (hp : B ≤ p) (hb : ∀ b, ob = some b → B ≤ b) (hB : B ≤ w.heap.size) : Below B w w' :=
  ⟨h.os, h.tape, h.output, h.size, fun i hi => h.block i (by omega) (by omega) (fun e => by have := hb i e.symm; omega)⟩
theorem Touch.refl (p : Nat) (ob : Option Nat) (w : World) : Touch p ob w w := ⟨rfl, rfl, rfl, Nat.le_refl _, fun _ _ _ _ => rfl⟩
theorem block_setCell3 {w : World} {p : Nat} {a b c u : Value} {t : TypeId} (h : w.heap[p]? = some (.cells #[a, b, c] t (0, 0))) : (w.setCell ⟨p, 0, none⟩ u).heap[p]? = some (.cells #[u, b, c] t (0, 0)) := by
  obtain ⟨hlt, he⟩ := Array.getElem?_eq_some_iff.1 h
  simp [World.setCell, Array.getElem?_modify, h]
theorem lt_size {w : World} {p : Nat} {o : Obj} (h : w.heap[p]? = some o) : p < w.heap.size := (Array.getElem?_eq_some_iff.1 h).1
theorem cell3 {w : World} {p : Nat} {a b c : Value} {t : TypeId} (h : w.heap[p]? = some (.cells #[a, b, c] t (0, 0))) : w.cell? ⟨p, 0, none⟩ = some a ∧ w.cell? ⟨p, 1, none⟩ = some b ∧ w.cell? ⟨p, 2, none⟩ = some c ∧ w.frozen? ⟨p, 0, none⟩ = false := by
  simp [World.cell?, World.frozen?, h]
theorem key_int {x : Int} (h : (Lit.int .i64 x).wf = true) : keyOf Try.prog 3 (.int .i64 x) = some (.int .i64 x) := keyOf_int_mk Try.underlying3 h
theorem inj_int : ∀ a b : Int, Lit.int .i64 a = Lit.int .i64 b → a = b := fun a b h => by simpa using h
theorem zero_int (w : World) : (zeroValue 3).run Try.prog w = .ok (.int .i64 0) w := by kernel_rfl
theorem law_int : Keyed Try.prog 3 := int_keyed Try.underlying3
theorem wf_small {x : Int} (h0 : 0 ≤ x) (h1 : x ≤ 1099511627776) : (Lit.int .i64 x).wf = true := WalkArith.wf_i64 (by omega)
/-- At p of w lies a tally whose map is at ob, of at most n keys: it has the counts f. -/
def Tally_int (w : World) (p : Nat) (ob : Option Nat) (n : Nat) (f : Int → Int) : Prop :=
  w.heap[p]? = some (.cells #[.map ob, .int .i64 0, .int .i64 0] 52 (0, 0)) ∧ (∀ k, 0 ≤ f k ∧ f k ≤ 1099511627776) ∧
  ((ob = none ∧ ∀ k, f k = 0) ∨ ∃ b D, ob = some b ∧ w.ownsMap Try.prog 3 (plainElem Try.prog 3) b n D ∧ Cnt (Lit.int .i64) D f)
theorem Tally_int.lt {w : World} {p : Nat} {ob : Option Nat} {n : Nat} {f : Int → Int} (h : Tally_int w p ob n f) : p < w.heap.size ∧ ∀ b, ob = some b → b < w.heap.size := by
  refine ⟨lt_size h.1, fun b hb => ?_⟩
  rcases h.2.2 with ⟨h0, _⟩ | ⟨b', D, h0, ho, _⟩
  · rw [h0] at hb; cases hb
  · rw [h0] at hb; cases hb; exact ho.lt
theorem Tally_int.kept {w w' : World} {p : Nat} {ob : Option Nat} {n : Nat} {f : Int → Int} (h : Tally_int w p ob n f) (hp : w'.heap[p]? = w.heap[p]?) (hb : ∀ b, ob = some b → w'.heap[b]? = w.heap[b]?) : Tally_int w' p ob n f := by
  refine ⟨hp.trans h.1, h.2.1, ?_⟩
  rcases h.2.2 with h0 | ⟨b', D, h0, ⟨es, clock, he, rest⟩, hc⟩
  · exact .inl h0
  · exact .inr ⟨b', D, h0, ⟨es, clock, (hb b' h0).trans he, rest⟩, hc⟩
theorem Tally_int.below {w w' : World} {p : Nat} {ob : Option Nat} {n : Nat} {f : Int → Int} (h : Tally_int w p ob n f) (hb : Below w.heap.size w w') : Tally_int w' p ob n f :=
  h.kept (hb.block _ h.lt.1) fun b e => hb.block _ (h.lt.2 b e)
theorem Tally_int.mono {w : World} {p : Nat} {ob : Option Nat} {n m : Nat} {f : Int → Int} (h : Tally_int w p ob n f) (hm : n ≤ m) : Tally_int w p ob m f := by
  refine ⟨h.1, h.2.1, ?_⟩
  rcases h.2.2 with h0 | ⟨b', D, h0, ho, hc⟩
  · exact .inl h0
  · exact .inr ⟨b', D, h0, ho.mono hm, hc⟩
def NewPost_int (w : World) (e : Ending) (w' : World) : Prop := e = .returned (.pointer (some ⟨w.heap.size, 0, none⟩)) ∧ Tally_int w' w.heap.size none 0 (fun _ => 0) ∧ Below w.heap.size w w'
theorem new_int (w : World) : Calls Try.prog 29 #[] w (NewPost_int w) := by
  go_enter Try.func29, Try.ntmps29
  go_wp2
  go_ret
  exact ⟨rfl, ⟨heap_alloc_new w _, fun _ => ⟨Int.le_refl 0, by show (0 : Int) ≤ _; omega⟩, .inl ⟨rfl, fun _ => rfl⟩⟩, (Below.refl _ _).alloc (Nat.le_refl _) _⟩
theorem of_nil_int (k : Value) (w : World) : Calls Try.prog 31 #[.pointer none, k] w fun e w' => e = .returned (.int .i64 0) ∧ w = w' := by
  go_enter Try.func31, Try.ntmps31
  go_wp2
  go_ret
  exact ⟨rfl, rfl⟩
theorem add_nil_int (k v : Value) (w : World) : Calls Try.prog 30 #[.pointer none, k, v] w fun e w' => e = .returned (.int .i64 0) ∧ w = w' := by
  go_enter Try.func30, Try.ntmps30
  go_wp2
  go_ret
  exact ⟨rfl, rfl⟩
set_option maxHeartbeats 1000000 in
theorem of_int (p : Nat) (ob : Option Nat) (n : Nat) (f : Int → Int) (k : Int) (w : World) (h : Tally_int w p ob n f) (hk : (Lit.int .i64 k).wf = true) :
    Calls Try.prog 31 #[.pointer (some ⟨p, 0, none⟩), .int .i64 k] w fun e w' => e = .returned (.int .i64 (f k)) ∧ w = w' := by
  obtain ⟨c0, c1, c2, f0⟩ := cell3 h.1
  have hkey := key_int hk
  rcases h.2.2 with ⟨rfl, hz⟩ | ⟨b, D, rfl, hown, hc⟩
  · have hrun := look_nil (w := w) false law_int Try.underlying48 (zero_int _) hkey
    have hz0 := Lib.hid (hz k)
    clear hz hkey hk
    go_enter Try.func31, Try.ntmps31
    go_wp2_with (go_at_call 36; refine (odd_int _ _).mono ?_; rintro e w' ⟨rfl, rfl⟩)
    go_ret
    exact ⟨ret_int hz0.out.symm, rfl⟩
  · have Hc := Lib.hid (hc k).1
    clear hc
    go_enter Try.func31, Try.ntmps31
    go_wp2_with (first
      | (go_at_call 36; refine (odd_int _ _).mono ?_; rintro e w' ⟨rfl, rfl⟩)
      | (at_lookup; refine wpList_lookup_own_int _ rfl _ _ 48 rfl 3 3 .i64 law_int Try.underlying48 Try.underlying3 (zero_int _) b n _ rfl hown _ _ rfl hkey ?_; intro c hat _; have Hat := Lib.hid hat; clear hat))
    go_ret
    exact ⟨ret_int (by have h1 := Hc.out; have h2 := Hat.out; rw [h1] at h2; simpa using h2.symm), rfl⟩
def SetPost_int (p : Nat) (ob : Option Nat) (n : Nat) (f : Int → Int) (r : Value) (w : World) (e : Ending) (w' : World) : Prop :=
  e = .returned r ∧ ∃ ob', Tally_int w' p ob' (n + 1) f ∧ Touch p ob w w' ∧ ∀ b, ob' = some b → ob = some b ∨ w.heap.size ≤ b
set_option maxRecDepth 100000 in
set_option maxHeartbeats 1000000 in
theorem set_int (p : Nat) (ob : Option Nat) (n : Nat) (f : Int → Int) (k : Int) (v : Int) (w : World) (h : Tally_int w p ob n f) (hk : (Lit.int .i64 k).wf = true) (hn : n < 1000000) (hv0 : 0 ≤ v) (hv1 : v ≤ 1099511627776) :
    Calls Try.prog 35 #[.pointer (some ⟨p, 0, none⟩), .int .i64 k, .int .i64 v] w (SetPost_int p ob n (upd f k v) (.tuple #[]) w) := by
  obtain ⟨c0, c1, c2, f0⟩ := cell3 h.1
  have hkey := key_int hk
  have hr : ∀ j, 0 ≤ upd f k v j ∧ upd f k v j ≤ 1099511627776 := fun j => by
    unfold upd; split
    · exact ⟨hv0, hv1⟩
    · exact h.2.1 j
  have Hr := Lib.hid hr
  clear hr
  have hlt := h.lt
  have hml : n < maxLen := by unfold maxLen; omega
  rcases h.2.2 with ⟨rfl, hz⟩ | ⟨b, D, rfl, hown, hc⟩
  · have Hz := Lib.hid hz
    clear hz
    by_cases hv : v = 0
    · subst hv
      have hrun := fun ty => drop_nil (w := w) law_int Try.underlying48 hkey ty
      have hrng := Hr.out
      go_enter Try.func35, Try.ntmps35
      go_wp2_with (go_at_call 36; refine (odd_int _ _).mono ?_; rintro e w' ⟨rfl, rfl⟩)
      go_end0
      exact ⟨rfl, none, ⟨h.1, Hr.out, .inl ⟨rfl, fun j => by unfold upd; split; rfl; exact Hz.out j⟩⟩, Touch.refl _ _ _, fun b e => by cases e⟩
    · have hve : (v == 0) = false := by simpa using hv
      have hmm := @run_makeMap Try.prog
      have hnil := run_eql_map_nil w 48 3 3 none Try.underlying48
      have hp : p < w.heap.size := hlt.1
      have hsz : (w.setCell ⟨p, 0, none⟩ (.map (some w.heap.size))).heap.size = w.heap.size := by simp
      have b1 := block_setCell3 (u := .map (some w.heap.size)) h.1
      have b2 := (Below.heap_alloc (w.setCell ⟨p, 0, none⟩ (.map (some w.heap.size))) (.map #[] 0) p (by rw [hsz]; exact hp)).trans b1
      have d0 := (cell3 b2).1
      have hown : ((w.setCell ⟨p, 0, none⟩ (.map (some w.heap.size))).alloc (.map #[] 0)).ownsMap Try.prog 3 (plainElem Try.prog 3) w.heap.size 0 (.map [] : DataW Unit) := by
        have := World.ownsMap_made (H := Unit) (w.setCell ⟨p, 0, none⟩ (.map (some w.heap.size))) Try.prog 3 (plainElem Try.prog 3)
        rwa [hsz] at this
      have B2 := Lib.hid b2
      clear b2 b1 hsz
      go_enter Try.func35, Try.ntmps35
      go_wp2_with (first
        | (go_at_call 36; refine (odd_int _ _).mono ?_; rintro e w' ⟨rfl, rfl⟩)
        | (at_mapUpdate; refine wpList_mapUpdate_own _ rfl _ _ _ 48 rfl 3 3 law_int Try.underlying48 _ w.heap.size 0 _ rfl hown (by unfold maxLen; omega) _ _ _ rfl rfl hkey _ [] (plainElem_int Try.underlying3 (wf_small hv0 hv1)) ?_; intro w1 hown1 hgrow1))
      go_end0
      refine ⟨rfl, some w.heap.size, ⟨(hgrow1.block p (by simp; omega) (by simp; omega)).trans B2.out, Hr.out, .inr ⟨_, _, rfl, hown1.mono (by omega), ?_⟩⟩, ?_, fun b e => .inr (by cases e; exact Nat.le_refl _)⟩
      · have hcz := cnt_put inj_int (cnt_empty (Lit.int .i64)) isMap_empty (law_int.key hkey) hv
        have : upd (fun _ => (0 : Int)) k v = upd f k v := by
          funext j; unfold upd; split
          · rfl
          · exact (Hz.out j).symm
        rw [this] at hcz
        exact hcz
      · exact ⟨hgrow1.os, hgrow1.tape, hgrow1.output, by have := hgrow1.size; simp at this; omega, fun i hi hne _ => by
          rw [hgrow1.block i (by simp; omega) (by simp; omega), Below.heap_alloc _ _ i (by simpa using hi), Below.heap_setCell _ _ _ _ (by exact hne)]⟩
  · have Hc := Lib.hid hc
    clear hc
    have hbp : b ≠ p := fun e => by
      obtain ⟨es, clock, he, _⟩ := hown
      rw [e, h.1] at he; cases he
    have hnil := run_eql_map_nil w 48 3 3 (some b) Try.underlying48
    by_cases hv : v = 0
    · subst hv
      go_enter Try.func35, Try.ntmps35
      go_wp2_with (first
        | (go_at_call 36; refine (odd_int _ _).mono ?_; rintro e w' ⟨rfl, rfl⟩)
        | (at_delete; refine wpList_delete_own _ rfl _ _ 48 3 rfl 3 law_int Try.underlying48 _ b n D rfl hown _ _ rfl hkey ?_; intro w1 hown1 hturn1))
      go_end0
      have hg := hturn1.grown
      exact ⟨rfl, some b, ⟨(hg.block p hlt.1 (by simp; omega)).trans h.1, Hr.out, .inr ⟨b, _, rfl, hown1.mono (by omega), cnt_del inj_int Hc.out k⟩⟩,
        ⟨hg.os, hg.tape, hg.output, hg.size, fun i hi _ hb => hg.block i hi hb⟩, fun b' e => .inl e⟩
    · have hve : (v == 0) = false := by simpa using hv
      go_enter Try.func35, Try.ntmps35
      go_wp2_with (first
        | (go_at_call 36; refine (odd_int _ _).mono ?_; rintro e w' ⟨rfl, rfl⟩)
        | (at_mapUpdate; refine wpList_mapUpdate_own _ rfl _ _ _ 48 rfl 3 3 law_int Try.underlying48 _ b n _ rfl hown hml _ _ _ rfl rfl hkey _ [] (plainElem_int Try.underlying3 (wf_small hv0 hv1)) ?_; intro w1 hown1 hgrow1))
      go_end0
      exact ⟨rfl, some b, ⟨(hgrow1.block p hlt.1 (by simp; omega)).trans h.1, Hr.out, .inr ⟨b, _, rfl, hown1, cnt_put inj_int Hc.out (hown.tidy law_int).isMap (law_int.key hkey) hv⟩⟩,
        ⟨hgrow1.os, hgrow1.tape, hgrow1.output, hgrow1.size, fun i hi _ hb => hgrow1.block i hi hb⟩, fun b' e => .inl e⟩
set_option maxHeartbeats 1000000 in
theorem add_int (p : Nat) (ob : Option Nat) (n : Nat) (f : Int → Int) (k : Int) (v : Int) (w : World) (h : Tally_int w p ob n f) (hk : (Lit.int .i64 k).wf = true) (hn : n < 1000000) :
    Calls Try.prog 30 #[.pointer (some ⟨p, 0, none⟩), .int .i64 k, .int .i64 v] w (SetPost_int p ob n (upd f k (heldN (f k) v)) (.int .i64 (heldN (f k) v)) w) := by
  have hf := h.2.1 k
  have hr := heldN_range (f k) v
  go_enter Try.func30, Try.ntmps30
  go_wp2_with (first
    | (go_at_call 31; refine (of_int p ob n f k _ h hk).mono ?_; rintro e w' ⟨rfl, rfl⟩)
    | (go_at_call 34; refine (held_any _ _ _ hf.1 hf.2).mono ?_; rintro e w' ⟨rfl, rfl⟩)
    | (go_at_call 35; refine (set_int p ob n f k _ _ h hk hn hr.1 hr.2).mono ?_; rintro e w' ⟨rfl, hq⟩))
  go_ret
  exact ⟨rfl, hq⟩
end Go.Proofs.Ytjgpjmlnmjgdmaa
