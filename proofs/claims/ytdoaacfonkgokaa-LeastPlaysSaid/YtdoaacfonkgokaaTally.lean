/- The tally of package least: New, Of, set, Add. A tally is a struct of a map and a row that is never used at int and string; a count is a function of the key. -/
import Derived.Maps.OwnSet
import Derived.Maps.RangeWalk
import Derived.Sort.KeysCollected
import Derived.Carry
import Derived.Test.YtdoaacfonkgokaaLeaf
namespace Go.Proofs.Ytdoaacfonkgokaa
open Go.RowKit Go.Maps

def upd {α : Type} [DecidableEq α] (f : α → Int) (k : α) (v : Int) : α → Int := fun j => if j = k then v else f j
theorem upd_same {α : Type} [DecidableEq α] (f : α → Int) (k : α) (v : Int) : upd f k v k = v := by simp [upd]
theorem upd_other {α : Type} [DecidableEq α] (f : α → Int) {k j : α} (h : j ≠ k) (v : Int) : upd f k v j = f j := by simp [upd, h]

/-- The map that reads as D has the counts f: none that is 0. -/
def Cnt {α : Type} (lit : α → Lit) (D : DataW Unit) (f : α → Int) : Prop :=
  ∀ k, D.atKey (lit k) (.lit (.int .i64 0)) = .lit (.int .i64 (f k)) ∧ (Maps.has D (lit k) = true ↔ f k ≠ 0)
theorem cnt_empty {α : Type} (lit : α → Lit) : Cnt lit (.map []) (fun _ => 0) := fun k =>
  ⟨Maps.atKey_of_not_has rfl _, by simp [Maps.has]⟩
theorem cnt_put {α : Type} [DecidableEq α] {lit : α → Lit} (inj : ∀ a b, lit a = lit b → a = b) {D : DataW Unit} {f : α → Int} (h : Cnt lit D f) (hD : IsMap D) {k : α} (hk : WideAt.IsKeyLit (lit k)) {v : Int} (hv : v ≠ 0) :
    Cnt lit (D.put (lit k) (.lit (.int .i64 v))) (upd f k v) := fun j => by
  by_cases e : j = k
  · subst e
    rw [Maps.atKey_put_same hD hk, Maps.has_put_same hD hk, upd_same]
    exact ⟨rfl, by simp [hv]⟩
  · have hne : lit j ≠ lit k := fun e' => e (inj _ _ e')
    rw [Maps.atKey_put_other hne, Maps.has_put_other hne, upd_other _ e]
    exact h j
theorem cnt_del {α : Type} [DecidableEq α] {lit : α → Lit} (inj : ∀ a b, lit a = lit b → a = b) {D : DataW Unit} {f : α → Int} (h : Cnt lit D f) (k : α) :
    Cnt lit (D.del (lit k)) (upd f k 0) := fun j => by
  by_cases e : j = k
  · subst e
    rw [Maps.atKey_del_same, Maps.has_del_same, upd_same]
    exact ⟨rfl, by simp⟩
  · have hne : lit j ≠ lit k := fun e' => e (inj _ _ e')
    rw [Maps.atKey_del_other hne, Maps.has_del_other hne, upd_other _ e]
    exact h j

/-- From w to w' a tally at p, whose map is at ob, has turned: nothing else that was there. -/
structure Touch (p : Nat) (ob : Option Nat) (w w' : World) : Prop where
  os : w'.os = w.os
  tape : w'.tape = w.tape
  output : w'.output = w.output
  size : w.heap.size ≤ w'.heap.size
  block : ∀ i, i < w.heap.size → i ≠ p → some i ≠ ob → w'.heap[i]? = w.heap[i]?
theorem Touch.below {p : Nat} {ob : Option Nat} {w w' : World} (h : Touch p ob w w') {B : Nat} (hp : B ≤ p) (hb : ∀ b, ob = some b → B ≤ b) (hB : B ≤ w.heap.size) : Below B w w' :=
  ⟨h.os, h.tape, h.output, h.size, fun i hi => h.block i (by omega) (by omega) (fun e => by have := hb i e.symm; omega)⟩
theorem Touch.refl (p : Nat) (ob : Option Nat) (w : World) : Touch p ob w w := ⟨rfl, rfl, rfl, Nat.le_refl _, fun _ _ _ _ => rfl⟩

theorem block_setCell3 {w : World} {p : Nat} {a b c u : Value} {t : TypeId} (h : w.heap[p]? = some (.cells #[a, b, c] t (0, 0))) : (w.setCell ⟨p, 0, none⟩ u).heap[p]? = some (.cells #[u, b, c] t (0, 0)) := by
  obtain ⟨hlt, he⟩ := Array.getElem?_eq_some_iff.1 h
  simp [World.setCell, Array.getElem?_modify, h]
theorem lt_size {w : World} {p : Nat} {o : Obj} (h : w.heap[p]? = some o) : p < w.heap.size := (Array.getElem?_eq_some_iff.1 h).1
theorem cell3 {w : World} {p : Nat} {a b c : Value} {t : TypeId} (h : w.heap[p]? = some (.cells #[a, b, c] t (0, 0))) : w.cell? ⟨p, 0, none⟩ = some a ∧ w.cell? ⟨p, 1, none⟩ = some b ∧ w.cell? ⟨p, 2, none⟩ = some c ∧ w.frozen? ⟨p, 0, none⟩ = false := by
  simp [World.cell?, World.frozen?, h]

theorem key_str {x : List UInt8} (h : x.length ≤ maxLen) : keyOf Try.prog 9 (encStr x) = some (.string x) := by
  have := WideMaps.keyOf_string_mk Try.underlying9 (s := ⟨x.toArray⟩) (by simpa [ByteArray.size] using h)
  simpa using this
theorem key_int {x : Int} (h : (Lit.int .i64 x).wf = true) : keyOf Try.prog 3 (.int .i64 x) = some (.int .i64 x) := keyOf_int_mk Try.underlying3 h
theorem inj_int : ∀ a b : Int, Lit.int .i64 a = Lit.int .i64 b → a = b := fun a b h => by simpa using h
theorem inj_str : ∀ a b : List UInt8, Lit.string a = Lit.string b → a = b := fun a b h => by simpa using h
theorem zero_int (w : World) : (zeroValue 3).run Try.prog w = .ok (.int .i64 0) w := by kernel_rfl
theorem law_int : Keyed Try.prog 3 := int_keyed Try.underlying3
theorem law_str : Keyed Try.prog 9 := string_keyed Try.underlying9
theorem wf_small {x : Int} (h0 : 0 ≤ x) (h1 : x ≤ 1099511627776) : (Lit.int .i64 x).wf = true := WalkArith.wf_i64 (by omega)

/-- At p of w lies a tally whose map is at ob, of at most n keys: it has the counts f. -/
def Tally_int (w : World) (p : Nat) (ob : Option Nat) (n : Nat) (f : Int → Int) : Prop :=
  w.heap[p]? = some (.cells #[.map ob, .int .i64 0, .int .i64 0] 55 (0, 0)) ∧ (∀ k, 0 ≤ f k ∧ f k ≤ 1099511627776) ∧
  ((ob = none ∧ ∀ k, f k = 0) ∨ ∃ b D, ob = some b ∧ w.ownsMap Try.prog 3 (plainElem Try.prog 3) b n D ∧ Cnt (Lit.int .i64) D f)
theorem Tally_int.lt {w : World} {p : Nat} {ob : Option Nat} {n : Nat} {f : Int → Int} (h : Tally_int w p ob n f) : p < w.heap.size ∧ ∀ b, ob = some b → b < w.heap.size := by
  refine ⟨lt_size h.1, fun b hb => ?_⟩
  rcases h.2.2 with ⟨h0, _⟩ | ⟨b', D, h0, ho, _⟩
  · rw [h0] at hb; cases hb
  · rw [h0] at hb; cases hb; exact ho.lt
theorem Tally_int.kept {w w' : World} {p : Nat} {ob : Option Nat} {n : Nat} {f : Int → Int} (h : Tally_int w p ob n f) (hp : w'.heap[p]? = w.heap[p]?) (hb : ∀ b, ob = some b → w'.heap[b]? = w.heap[b]?) : Tally_int w' p ob n f := by
  refine ⟨hp.trans h.1, h.2.1, ?_⟩
  rcases h.2.2 with h0 | ⟨b', D, h0, ⟨es, clock, he, rest⟩, hc⟩
  · exact .inl h0
  · exact .inr ⟨b', D, h0, ⟨es, clock, (hb b' h0).trans he, rest⟩, hc⟩
theorem Tally_int.below {w w' : World} {p : Nat} {ob : Option Nat} {n : Nat} {f : Int → Int} (h : Tally_int w p ob n f) (hb : Below w.heap.size w w') : Tally_int w' p ob n f :=
  h.kept (hb.block _ h.lt.1) fun b e => hb.block _ (h.lt.2 b e)
theorem Tally_int.mono {w : World} {p : Nat} {ob : Option Nat} {n m : Nat} {f : Int → Int} (h : Tally_int w p ob n f) (hm : n ≤ m) : Tally_int w p ob m f := by
  refine ⟨h.1, h.2.1, ?_⟩
  rcases h.2.2 with h0 | ⟨b', D, h0, ho, hc⟩
  · exact .inl h0
  · exact .inr ⟨b', D, h0, ho.mono hm, hc⟩

def NewPost_int (w : World) (e : Ending) (w' : World) : Prop := e = .returned (.pointer (some ⟨w.heap.size, 0, none⟩)) ∧ Tally_int w' w.heap.size none 0 (fun _ => 0) ∧ Below w.heap.size w w'
theorem new_int (w : World) : Calls Try.prog 10 #[] w (NewPost_int w) := by
  go_enter Try.func10, Try.ntmps10
  go_wp2
  go_ret
  exact ⟨rfl, ⟨heap_alloc_new w _, fun _ => ⟨Int.le_refl 0, by show (0 : Int) ≤ _; omega⟩, .inl ⟨rfl, fun _ => rfl⟩⟩, (Below.refl _ _).alloc (Nat.le_refl _) _⟩

theorem of_nil_int (k : Value) (w : World) : Calls Try.prog 12 #[.pointer none, k] w fun e w' => e = .returned (.int .i64 0) ∧ w = w' := by
  go_enter Try.func12, Try.ntmps12
  go_wp2
  go_ret
  exact ⟨rfl, rfl⟩
theorem add_nil_int (k v : Value) (w : World) : Calls Try.prog 11 #[.pointer none, k, v] w fun e w' => e = .returned (.int .i64 0) ∧ w = w' := by
  go_enter Try.func11, Try.ntmps11
  go_wp2
  go_ret
  exact ⟨rfl, rfl⟩

set_option maxHeartbeats 1000000 in
theorem of_int (p : Nat) (ob : Option Nat) (n : Nat) (f : Int → Int) (k : Int) (w : World) (h : Tally_int w p ob n f) (hk : (Lit.int .i64 k).wf = true) :
    Calls Try.prog 12 #[.pointer (some ⟨p, 0, none⟩), .int .i64 k] w fun e w' => e = .returned (.int .i64 (f k)) ∧ w = w' := by
  obtain ⟨c0, c1, c2, f0⟩ := cell3 h.1
  have hkey := key_int hk
  rcases h.2.2 with ⟨rfl, hz⟩ | ⟨b, D, rfl, hown, hc⟩
  · have hrun := look_nil (w := w) false law_int Try.underlying26 (zero_int _) hkey
    have hz0 := Lib.hid (hz k)
    clear hz hkey hk
    go_enter Try.func12, Try.ntmps12
    go_wp2_with (go_at_call 27; refine (odd_int _ _).mono ?_; rintro e w' ⟨rfl, rfl⟩)
    go_ret
    exact ⟨ret_int hz0.out.symm, rfl⟩
  · have Hc := Lib.hid (hc k).1
    clear hc
    go_enter Try.func12, Try.ntmps12
    go_wp2_with (first
      | (go_at_call 27; refine (odd_int _ _).mono ?_; rintro e w' ⟨rfl, rfl⟩)
      | (at_lookup; refine wpList_lookup_own_int _ rfl _ _ 26 rfl 3 3 .i64 law_int Try.underlying26 Try.underlying3 (zero_int _) b n _ rfl hown _ _ rfl hkey ?_; intro c hat _; have Hat := Lib.hid hat; clear hat))
    go_ret
    exact ⟨ret_int (by have h1 := Hc.out; have h2 := Hat.out; rw [h1] at h2; simpa using h2.symm), rfl⟩

def SetPost_int (p : Nat) (ob : Option Nat) (n : Nat) (f : Int → Int) (r : Value) (w : World) (e : Ending) (w' : World) : Prop :=
  e = .returned r ∧ ∃ ob', Tally_int w' p ob' (n + 1) f ∧ Touch p ob w w' ∧ ∀ b, ob' = some b → ob = some b ∨ w.heap.size ≤ b

set_option maxRecDepth 100000 in
set_option maxHeartbeats 1000000 in
theorem set_int (p : Nat) (ob : Option Nat) (n : Nat) (f : Int → Int) (k : Int) (v : Int) (w : World) (h : Tally_int w p ob n f) (hk : (Lit.int .i64 k).wf = true) (hn : n < 1000000) (hv0 : 0 ≤ v) (hv1 : v ≤ 1099511627776) :
    Calls Try.prog 26 #[.pointer (some ⟨p, 0, none⟩), .int .i64 k, .int .i64 v] w (SetPost_int p ob n (upd f k v) (.tuple #[]) w) := by
  obtain ⟨c0, c1, c2, f0⟩ := cell3 h.1
  have hkey := key_int hk
  have hr : ∀ j, 0 ≤ upd f k v j ∧ upd f k v j ≤ 1099511627776 := fun j => by
    unfold upd; split
    · exact ⟨hv0, hv1⟩
    · exact h.2.1 j
  have Hr := Lib.hid hr
  clear hr
  have hlt := h.lt
  have hml : n < maxLen := by unfold maxLen; omega
  rcases h.2.2 with ⟨rfl, hz⟩ | ⟨b, D, rfl, hown, hc⟩
  · have Hz := Lib.hid hz
    clear hz
    by_cases hv : v = 0
    · subst hv
      have hrun := fun ty => drop_nil (w := w) law_int Try.underlying26 hkey ty
      have hrng := Hr.out
      go_enter Try.func26, Try.ntmps26
      go_wp2_with (go_at_call 27; refine (odd_int _ _).mono ?_; rintro e w' ⟨rfl, rfl⟩)
      go_end0
      exact ⟨rfl, none, ⟨h.1, Hr.out, .inl ⟨rfl, fun j => by unfold upd; split; rfl; exact Hz.out j⟩⟩, Touch.refl _ _ _, fun b e => by cases e⟩
    · have hve : (v == 0) = false := by simpa using hv
      have hmm := @run_makeMap Try.prog
      have hnil := run_eql_map_nil w 26 3 3 none Try.underlying26
      have hp : p < w.heap.size := hlt.1
      have hsz : (w.setCell ⟨p, 0, none⟩ (.map (some w.heap.size))).heap.size = w.heap.size := by simp
      have b1 := block_setCell3 (u := .map (some w.heap.size)) h.1
      have b2 := (Below.heap_alloc (w.setCell ⟨p, 0, none⟩ (.map (some w.heap.size))) (.map #[] 0) p (by rw [hsz]; exact hp)).trans b1
      have d0 := (cell3 b2).1
      have hown : ((w.setCell ⟨p, 0, none⟩ (.map (some w.heap.size))).alloc (.map #[] 0)).ownsMap Try.prog 3 (plainElem Try.prog 3) w.heap.size 0 (.map [] : DataW Unit) := by
        have := World.ownsMap_made (H := Unit) (w.setCell ⟨p, 0, none⟩ (.map (some w.heap.size))) Try.prog 3 (plainElem Try.prog 3)
        rwa [hsz] at this
      have B2 := Lib.hid b2
      clear b2 b1 hsz
      go_enter Try.func26, Try.ntmps26
      go_wp2_with (first
        | (go_at_call 27; refine (odd_int _ _).mono ?_; rintro e w' ⟨rfl, rfl⟩)
        | (at_mapUpdate; refine wpList_mapUpdate_own _ rfl _ _ _ 26 rfl 3 3 law_int Try.underlying26 _ w.heap.size 0 _ rfl hown (by unfold maxLen; omega) _ _ _ rfl rfl hkey _ [] (plainElem_int Try.underlying3 (wf_small hv0 hv1)) ?_; intro w1 hown1 hgrow1))
      go_end0
      refine ⟨rfl, some w.heap.size, ⟨(hgrow1.block p (by simp; omega) (by simp; omega)).trans B2.out, Hr.out, .inr ⟨_, _, rfl, hown1.mono (by omega), ?_⟩⟩, ?_, fun b e => .inr (by cases e; exact Nat.le_refl _)⟩
      · have hcz := cnt_put inj_int (cnt_empty (Lit.int .i64)) isMap_empty (law_int.key hkey) hv
        have : upd (fun _ => (0 : Int)) k v = upd f k v := by
          funext j; unfold upd; split
          · rfl
          · exact (Hz.out j).symm
        rw [this] at hcz
        exact hcz
      · exact ⟨hgrow1.os, hgrow1.tape, hgrow1.output, by have := hgrow1.size; simp at this; omega, fun i hi hne _ => by
          rw [hgrow1.block i (by simp; omega) (by simp; omega), Below.heap_alloc _ _ i (by simpa using hi), Below.heap_setCell _ _ _ _ (by exact hne)]⟩
  · have Hc := Lib.hid hc
    clear hc
    have hbp : b ≠ p := fun e => by
      obtain ⟨es, clock, he, _⟩ := hown
      rw [e, h.1] at he; cases he
    have hnil := run_eql_map_nil w 26 3 3 (some b) Try.underlying26
    by_cases hv : v = 0
    · subst hv
      go_enter Try.func26, Try.ntmps26
      go_wp2_with (first
        | (go_at_call 27; refine (odd_int _ _).mono ?_; rintro e w' ⟨rfl, rfl⟩)
        | (at_delete; refine wpList_delete_own _ rfl _ _ 26 3 rfl 3 law_int Try.underlying26 _ b n D rfl hown _ _ rfl hkey ?_; intro w1 hown1 hturn1))
      go_end0
      have hg := hturn1.grown
      exact ⟨rfl, some b, ⟨(hg.block p hlt.1 (by simp; omega)).trans h.1, Hr.out, .inr ⟨b, _, rfl, hown1.mono (by omega), cnt_del inj_int Hc.out k⟩⟩,
        ⟨hg.os, hg.tape, hg.output, hg.size, fun i hi _ hb => hg.block i hi hb⟩, fun b' e => .inl e⟩
    · have hve : (v == 0) = false := by simpa using hv
      go_enter Try.func26, Try.ntmps26
      go_wp2_with (first
        | (go_at_call 27; refine (odd_int _ _).mono ?_; rintro e w' ⟨rfl, rfl⟩)
        | (at_mapUpdate; refine wpList_mapUpdate_own _ rfl _ _ _ 26 rfl 3 3 law_int Try.underlying26 _ b n _ rfl hown hml _ _ _ rfl rfl hkey _ [] (plainElem_int Try.underlying3 (wf_small hv0 hv1)) ?_; intro w1 hown1 hgrow1))
      go_end0
      exact ⟨rfl, some b, ⟨(hgrow1.block p hlt.1 (by simp; omega)).trans h.1, Hr.out, .inr ⟨b, _, rfl, hown1, cnt_put inj_int Hc.out (hown.tidy law_int).isMap (law_int.key hkey) hv⟩⟩,
        ⟨hgrow1.os, hgrow1.tape, hgrow1.output, hgrow1.size, fun i hi _ hb => hgrow1.block i hi hb⟩, fun b' e => .inl e⟩

set_option maxHeartbeats 1000000 in
theorem add_int (p : Nat) (ob : Option Nat) (n : Nat) (f : Int → Int) (k : Int) (v : Int) (w : World) (h : Tally_int w p ob n f) (hk : (Lit.int .i64 k).wf = true) (hn : n < 1000000) :
    Calls Try.prog 11 #[.pointer (some ⟨p, 0, none⟩), .int .i64 k, .int .i64 v] w (SetPost_int p ob n (upd f k (heldN (f k) v)) (.int .i64 (heldN (f k) v)) w) := by
  have hf := h.2.1 k
  have hr := heldN_range (f k) v
  go_enter Try.func11, Try.ntmps11
  go_wp2_with (first
    | (go_at_call 12; refine (of_int p ob n f k _ h hk).mono ?_; rintro e w' ⟨rfl, rfl⟩)
    | (go_at_call 25; refine (held_any _ _ _ hf.1 hf.2).mono ?_; rintro e w' ⟨rfl, rfl⟩)
    | (go_at_call 26; refine (set_int p ob n f k _ _ h hk hn hr.1 hr.2).mono ?_; rintro e w' ⟨rfl, hq⟩))
  go_ret
  exact ⟨rfl, hq⟩

/-- At p of w lies a tally whose map is at ob, of at most n keys: it has the counts f. -/
def Tally_string (w : World) (p : Nat) (ob : Option Nat) (n : Nat) (f : List UInt8 → Int) : Prop :=
  w.heap[p]? = some (.cells #[.map ob, .string ⟨#[]⟩, .int .i64 0] 67 (0, 0)) ∧ (∀ k, 0 ≤ f k ∧ f k ≤ 1099511627776) ∧
  ((ob = none ∧ ∀ k, f k = 0) ∨ ∃ b D, ob = some b ∧ w.ownsMap Try.prog 9 (plainElem Try.prog 3) b n D ∧ Cnt Lit.string D f)
theorem Tally_string.lt {w : World} {p : Nat} {ob : Option Nat} {n : Nat} {f : List UInt8 → Int} (h : Tally_string w p ob n f) : p < w.heap.size ∧ ∀ b, ob = some b → b < w.heap.size := by
  refine ⟨lt_size h.1, fun b hb => ?_⟩
  rcases h.2.2 with ⟨h0, _⟩ | ⟨b', D, h0, ho, _⟩
  · rw [h0] at hb; cases hb
  · rw [h0] at hb; cases hb; exact ho.lt
theorem Tally_string.kept {w w' : World} {p : Nat} {ob : Option Nat} {n : Nat} {f : List UInt8 → Int} (h : Tally_string w p ob n f) (hp : w'.heap[p]? = w.heap[p]?) (hb : ∀ b, ob = some b → w'.heap[b]? = w.heap[b]?) : Tally_string w' p ob n f := by
  refine ⟨hp.trans h.1, h.2.1, ?_⟩
  rcases h.2.2 with h0 | ⟨b', D, h0, ⟨es, clock, he, rest⟩, hc⟩
  · exact .inl h0
  · exact .inr ⟨b', D, h0, ⟨es, clock, (hb b' h0).trans he, rest⟩, hc⟩
theorem Tally_string.below {w w' : World} {p : Nat} {ob : Option Nat} {n : Nat} {f : List UInt8 → Int} (h : Tally_string w p ob n f) (hb : Below w.heap.size w w') : Tally_string w' p ob n f :=
  h.kept (hb.block _ h.lt.1) fun b e => hb.block _ (h.lt.2 b e)
theorem Tally_string.mono {w : World} {p : Nat} {ob : Option Nat} {n m : Nat} {f : List UInt8 → Int} (h : Tally_string w p ob n f) (hm : n ≤ m) : Tally_string w p ob m f := by
  refine ⟨h.1, h.2.1, ?_⟩
  rcases h.2.2 with h0 | ⟨b', D, h0, ho, hc⟩
  · exact .inl h0
  · exact .inr ⟨b', D, h0, ho.mono hm, hc⟩

def NewPost_string (w : World) (e : Ending) (w' : World) : Prop := e = .returned (.pointer (some ⟨w.heap.size, 0, none⟩)) ∧ Tally_string w' w.heap.size none 0 (fun _ => 0) ∧ Below w.heap.size w w'
theorem new_string (w : World) : Calls Try.prog 20 #[] w (NewPost_string w) := by
  go_enter Try.func20, Try.ntmps20
  go_wp2
  go_ret
  exact ⟨rfl, ⟨heap_alloc_new w _, fun _ => ⟨Int.le_refl 0, by show (0 : Int) ≤ _; omega⟩, .inl ⟨rfl, fun _ => rfl⟩⟩, (Below.refl _ _).alloc (Nat.le_refl _) _⟩

theorem of_nil_string (k : Value) (w : World) : Calls Try.prog 22 #[.pointer none, k] w fun e w' => e = .returned (.int .i64 0) ∧ w = w' := by
  go_enter Try.func22, Try.ntmps22
  go_wp2
  go_ret
  exact ⟨rfl, rfl⟩
theorem add_nil_string (k v : Value) (w : World) : Calls Try.prog 21 #[.pointer none, k, v] w fun e w' => e = .returned (.int .i64 0) ∧ w = w' := by
  go_enter Try.func21, Try.ntmps21
  go_wp2
  go_ret
  exact ⟨rfl, rfl⟩

set_option maxHeartbeats 1000000 in
theorem of_string (p : Nat) (ob : Option Nat) (n : Nat) (f : List UInt8 → Int) (k : List UInt8) (w : World) (h : Tally_string w p ob n f) (hk : k.length ≤ maxLen) :
    Calls Try.prog 22 #[.pointer (some ⟨p, 0, none⟩), encStr k] w fun e w' => e = .returned (.int .i64 (f k)) ∧ w = w' := by
  obtain ⟨c0, c1, c2, f0⟩ := cell3 h.1
  have hkey := key_str hk
  rcases h.2.2 with ⟨rfl, hz⟩ | ⟨b, D, rfl, hown, hc⟩
  · have hrun := look_nil (w := w) false law_str Try.underlying63 (zero_int _) hkey
    have hz0 := Lib.hid (hz k)
    clear hz hkey hk
    go_enter Try.func22, Try.ntmps22
    go_wp2_with (go_at_call 36; refine (odd_string _ _).mono ?_; rintro e w' ⟨rfl, rfl⟩)
    go_ret
    exact ⟨ret_int hz0.out.symm, rfl⟩
  · have Hc := Lib.hid (hc k).1
    clear hc
    go_enter Try.func22, Try.ntmps22
    go_wp2_with (first
      | (go_at_call 36; refine (odd_string _ _).mono ?_; rintro e w' ⟨rfl, rfl⟩)
      | (at_lookup; refine wpList_lookup_own_int _ rfl _ _ 63 rfl 9 3 .i64 law_str Try.underlying63 Try.underlying3 (zero_int _) b n _ rfl hown _ _ rfl hkey ?_; intro c hat _; have Hat := Lib.hid hat; clear hat))
    go_ret
    exact ⟨ret_int (by have h1 := Hc.out; have h2 := Hat.out; rw [h1] at h2; simpa using h2.symm), rfl⟩

def SetPost_string (p : Nat) (ob : Option Nat) (n : Nat) (f : List UInt8 → Int) (r : Value) (w : World) (e : Ending) (w' : World) : Prop :=
  e = .returned r ∧ ∃ ob', Tally_string w' p ob' (n + 1) f ∧ Touch p ob w w' ∧ ∀ b, ob' = some b → ob = some b ∨ w.heap.size ≤ b

set_option maxRecDepth 100000 in
set_option maxHeartbeats 1000000 in
theorem set_string (p : Nat) (ob : Option Nat) (n : Nat) (f : List UInt8 → Int) (k : List UInt8) (v : Int) (w : World) (h : Tally_string w p ob n f) (hk : k.length ≤ maxLen) (hn : n < 1000000) (hv0 : 0 ≤ v) (hv1 : v ≤ 1099511627776) :
    Calls Try.prog 35 #[.pointer (some ⟨p, 0, none⟩), encStr k, .int .i64 v] w (SetPost_string p ob n (upd f k v) (.tuple #[]) w) := by
  obtain ⟨c0, c1, c2, f0⟩ := cell3 h.1
  have hkey := key_str hk
  have hr : ∀ j, 0 ≤ upd f k v j ∧ upd f k v j ≤ 1099511627776 := fun j => by
    unfold upd; split
    · exact ⟨hv0, hv1⟩
    · exact h.2.1 j
  have Hr := Lib.hid hr
  clear hr
  have hlt := h.lt
  have hml : n < maxLen := by unfold maxLen; omega
  rcases h.2.2 with ⟨rfl, hz⟩ | ⟨b, D, rfl, hown, hc⟩
  · have Hz := Lib.hid hz
    clear hz
    by_cases hv : v = 0
    · subst hv
      have hrun := fun ty => drop_nil (w := w) law_str Try.underlying63 hkey ty
      have hrng := Hr.out
      go_enter Try.func35, Try.ntmps35
      go_wp2_with (go_at_call 36; refine (odd_string _ _).mono ?_; rintro e w' ⟨rfl, rfl⟩)
      go_end0
      exact ⟨rfl, none, ⟨h.1, Hr.out, .inl ⟨rfl, fun j => by unfold upd; split; rfl; exact Hz.out j⟩⟩, Touch.refl _ _ _, fun b e => by cases e⟩
    · have hve : (v == 0) = false := by simpa using hv
      have hmm := @run_makeMap Try.prog
      have hnil := run_eql_map_nil w 63 9 3 none Try.underlying63
      have hp : p < w.heap.size := hlt.1
      have hsz : (w.setCell ⟨p, 0, none⟩ (.map (some w.heap.size))).heap.size = w.heap.size := by simp
      have b1 := block_setCell3 (u := .map (some w.heap.size)) h.1
      have b2 := (Below.heap_alloc (w.setCell ⟨p, 0, none⟩ (.map (some w.heap.size))) (.map #[] 0) p (by rw [hsz]; exact hp)).trans b1
      have d0 := (cell3 b2).1
      have hown : ((w.setCell ⟨p, 0, none⟩ (.map (some w.heap.size))).alloc (.map #[] 0)).ownsMap Try.prog 9 (plainElem Try.prog 3) w.heap.size 0 (.map [] : DataW Unit) := by
        have := World.ownsMap_made (H := Unit) (w.setCell ⟨p, 0, none⟩ (.map (some w.heap.size))) Try.prog 9 (plainElem Try.prog 3)
        rwa [hsz] at this
      have B2 := Lib.hid b2
      clear b2 b1 hsz
      go_enter Try.func35, Try.ntmps35
      go_wp2_with (first
        | (go_at_call 36; refine (odd_string _ _).mono ?_; rintro e w' ⟨rfl, rfl⟩)
        | (at_mapUpdate; refine wpList_mapUpdate_own _ rfl _ _ _ 63 rfl 9 3 law_str Try.underlying63 _ w.heap.size 0 _ rfl hown (by unfold maxLen; omega) _ _ _ rfl rfl hkey _ [] (plainElem_int Try.underlying3 (wf_small hv0 hv1)) ?_; intro w1 hown1 hgrow1))
      go_end0
      refine ⟨rfl, some w.heap.size, ⟨(hgrow1.block p (by simp; omega) (by simp; omega)).trans B2.out, Hr.out, .inr ⟨_, _, rfl, hown1.mono (by omega), ?_⟩⟩, ?_, fun b e => .inr (by cases e; exact Nat.le_refl _)⟩
      · have hcz := cnt_put inj_str (cnt_empty Lit.string) isMap_empty (law_str.key hkey) hv
        have : upd (fun _ => (0 : Int)) k v = upd f k v := by
          funext j; unfold upd; split
          · rfl
          · exact (Hz.out j).symm
        rw [this] at hcz
        exact hcz
      · exact ⟨hgrow1.os, hgrow1.tape, hgrow1.output, by have := hgrow1.size; simp at this; omega, fun i hi hne _ => by
          rw [hgrow1.block i (by simp; omega) (by simp; omega), Below.heap_alloc _ _ i (by simpa using hi), Below.heap_setCell _ _ _ _ (by exact hne)]⟩
  · have Hc := Lib.hid hc
    clear hc
    have hbp : b ≠ p := fun e => by
      obtain ⟨es, clock, he, _⟩ := hown
      rw [e, h.1] at he; cases he
    have hnil := run_eql_map_nil w 63 9 3 (some b) Try.underlying63
    by_cases hv : v = 0
    · subst hv
      go_enter Try.func35, Try.ntmps35
      go_wp2_with (first
        | (go_at_call 36; refine (odd_string _ _).mono ?_; rintro e w' ⟨rfl, rfl⟩)
        | (at_delete; refine wpList_delete_own _ rfl _ _ 63 9 rfl 3 law_str Try.underlying63 _ b n D rfl hown _ _ rfl hkey ?_; intro w1 hown1 hturn1))
      go_end0
      have hg := hturn1.grown
      exact ⟨rfl, some b, ⟨(hg.block p hlt.1 (by simp; omega)).trans h.1, Hr.out, .inr ⟨b, _, rfl, hown1.mono (by omega), cnt_del inj_str Hc.out k⟩⟩,
        ⟨hg.os, hg.tape, hg.output, hg.size, fun i hi _ hb => hg.block i hi hb⟩, fun b' e => .inl e⟩
    · have hve : (v == 0) = false := by simpa using hv
      go_enter Try.func35, Try.ntmps35
      go_wp2_with (first
        | (go_at_call 36; refine (odd_string _ _).mono ?_; rintro e w' ⟨rfl, rfl⟩)
        | (at_mapUpdate; refine wpList_mapUpdate_own _ rfl _ _ _ 63 rfl 9 3 law_str Try.underlying63 _ b n _ rfl hown hml _ _ _ rfl rfl hkey _ [] (plainElem_int Try.underlying3 (wf_small hv0 hv1)) ?_; intro w1 hown1 hgrow1))
      go_end0
      exact ⟨rfl, some b, ⟨(hgrow1.block p hlt.1 (by simp; omega)).trans h.1, Hr.out, .inr ⟨b, _, rfl, hown1, cnt_put inj_str Hc.out (hown.tidy law_str).isMap (law_str.key hkey) hv⟩⟩,
        ⟨hgrow1.os, hgrow1.tape, hgrow1.output, hgrow1.size, fun i hi _ hb => hgrow1.block i hi hb⟩, fun b' e => .inl e⟩

set_option maxHeartbeats 1000000 in
theorem add_string (p : Nat) (ob : Option Nat) (n : Nat) (f : List UInt8 → Int) (k : List UInt8) (v : Int) (w : World) (h : Tally_string w p ob n f) (hk : k.length ≤ maxLen) (hn : n < 1000000) :
    Calls Try.prog 21 #[.pointer (some ⟨p, 0, none⟩), encStr k, .int .i64 v] w (SetPost_string p ob n (upd f k (heldN (f k) v)) (.int .i64 (heldN (f k) v)) w) := by
  have hf := h.2.1 k
  have hr := heldN_range (f k) v
  go_enter Try.func21, Try.ntmps21
  go_wp2_with (first
    | (go_at_call 22; refine (of_string p ob n f k _ h hk).mono ?_; rintro e w' ⟨rfl, rfl⟩)
    | (go_at_call 25; refine (held_any _ _ _ hf.1 hf.2).mono ?_; rintro e w' ⟨rfl, rfl⟩)
    | (go_at_call 35; refine (set_string p ob n f k _ _ h hk hn hr.1 hr.2).mono ?_; rintro e w' ⟨rfl, hq⟩))
  go_ret
  exact ⟨rfl, hq⟩
end Go.Proofs.Ytdoaacfonkgokaa
