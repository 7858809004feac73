/- A scan: the map from pages to numbers; a row of tables; best. -/
import Derived.Maps.OwnSet
import Derived.Maps.OwnIn
import Derived.Maps.RangeWalk
import Derived.Carry
import Derived.Test.YtnadcdgpfopcaaaMoI
namespace Go.Proofs.Ytnadcdgpfopcaaa
open Go.RowKit Go.Maps

def RLies (w : World) (A : Option Addr) (l : List P2) : Prop :=
  0 < l.length → ∃ B o, A = some ⟨B, o, none⟩ ∧ B < w.heap.size ∧ ∀ j (h : j < l.length), w.cell? ⟨B, o + j * 2, none⟩ = some (.int .i64 l[j].1) ∧ w.cell? ⟨B, o + j * 2 + 1, none⟩ = some (.int .i64 l[j].2)
/-- The number that a page has, of all that were named: the last one. -/
def pmStep (f : Int → Option Int) (r : P2) : Int → Option Int := fun k => if k = r.1 then some r.2 else f k
def pmF (L : List P2) : Int → Option Int := L.foldl pmStep fun _ => none
theorem pmF_snoc (L : List P2) (r : P2) : pmF (L ++ [r]) = pmStep (pmF L) r := by simp [pmF]
section
variable {w w' W : World} {mb n : Nat} {L : List P2}
theorem pkeyed : Keyed Try.prog 3 := int_keyed Try.underlying3
theorem pkey {a : Int} (h : (Lit.int .i64 a).wf = true) : keyOf Try.prog 3 (.int .i64 a) = some (.int .i64 a) := keyOf_int_mk Try.underlying3 h
theorem pzero (w : World) : (zeroValue 3).run Try.prog w = .ok (.int .i64 0) w := by kernel_rfl
/-- What the map says. -/
structure Pm (L : List P2) (D : DataW Unit) : Prop where
  tidy : Tidy D
  has : ∀ k : Int, (Lit.int .i64 k).wf = true → Maps.has D (.int .i64 k) = (pmF L k).isSome
  at_ : ∀ (k v : Int), (Lit.int .i64 k).wf = true → pmF L k = some v → D.atKey (.int .i64 k) (.lit (.int .i64 0)) = .lit (.int .i64 v)
  pages : ∀ k : Int, (Lit.int .i64 k).wf = true → (Maps.has D (.int .i64 k) = true ↔ k ∈ L.map (·.1))
  size : Maps.size D ≤ L.length
  nodup : Maps.size D = L.length ↔ (L.map (·.1)).Nodup
theorem Pm.zero : Pm [] (.map [] : DataW Unit) := ⟨tidy_empty, (fun _ _ => rfl), (fun _ _ _ h => nomatch h), (fun k _ => by simp [Maps.has]), by simp [Maps.size], by simp [Maps.size]⟩
theorem Pm.step {D : DataW Unit} (h : Pm L D) {r : P2} (hr : (Lit.int .i64 r.1).wf = true) : Pm (L ++ [r]) (D.put (.int .i64 r.1) (.lit (.int .i64 r.2))) := by
  have hkl := pkeyed.key (pkey hr)
  refine ⟨h.tidy.put hkl _, fun j hj => ?_, fun j v hj hv => ?_, fun j hj => ?_, ?_, ?_⟩
  · rw [pmF_snoc]
    unfold pmStep
    by_cases e : j = r.1
    · rw [if_pos e, e, has_put_same h.tidy.isMap hkl]; rfl
    · rw [if_neg e, has_put_other (by simpa using e), h.has j hj]
  · rw [pmF_snoc] at hv
    unfold pmStep at hv
    by_cases e : j = r.1
    · rw [if_pos e] at hv
      cases hv
      rw [e, atKey_put_same h.tidy.isMap hkl]
    · rw [if_neg e] at hv
      rw [atKey_put_other (by simpa using e)]
      exact h.at_ j v hj hv
  · by_cases e : j = r.1
    · rw [e, has_put_same h.tidy.isMap hkl]; simp
    · rw [has_put_other (by simpa using e), h.pages j hj]; simp [e]
  · rw [size_put h.tidy]
    have := h.size
    split <;> simp <;> omega
  · rw [size_put h.tidy, List.length_append, List.map_append, List.nodup_append]
    have h3 := h.size
    have h4 := h.nodup
    cases hh : Maps.has D (.int .i64 r.1) with
    | true =>
      have hm := (h.pages r.1 hr).1 hh
      simp only [if_true, List.length_singleton]
      constructor
      · intro e; omega
      · intro e; exact absurd rfl (e.2.2 r.1 hm r.1 (by simp))
    | false =>
      have hm : r.1 ∉ L.map (·.1) := fun e => by rw [(h.pages r.1 hr).2 e] at hh; cases hh
      simp only [Bool.false_eq_true, if_false, List.length_singleton]
      constructor
      · intro e; exact ⟨h4.1 (by omega), by simp, fun a ha b hb => by simp at hb; subst hb; exact fun e => hm (e ▸ ha)⟩
      · intro e; rw [h4.2 e.1]
/-- In memory. -/
def PmAt (w : World) (mb n : Nat) (L : List P2) : Prop := ∃ D : DataW Unit, w.ownsMap Try.prog 3 (plainElem Try.prog 3) mb n D ∧ Pm L D
theorem PmAt.kept (h : PmAt w mb n L) (e : w'.heap[mb]? = w.heap[mb]?) : PmAt w' mb n L := by
  obtain ⟨D, ⟨es, clock, he, r⟩, h2⟩ := h
  exact ⟨D, ⟨es, clock, e.trans he, r⟩, h2⟩
theorem PmAt.lt (h : PmAt w mb n L) : mb < w.heap.size := by
  obtain ⟨D, h1, -⟩ := h
  exact h1.lt

/-- A row of tables at G: each apart from the others; the blocks of x are none of theirs. -/
structure Tabs (w : World) (G B : Nat) (x : Nat → Prop) (Ts : Nat → List Fd) (p : Nat → Nat) (O : Nat → Nat → Prop) : Prop where
  row : ∀ b, b < B → w.cell? ⟨G, b, none⟩ = some (.pointer (some ⟨p b, 0, none⟩))
  tab : ∀ b, b < B → Tab w (p b) (fun k => k < w.heap.size ∧ ¬ O b k) (Ts b)
  apart : ∀ a b k, a < B → b < B → O a k → O b k → a = b
  own : ∀ b k, b < B → O b k → k < w.heap.size ∧ k ≠ G ∧ ¬ x k
  lt : G < w.heap.size
  there : ∀ b, x b → b < w.heap.size
variable {G B : Nat} {x y : Nat → Prop} {Ts : Nat → List Fd} {p : Nat → Nat} {O : Nat → Nat → Prop}
theorem Tabs.grow (h : Tabs w G B x Ts p O) (ht : Turned x w w') (hG : ¬ x G) : Tabs w' G B (fun b => x b ∨ New w w' b) Ts p O where
  row := fun b hb => (World.cell?_of_block (ht.block G h.lt hG)).trans (h.row b hb)
  tab := fun b hb => ((h.tab b hb).grow (ht.mono' fun k hk => ⟨h.there k hk, fun ho => (h.own b k hb ho).2.2 hk⟩)).less fun k hk => by
    rcases Nat.lt_or_ge k w.heap.size with k1 | k1
    · exact .inl ⟨k1, hk.2⟩
    · exact .inr ⟨k1, hk.1⟩
  apart := h.apart
  own := fun b k hb ho => by
    obtain ⟨a1, a2, a3⟩ := h.own b k hb ho
    exact ⟨Nat.lt_of_lt_of_le a1 ht.size, a2, fun hx => hx.elim a3 fun k2 => by have := k2.1; omega⟩
  lt := Nat.lt_of_lt_of_le h.lt ht.size
  there := fun b hb => hb.elim (fun k => Nat.lt_of_lt_of_le (h.there b k) ht.size) fun k => k.2
theorem Tabs.less (h : Tabs w G B x Ts p O) (hy : ∀ b, y b → x b) : Tabs w G B y Ts p O :=
  { h with own := fun b k hb ho => ⟨(h.own b k hb ho).1, (h.own b k hb ho).2.1, fun hx => (h.own b k hb ho).2.2 (hy k hx)⟩, there := fun b hb => h.there b (hy b hb) }
theorem Tabs.more (h : Tabs w G B x Ts p O) (hb : Below w.heap.size w w') : Tabs w' G B (fun b => x b ∨ New w w' b) Ts p O := by
  have h0 : Tabs w G B (fun b => x b ∧ b ≠ G) Ts p O := h.less fun _ k => k.1
  have h1 := h0.grow (.of_below hb) fun k => k.2 rfl
  exact { h1 with own := fun b k hb2 ho => ⟨(h1.own b k hb2 ho).1, (h1.own b k hb2 ho).2.1, fun hx => hx.elim (h.own b k hb2 ho).2.2 fun k2 => by have := (h.own b k hb2 ho).1; have := k2.1; omega⟩, there := fun b hb2 => hb2.elim (fun k => Nat.lt_of_lt_of_le (h.there b k) hb.size) fun k => k.2 }
theorem Tabs.below (h : Tabs w G B x Ts p O) (hb : Below w.heap.size w w') : Tabs w' G B x Ts p O := (h.more hb).less fun _ k => .inl k
def updT (Ts : Nat → List Fd) (b : Nat) (T : List Fd) : Nat → List Fd := fun k => if k = b then T else Ts k
/-- One table is turned; new blocks are its own. -/
theorem Tabs.put {b : Nat} {T : List Fd} (h : Tabs w G B x Ts p O) (hb : b < B) (ht : Tab w' (p b) (fun k => k < w.heap.size ∧ ¬ O b k) T) (hs : Safe (fun k => k < w.heap.size ∧ ¬ O b k) w w') : Tabs w' G B x (updT Ts b T) p (fun a k => O a k ∨ (a = b ∧ New w w' k)) ∧ Safe x w w' := by
  have hz := hs.size
  have hsx : Safe x w w' := ⟨hs.os, hs.tape, hs.output, hs.size, fun i hi k => hs.block hi ⟨hi, fun ho => (h.own b i hb ho).2.2 (Classical.byContradiction k)⟩⟩
  refine ⟨⟨fun a ha => ?_, fun a ha => ?_, fun a c k ha hc h1 h2 => ?_, fun a k ha hk => ?_, by have := h.lt; omega, fun k hk => Nat.lt_of_lt_of_le (h.there k hk) hz⟩, hsx⟩
  · exact (World.cell?_of_block (hs.block h.lt ⟨h.lt, fun ho => (h.own b G hb ho).2.1 rfl⟩)).trans (h.row a ha)
  · unfold updT
    by_cases e : a = b
    · subst e
      rw [if_pos rfl]
      exact ht.less fun k hk => ⟨by
        rcases Nat.lt_or_ge k w.heap.size with k1 | k1
        · exact k1
        · exact absurd (.inr ⟨rfl, k1, hk.1⟩) hk.2, fun ho => hk.2 (.inl ho)⟩
    · rw [if_neg e]
      have ht2 : Turned (fun k => k < w.heap.size ∧ ¬ O a k) w w' := ⟨hs.os, hs.tape, hs.output, hs.size, fun i hi k => hs.block hi ⟨hi, fun ho => k ⟨hi, fun ho2 => e (h.apart a b i ha hb ho2 ho)⟩⟩⟩
      refine ((h.tab a ha).grow ht2).less fun k hk => ?_
      rcases Nat.lt_or_ge k w.heap.size with k1 | k1
      · exact .inl ⟨k1, fun ho => hk.2 (.inl ho)⟩
      · exact .inr ⟨k1, hk.1⟩
  · rcases h1 with h1 | ⟨rfl, h1⟩ <;> rcases h2 with h2 | ⟨rfl, h2⟩
    · exact h.apart a c k ha hc h1 h2
    · have := (h.own a k ha h1).1; have := h2.1; omega
    · have := (h.own c k hc h2).1; have := h1.1; omega
    · rfl
  · rcases hk with hk | ⟨rfl, hk⟩
    · obtain ⟨a1, a2, a3⟩ := h.own a k ha hk
      exact ⟨by omega, a2, a3⟩
    · exact ⟨hk.2, by have := h.lt; have := hk.1; omega, fun hx => by have := h.there k hx; have := hk.1; omega⟩
end
end Go.Proofs.Ytnadcdgpfopcaaa
