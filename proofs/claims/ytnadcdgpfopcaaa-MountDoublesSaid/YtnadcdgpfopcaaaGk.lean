/- Contracts of the packages below: Row, RowB. -/
import Derived.Laws.AppendOwnNone
import Derived.Laws.OwnMore
import Derived.Deep.RegionLaw
import Derived.OwnWalk
import Derived.Deep.AppendLies
import Derived.Maps.AppendAt
import Derived.Laws.Rows
import Derived.Deep.OwnRows
import Derived.Test.YtnadcdgpfopcaaaGc
namespace Go.Proofs.Ytnadcdgpfopcaaa
open Go.RowKit

/-- At A of w this list lies. -/
def Arr {α : Type} (enc : α → Value) (w : World) (A : Option Addr) (l : List α) : Prop :=
  0 < l.length → ∃ B o, A = some ⟨B, o, none⟩ ∧ B < w.heap.size ∧ ∀ j (h : j < l.length), w.cell? ⟨B, o + j, none⟩ = some (enc l[j])
theorem Arr.below {α : Type} {enc : α → Value} {w w' : World} {A : Option Addr} {l : List α} (h : Arr enc w A l) (hb : Below w.heap.size w w') : Arr enc w' A l := fun hn => by
  obtain ⟨B, o, e, hB, hc⟩ := h hn
  exact ⟨B, o, e, Nat.lt_of_lt_of_le hB hb.size, fun j hj => (hb.cell (p := ⟨B, o + j, none⟩) hB).trans (hc j hj)⟩
theorem wf_le {x : Int} (h : (Lit.int .i64 x).wf = true) : -9223372036854775808 ≤ x ∧ x ≤ 9223372036854775807 := by
  have h0 : IntKind.min .i64 = -9223372036854775808 := by decide
  have h1 : IntKind.max .i64 = 9223372036854775807 := by decide
  simpa [Lit.wf, h0, h1] using h
abbrev IA := Arr (Value.int .i64)
abbrev BA := Arr Value.bool
theorem info_int : (Try.prog.info? 3).map (fun i => (i.zero, i.size, i.bytes)) = some (some (.int .i64 0), 1, 8) := by kernel_rfl
theorem int_parts : ∃ i, Try.prog.info? 3 = some i ∧ i.zero = some (.int .i64 0) ∧ i.size = 1 ∧ i.bytes = 8 := by
  have h := info_int
  cases e : Try.prog.info? 3 with
  | none => rw [e] at h; cases h
  | some i =>
    rw [e] at h
    simp only [Option.map_some, Option.some.injEq, Prod.mk.injEq] at h
    exact ⟨i, rfl, h.1, h.2.1, h.2.2⟩
theorem row_cell {w : World} {g : Nat} {l : List Int} {t : TypeId} (h : w.heap[g]? = some (.cells (l.map (Value.int .i64)).toArray t (0, 0))) (k : Nat) (hk : k < l.length) : w.cell? ⟨g, k, none⟩ = some (.int .i64 l[k]) := by
  simp [World.cell?, h, hk]
theorem row_arr {w : World} {g : Nat} {l : List Int} {t : TypeId} (h : w.heap[g]? = some (.cells (l.map (Value.int .i64)).toArray t (0, 0))) : IA w (some ⟨g, 0, none⟩) l := fun _ =>
  ⟨g, 0, rfl, (Array.getElem?_eq_some_iff.1 h).1, fun j hj => by rw [Nat.zero_add]; exact row_cell h j hj⟩
theorem row_frozen {w : World} {p : Nat} {cs : Array Value} {t : TypeId} (h : w.heap[p]? = some (.cells cs t (0, 0))) (j : Nat) : w.frozen? ⟨p, j, none⟩ = false := by
  simp [World.frozen?, h]
/-- A row of ints of the call's own. -/
def IOwn (w : World) (base : Nat) (v : Value) (l : List Int) : Prop := w.ownsRow base 3 1 v l.length (l.map (Value.int .i64))
theorem arr_cells {w : World} {A : Option Addr} {l : List Int} (h : IA w A l) {ad : Addr} (e : A = some ad) : ∀ (j : Nat) (u : Value), (l.map (Value.int .i64))[j]? = some u → w.cell? (ad.add j) = some u := fun j u hu => by
  have hj : j < l.length := by
    rcases Nat.lt_or_ge j l.length with h' | h'
    · exact h'
    · rw [List.getElem?_eq_none (by simpa using h')] at hu; cases hu
  obtain ⟨B, o, e2, _, hc⟩ := h (by omega)
  obtain rfl : ad = ⟨B, o, none⟩ := by rw [e] at e2; exact Option.some.inj e2
  have ea : (⟨B, o, none⟩ : Addr).add j = ⟨B, o + j, none⟩ := by
    unfold Addr.add
    split
    · next e => subst e; rfl
    · rfl
  rw [ea, hc j hj]
  simpa [hj] using hu
theorem run_app {w : World} {base : Nat} {v : Value} {xs l : List Int} {A : Option Addr} {c : Nat} (ty : TypeId) (hown : IOwn w base v xs) (hl : IA w A l) (hA : A = none → l = [] ∧ c = 0) (h63 : xs.length + l.length ≤ 1000000) (hbase : base ≤ w.heap.size) :
    ∃ q cap w', (Builtin.append_ #[69, 69] ty #[v, .slice A l.length c]).run Try.prog w = .ok (.slice q (xs.length + l.length) cap) w' ∧ IOwn w' base (.slice q (xs.length + l.length) cap) (xs ++ l) ∧ w.grownBy w' v.ownBlock := by
  obtain ⟨i, hi, hz, hs, hb⟩ := int_parts
  cases A with
  | some ad =>
    obtain ⟨v', w', hr, h2, h3, _⟩ := run_append_own (P := Try.prog) (w := w) base 69 ty 3 i (.int .i64 0) 1 8 Try.underlying69 hi hz hs hb rfl (by omega) v xs.length (xs.map (Value.int .i64)) hown ad l.length c (l.map (Value.int .i64)) (by simp) (arr_cells hl rfl) (fun u hu => by obtain ⟨x, _, rfl⟩ := List.mem_map.1 hu; rfl) (by unfold maxLen; omega) (by omega) hbase
    obtain ⟨q, cap, rfl, _⟩ := own_slice h2
    exact ⟨q, cap, w', hr, by unfold IOwn; rw [List.length_append, List.map_append]; exact h2, h3⟩
  | none =>
    obtain ⟨rfl, rfl⟩ := hA rfl
    have hr := run_append_owned_none (P := Try.prog) (w := w) base 69 ty 3 i 1 Try.underlying69 hi v xs.length (xs.map (Value.int .i64)) hown
    obtain ⟨q, cap, rfl, _⟩ := own_slice hown
    exact ⟨q, cap, w, hr, by simpa using hown, ⟨rfl, rfl, rfl, Nat.le_refl _, fun _ _ _ => rfl⟩⟩
theorem oper_app {w : World} {o : Oper} {a : Act} {K : Act → World → Prop} {Q : Exit → Act → World → Prop} (s x : Operand) (ho : o.op = .call { callee := .builtin .append, args := #[s, x], argTypes := #[69, 69] })
    {base : Nat} {v : Value} {xs l : List Int} {A : Option Addr} {c : Nat} (hs : a.eval s = v) (hx : a.eval x = .slice A l.length c) (hown : IOwn w base v xs) (hl : IA w A l) (hA : A = none → l = [] ∧ c = 0) (h63 : xs.length + l.length ≤ 1000000) (hbase : base ≤ w.heap.size)
    (h : ∀ q cap w', IOwn w' base (.slice q (xs.length + l.length) cap) (xs ++ l) → w.grownBy w' v.ownBlock → K (a.put o.dst (.slice q (xs.length + l.length) cap)) w') : Oper.wp Try.prog o a w K Q := by
  obtain ⟨q, cap, w', hr, h2, h3⟩ := run_app o.type hown hl hA h63 hbase
  unfold Oper.wp execOp
  simp only [ho, resolve, invoke, builtin, Sem.run_bind, Sem.run_pure, Result.andThen_ok, List.map_toArray, List.map_cons, List.map_nil, hs, hx, hr]
  exact h q cap w' h2 h3
/-- In a region without a draw. -/
theorem wpList_app {w : World} {ops : Array Oper} {rest : List Oper} {o : Oper} {a : Act} {Q : Exit → Act → World → Prop} (hgd : o.guard = none) (s x : Operand) (ho : o.op = .call { callee := .builtin .append, args := #[s, x], argTypes := #[69, 69] })
    (base : Nat) (v : Value) (xs l : List Int) (A : Option Addr) (c : Nat) (hs : a.eval s = v) (hx : a.eval x = .slice A l.length c) (hown : IOwn w base v xs) (hl : IA w A l) (hA : A = none → l = [] ∧ c = 0) (h63 : xs.length + l.length ≤ 1000000) (hbase : base ≤ w.heap.size)
    (h : ∀ q cap w', IOwn w' base (.slice q (xs.length + l.length) cap) (xs ++ l) → w.grownBy w' v.ownBlock → wpList Try.prog ops Q rest (a.put o.dst (.slice q (xs.length + l.length) cap)) w') : wpList Try.prog ops Q (o :: rest) a w :=
  wpList_plain hgd fun _ hK => oper_app s x ho hs hx hown hl hA h63 hbase fun q cap w' h2 h3 => hK _ _ (h q cap w' h2 h3)
/-- As one step of a region that draws. -/
theorem step_app {w : World} {ops : Array Oper} {o : Oper} {a : Act} {K : Act → World → Prop} {Q : Exit → Act → World → Prop} {E : Prop} (hgd : o.guard = none) (s x : Operand) (ho : o.op = .call { callee := .builtin .append, args := #[s, x], argTypes := #[69, 69] })
    (base : Nat) (v : Value) (xs l : List Int) (A : Option Addr) (c : Nat) (hs : a.eval s = v) (hx : a.eval x = .slice A l.length c) (hown : IOwn w base v xs) (hl : IA w A l) (hA : A = none → l = [] ∧ c = 0) (h63 : xs.length + l.length ≤ 1000000) (hbase : base ≤ w.heap.size)
    (h : ∀ q cap w', IOwn w' base (.slice q (xs.length + l.length) cap) (xs ++ l) → w.grownBy w' v.ownBlock → K (a.put o.dst (.slice q (xs.length + l.length) cap)) w') :
    if Region.wanted o (yielded ops a.tmps) = true then Oper.wp Try.prog o a w K Q else E := by
  rw [if_pos (by simp [Region.wanted, hgd])]
  exact oper_app s x ho hs hx hown hl hA h63 hbase h
theorem iown_empty (w : World) (base : Nat) (h : base ≤ w.heap.size) : IOwn (w.alloc (.cells #[] 3)) base (.slice (some ⟨w.heap.size, 0, none⟩) 0 0) [] :=
  World.ownsRow_lit (base := base) (e := 3) (size := 1) w #[] 0 h (by omega) rfl
theorem iown_one (w : World) (x : Int) : IA (w.alloc (.cells #[.int .i64 x] 3)) (some ⟨w.heap.size, 0, none⟩) [x] := row_arr (l := [x]) (heap_alloc_new w (.cells #[.int .i64 x] 3))
theorem iown_one_at (w : World) (x : Int) {k : Nat} (h : k = w.heap.size) : IA (w.alloc (.cells #[.int .i64 x] 3)) (some ⟨k, 0, none⟩) [x] := by
  subst h
  exact iown_one w x
theorem IOwn.arr {w : World} {base c : Nat} {q : Option Addr} {l : List Int} {n : Nat} (h : IOwn w base (.slice q n c) l) : IA w q l ∧ n = l.length ∧ (∀ ad, q = some ad → base ≤ ad.block) := by
  have hx : n = l.length := by
    rcases h.2 with ⟨e, e2⟩ | ⟨g, cap, cur, e, _⟩
    · simp at e; omega
    · simp at e; omega
  subst hx
  refine ⟨fun hn => ?_, rfl, fun ad e => ?_⟩
  · rcases h.2 with ⟨_, e⟩ | ⟨g, cap, cur, e, _, hg, _⟩
    · omega
    · simp at e
      obtain ⟨rfl, rfl⟩ := e
      refine ⟨g, 0, rfl, (Array.getElem?_eq_some_iff.1 hg).1, fun j hj => ?_⟩
      have := h.cellAt j (by simpa using hj)
      rw [Nat.zero_add, this]
      simp [hj]
  · rcases h.2 with ⟨e2, _⟩ | ⟨g, cap, cur, e2, hb, _⟩
    · rw [e] at e2; cases e2
    · rw [e] at e2
      simp at e2
      obtain ⟨rfl, _⟩ := e2
      exact hb
theorem addr_at (B o j : Nat) : (⟨B, o, none⟩ : Addr).add j = ⟨B, o + j, none⟩ := by
  unfold Addr.add
  split
  · next e => subst e; rfl
  · rfl
theorem iown_keep {W W' : World} {B : Nat} {v : Value} {l : List Int} (h : IOwn W B v l) (hb : Below W.heap.size W W') : IOwn W' B v l := own_keep h fun k e => hb.block k (World.ownsRow.lt h k e).2
theorem iown_nil (W : World) (B : Nat) : IOwn W B (.slice none 0 0) [] := World.ownsRow_nil _ _ _ _
theorem iown_below {w0 w w' : World} {n : Nat} {v : Value} {xs : List Int} (h : IOwn w n v xs) (hb : Below n w0 w) (hg : w.grownBy w' v.ownBlock) (hn : n ≤ w.heap.size) : Below n w0 w' :=
  hb.grown hg hn fun k e => (World.ownsRow.lt h k e).1
end Go.Proofs.Ytnadcdgpfopcaaa

namespace Go.Proofs.Ytnadcdgpfopcaaa
open Go.RowKit

theorem info_bool : (Try.prog.info? 4).map (fun i => (i.zero, i.size, i.bytes)) = some (some (.bool false), 1, 1) := by kernel_rfl
theorem bool_parts : ∃ i, Try.prog.info? 4 = some i ∧ i.zero = some (.bool false) ∧ i.size = 1 ∧ i.bytes = 1 := by
  have h := info_bool
  cases e : Try.prog.info? 4 with
  | none => rw [e] at h; cases h
  | some i =>
    rw [e] at h
    simp only [Option.map_some, Option.some.injEq, Prod.mk.injEq] at h
    exact ⟨i, rfl, h.1, h.2.1, h.2.2⟩
/-- A row of ints of the call's own. -/
def BOwn (w : World) (base : Nat) (v : Value) (l : List Bool) : Prop := w.ownsRow base 4 1 v l.length (l.map (Value.bool))
theorem barr_cells {w : World} {A : Option Addr} {l : List Bool} (h : BA w A l) {ad : Addr} (e : A = some ad) : ∀ (j : Nat) (u : Value), (l.map (Value.bool))[j]? = some u → w.cell? (ad.add j) = some u := fun j u hu => by
  have hj : j < l.length := by
    rcases Nat.lt_or_ge j l.length with h' | h'
    · exact h'
    · rw [List.getElem?_eq_none (by simpa using h')] at hu; cases hu
  obtain ⟨B, o, e2, _, hc⟩ := h (by omega)
  obtain rfl : ad = ⟨B, o, none⟩ := by rw [e] at e2; exact Option.some.inj e2
  have ea : (⟨B, o, none⟩ : Addr).add j = ⟨B, o + j, none⟩ := by
    unfold Addr.add
    split
    · next e => subst e; rfl
    · rfl
  rw [ea, hc j hj]
  simpa [hj] using hu
theorem brow_cell {w : World} {g : Nat} {l : List Bool} {t : TypeId} (h : w.heap[g]? = some (.cells (l.map (Value.bool)).toArray t (0, 0))) (k : Nat) (hk : k < l.length) : w.cell? ⟨g, k, none⟩ = some (.bool l[k]) := by
  simp [World.cell?, h, hk]
theorem brow_arr {w : World} {g : Nat} {l : List Bool} {t : TypeId} (h : w.heap[g]? = some (.cells (l.map (Value.bool)).toArray t (0, 0))) : BA w (some ⟨g, 0, none⟩) l := fun _ =>
  ⟨g, 0, rfl, (Array.getElem?_eq_some_iff.1 h).1, fun j hj => by rw [Nat.zero_add]; exact brow_cell h j hj⟩
theorem bown_empty (w : World) (base : Nat) (h : base ≤ w.heap.size) : BOwn (w.alloc (.cells #[] 4)) base (.slice (some ⟨w.heap.size, 0, none⟩) 0 0) [] :=
  World.ownsRow_lit (base := base) (e := 4) (size := 1) w #[] 0 h (by omega) rfl
theorem bown_one (w : World) (x : Bool) : BA (w.alloc (.cells #[.bool x] 4)) (some ⟨w.heap.size, 0, none⟩) [x] := brow_arr (l := [x]) (heap_alloc_new w (.cells #[.bool x] 4))
theorem bown_one_at (w : World) (x : Bool) {k : Nat} (h : k = w.heap.size) : BA (w.alloc (.cells #[.bool x] 4)) (some ⟨k, 0, none⟩) [x] := by
  subst h
  exact bown_one w x
theorem BOwn.arr {w : World} {base c : Nat} {q : Option Addr} {l : List Bool} {n : Nat} (h : BOwn w base (.slice q n c) l) : BA w q l ∧ n = l.length ∧ (∀ ad, q = some ad → base ≤ ad.block) := by
  have hx : n = l.length := by
    rcases h.2 with ⟨e, e2⟩ | ⟨g, cap, cur, e, _⟩
    · simp at e; omega
    · simp at e; omega
  subst hx
  refine ⟨fun hn => ?_, rfl, fun ad e => ?_⟩
  · rcases h.2 with ⟨_, e⟩ | ⟨g, cap, cur, e, _, hg, _⟩
    · omega
    · simp at e
      obtain ⟨rfl, rfl⟩ := e
      refine ⟨g, 0, rfl, (Array.getElem?_eq_some_iff.1 hg).1, fun j hj => ?_⟩
      have := h.cellAt j (by simpa using hj)
      rw [Nat.zero_add, this]
      simp [hj]
  · rcases h.2 with ⟨e2, _⟩ | ⟨g, cap, cur, e2, hb, _⟩
    · rw [e] at e2; cases e2
    · rw [e] at e2
      simp at e2
      obtain ⟨rfl, _⟩ := e2
      exact hb
theorem bown_keep {W W' : World} {B : Nat} {v : Value} {l : List Bool} (h : BOwn W B v l) (hb : Below W.heap.size W W') : BOwn W' B v l := own_keep h fun k e => hb.block k (World.ownsRow.lt h k e).2
theorem bown_nil (W : World) (B : Nat) : BOwn W B (.slice none 0 0) [] := World.ownsRow_nil _ _ _ _
theorem bown_below {w0 w w' : World} {n : Nat} {v : Value} {xs : List Bool} (h : BOwn w n v xs) (hb : Below n w0 w) (hg : w.grownBy w' v.ownBlock) (hn : n ≤ w.heap.size) : Below n w0 w' :=
  hb.grown hg hn fun k e => (World.ownsRow.lt h k e).1
end Go.Proofs.Ytnadcdgpfopcaaa
