/- Contracts of the packages below: Row, RowB, Blk, BlkLand. -/
import Derived.Laws.AppendOwnNone
import Derived.Laws.OwnMore
import Derived.Deep.RegionLaw
import Derived.OwnWalk
import Derived.Deep.AppendLies
import Derived.Maps.AppendAt
import Derived.Laws.Rows
import Derived.Deep.OwnRows
import Derived.Test.YtnadcdgpfopcaaaGreatGw
namespace Go.Proofs.YtnadcdgpfopcaaaGreat
open Go.RowKit

theorem int_parts : ∃ i, Tryz.prog.info? 3 = some i ∧ i.zero = some (.int .i64 0) ∧ i.size = 1 ∧ i.bytes = 8 := by
  have h := info_int
  cases e : Tryz.prog.info? 3 with
  | none => rw [e] at h; cases h
  | some i =>
    rw [e] at h
    simp only [Option.map_some, Option.some.injEq, Prod.mk.injEq] at h
    exact ⟨i, rfl, h.1, h.2.1, h.2.2⟩
/-- A row of ints of the call's own. -/
def IOwn (w : World) (base : Nat) (v : Value) (l : List Int) : Prop := w.ownsRow base 3 1 v l.length (l.map (Value.int .i64))
theorem arr_cells {w : World} {A : Option Addr} {l : List Int} (h : IA w A l) {ad : Addr} (e : A = some ad) : ∀ (j : Nat) (u : Value), (l.map (Value.int .i64))[j]? = some u → w.cell? (ad.add j) = some u := fun j u hu => by
  have hj : j < l.length := by
    rcases Nat.lt_or_ge j l.length with h' | h'
    · exact h'
    · rw [List.getElem?_eq_none (by simpa using h')] at hu; cases hu
  obtain ⟨B, o, e2, _, hc⟩ := h (by omega)
  obtain rfl : ad = ⟨B, o, none⟩ := by rw [e] at e2; exact Option.some.inj e2
  have ea : (⟨B, o, none⟩ : Addr).add j = ⟨B, o + j, none⟩ := by
    unfold Addr.add
    split
    · next e => subst e; rfl
    · rfl
  rw [ea, hc j hj]
  simpa [hj] using hu
theorem run_app {w : World} {base : Nat} {v : Value} {xs l : List Int} {A : Option Addr} {c : Nat} (ty : TypeId) (hown : IOwn w base v xs) (hl : IA w A l) (hA : A = none → l = [] ∧ c = 0) (h63 : xs.length + l.length ≤ 1000000) (hbase : base ≤ w.heap.size) :
    ∃ q cap w', (Builtin.append_ #[24, 24] ty #[v, .slice A l.length c]).run Tryz.prog w = .ok (.slice q (xs.length + l.length) cap) w' ∧ IOwn w' base (.slice q (xs.length + l.length) cap) (xs ++ l) ∧ w.grownBy w' v.ownBlock := by
  obtain ⟨i, hi, hz, hs, hb⟩ := int_parts
  cases A with
  | some ad =>
    obtain ⟨v', w', hr, h2, h3, _⟩ := run_append_own (P := Tryz.prog) (w := w) base 24 ty 3 i (.int .i64 0) 1 8 Tryz.underlying24 hi hz hs hb rfl (by omega) v xs.length (xs.map (Value.int .i64)) hown ad l.length c (l.map (Value.int .i64)) (by simp) (arr_cells hl rfl) (fun u hu => by obtain ⟨x, _, rfl⟩ := List.mem_map.1 hu; rfl) (by unfold maxLen; omega) (by omega) hbase
    obtain ⟨q, cap, rfl, _⟩ := own_slice h2
    exact ⟨q, cap, w', hr, by unfold IOwn; rw [List.length_append, List.map_append]; exact h2, h3⟩
  | none =>
    obtain ⟨rfl, rfl⟩ := hA rfl
    have hr := run_append_owned_none (P := Tryz.prog) (w := w) base 24 ty 3 i 1 Tryz.underlying24 hi v xs.length (xs.map (Value.int .i64)) hown
    obtain ⟨q, cap, rfl, _⟩ := own_slice hown
    exact ⟨q, cap, w, hr, by simpa using hown, ⟨rfl, rfl, rfl, Nat.le_refl _, fun _ _ _ => rfl⟩⟩
theorem oper_app {w : World} {o : Oper} {a : Act} {K : Act → World → Prop} {Q : Exit → Act → World → Prop} (s x : Operand) (ho : o.op = .call { callee := .builtin .append, args := #[s, x], argTypes := #[24, 24] })
    {base : Nat} {v : Value} {xs l : List Int} {A : Option Addr} {c : Nat} (hs : a.eval s = v) (hx : a.eval x = .slice A l.length c) (hown : IOwn w base v xs) (hl : IA w A l) (hA : A = none → l = [] ∧ c = 0) (h63 : xs.length + l.length ≤ 1000000) (hbase : base ≤ w.heap.size)
    (h : ∀ q cap w', IOwn w' base (.slice q (xs.length + l.length) cap) (xs ++ l) → w.grownBy w' v.ownBlock → K (a.put o.dst (.slice q (xs.length + l.length) cap)) w') : Oper.wp Tryz.prog o a w K Q := by
  obtain ⟨q, cap, w', hr, h2, h3⟩ := run_app o.type hown hl hA h63 hbase
  unfold Oper.wp execOp
  simp only [ho, resolve, invoke, builtin, Sem.run_bind, Sem.run_pure, Result.andThen_ok, List.map_toArray, List.map_cons, List.map_nil, hs, hx, hr]
  exact h q cap w' h2 h3
/-- In a region without a draw. -/
theorem wpList_app {w : World} {ops : Array Oper} {rest : List Oper} {o : Oper} {a : Act} {Q : Exit → Act → World → Prop} (hgd : o.guard = none) (s x : Operand) (ho : o.op = .call { callee := .builtin .append, args := #[s, x], argTypes := #[24, 24] })
    (base : Nat) (v : Value) (xs l : List Int) (A : Option Addr) (c : Nat) (hs : a.eval s = v) (hx : a.eval x = .slice A l.length c) (hown : IOwn w base v xs) (hl : IA w A l) (hA : A = none → l = [] ∧ c = 0) (h63 : xs.length + l.length ≤ 1000000) (hbase : base ≤ w.heap.size)
    (h : ∀ q cap w', IOwn w' base (.slice q (xs.length + l.length) cap) (xs ++ l) → w.grownBy w' v.ownBlock → wpList Tryz.prog ops Q rest (a.put o.dst (.slice q (xs.length + l.length) cap)) w') : wpList Tryz.prog ops Q (o :: rest) a w :=
  wpList_plain hgd fun _ hK => oper_app s x ho hs hx hown hl hA h63 hbase fun q cap w' h2 h3 => hK _ _ (h q cap w' h2 h3)
/-- As one step of a region that draws. -/
theorem step_app {w : World} {ops : Array Oper} {o : Oper} {a : Act} {K : Act → World → Prop} {Q : Exit → Act → World → Prop} {E : Prop} (hgd : o.guard = none) (s x : Operand) (ho : o.op = .call { callee := .builtin .append, args := #[s, x], argTypes := #[24, 24] })
    (base : Nat) (v : Value) (xs l : List Int) (A : Option Addr) (c : Nat) (hs : a.eval s = v) (hx : a.eval x = .slice A l.length c) (hown : IOwn w base v xs) (hl : IA w A l) (hA : A = none → l = [] ∧ c = 0) (h63 : xs.length + l.length ≤ 1000000) (hbase : base ≤ w.heap.size)
    (h : ∀ q cap w', IOwn w' base (.slice q (xs.length + l.length) cap) (xs ++ l) → w.grownBy w' v.ownBlock → K (a.put o.dst (.slice q (xs.length + l.length) cap)) w') :
    if Region.wanted o (yielded ops a.tmps) = true then Oper.wp Tryz.prog o a w K Q else E := by
  rw [if_pos (by simp [Region.wanted, hgd])]
  exact oper_app s x ho hs hx hown hl hA h63 hbase h
theorem iown_empty (w : World) (base : Nat) (h : base ≤ w.heap.size) : IOwn (w.alloc (.cells #[] 3)) base (.slice (some ⟨w.heap.size, 0, none⟩) 0 0) [] :=
  World.ownsRow_lit (base := base) (e := 3) (size := 1) w #[] 0 h (by omega) rfl
theorem iown_one (w : World) (x : Int) : IA (w.alloc (.cells #[.int .i64 x] 3)) (some ⟨w.heap.size, 0, none⟩) [x] := row_arr (l := [x]) (heap_alloc_new w (.cells #[.int .i64 x] 3))
theorem iown_one_at (w : World) (x : Int) {k : Nat} (h : k = w.heap.size) : IA (w.alloc (.cells #[.int .i64 x] 3)) (some ⟨k, 0, none⟩) [x] := by
  subst h
  exact iown_one w x
theorem IOwn.arr {w : World} {base c : Nat} {q : Option Addr} {l : List Int} {n : Nat} (h : IOwn w base (.slice q n c) l) : IA w q l ∧ n = l.length ∧ (∀ ad, q = some ad → base ≤ ad.block) := by
  have hx : n = l.length := by
    rcases h.2 with ⟨e, e2⟩ | ⟨g, cap, cur, e, _⟩
    · simp at e; omega
    · simp at e; omega
  subst hx
  refine ⟨fun hn => ?_, rfl, fun ad e => ?_⟩
  · rcases h.2 with ⟨_, e⟩ | ⟨g, cap, cur, e, _, hg, _⟩
    · omega
    · simp at e
      obtain ⟨rfl, rfl⟩ := e
      refine ⟨g, 0, rfl, (Array.getElem?_eq_some_iff.1 hg).1, fun j hj => ?_⟩
      have := h.cellAt j (by simpa using hj)
      rw [Nat.zero_add, this]
      simp [hj]
  · rcases h.2 with ⟨e2, _⟩ | ⟨g, cap, cur, e2, hb, _⟩
    · rw [e] at e2; cases e2
    · rw [e] at e2
      simp at e2
      obtain ⟨rfl, _⟩ := e2
      exact hb
theorem iown_keep {W W' : World} {B : Nat} {v : Value} {l : List Int} (h : IOwn W B v l) (hb : Below W.heap.size W W') : IOwn W' B v l := own_keep h fun k e => hb.block k (World.ownsRow.lt h k e).2
theorem iown_nil (W : World) (B : Nat) : IOwn W B (.slice none 0 0) [] := World.ownsRow_nil _ _ _ _
theorem iown_below {w0 w w' : World} {n : Nat} {v : Value} {xs : List Int} (h : IOwn w n v xs) (hb : Below n w0 w) (hg : w.grownBy w' v.ownBlock) (hn : n ≤ w.heap.size) : Below n w0 w' :=
  hb.grown hg hn fun k e => (World.ownsRow.lt h k e).1
end Go.Proofs.YtnadcdgpfopcaaaGreat

namespace Go.Proofs.YtnadcdgpfopcaaaGreat
open Go.RowKit

theorem info_bool : (Tryz.prog.info? 4).map (fun i => (i.zero, i.size, i.bytes)) = some (some (.bool false), 1, 1) := by kernel_rfl
theorem bool_parts : ∃ i, Tryz.prog.info? 4 = some i ∧ i.zero = some (.bool false) ∧ i.size = 1 ∧ i.bytes = 1 := by
  have h := info_bool
  cases e : Tryz.prog.info? 4 with
  | none => rw [e] at h; cases h
  | some i =>
    rw [e] at h
    simp only [Option.map_some, Option.some.injEq, Prod.mk.injEq] at h
    exact ⟨i, rfl, h.1, h.2.1, h.2.2⟩
/-- A row of ints of the call's own. -/
def BOwn (w : World) (base : Nat) (v : Value) (l : List Bool) : Prop := w.ownsRow base 4 1 v l.length (l.map (Value.bool))
theorem barr_cells {w : World} {A : Option Addr} {l : List Bool} (h : BA w A l) {ad : Addr} (e : A = some ad) : ∀ (j : Nat) (u : Value), (l.map (Value.bool))[j]? = some u → w.cell? (ad.add j) = some u := fun j u hu => by
  have hj : j < l.length := by
    rcases Nat.lt_or_ge j l.length with h' | h'
    · exact h'
    · rw [List.getElem?_eq_none (by simpa using h')] at hu; cases hu
  obtain ⟨B, o, e2, _, hc⟩ := h (by omega)
  obtain rfl : ad = ⟨B, o, none⟩ := by rw [e] at e2; exact Option.some.inj e2
  have ea : (⟨B, o, none⟩ : Addr).add j = ⟨B, o + j, none⟩ := by
    unfold Addr.add
    split
    · next e => subst e; rfl
    · rfl
  rw [ea, hc j hj]
  simpa [hj] using hu
theorem brow_cell {w : World} {g : Nat} {l : List Bool} {t : TypeId} (h : w.heap[g]? = some (.cells (l.map (Value.bool)).toArray t (0, 0))) (k : Nat) (hk : k < l.length) : w.cell? ⟨g, k, none⟩ = some (.bool l[k]) := by
  simp [World.cell?, h, hk]
theorem brow_arr {w : World} {g : Nat} {l : List Bool} {t : TypeId} (h : w.heap[g]? = some (.cells (l.map (Value.bool)).toArray t (0, 0))) : BA w (some ⟨g, 0, none⟩) l := fun _ =>
  ⟨g, 0, rfl, (Array.getElem?_eq_some_iff.1 h).1, fun j hj => by rw [Nat.zero_add]; exact brow_cell h j hj⟩
theorem run_appb {w : World} {base : Nat} {v : Value} {xs l : List Bool} {A : Option Addr} {c : Nat} (ty : TypeId) (hown : BOwn w base v xs) (hl : BA w A l) (hA : A = none → l = [] ∧ c = 0) (h63 : xs.length + l.length ≤ 1000000) (hbase : base ≤ w.heap.size) :
    ∃ q cap w', (Builtin.append_ #[39, 39] ty #[v, .slice A l.length c]).run Tryz.prog w = .ok (.slice q (xs.length + l.length) cap) w' ∧ BOwn w' base (.slice q (xs.length + l.length) cap) (xs ++ l) ∧ w.grownBy w' v.ownBlock := by
  obtain ⟨i, hi, hz, hs, hb⟩ := bool_parts
  cases A with
  | some ad =>
    obtain ⟨v', w', hr, h2, h3, _⟩ := run_append_own (P := Tryz.prog) (w := w) base 39 ty 4 i (.bool false) 1 1 Tryz.underlying39 hi hz hs hb rfl (by omega) v xs.length (xs.map (Value.bool)) hown ad l.length c (l.map (Value.bool)) (by simp) (barr_cells hl rfl) (fun u hu => by obtain ⟨x, _, rfl⟩ := List.mem_map.1 hu; rfl) (by unfold maxLen; omega) (by omega) hbase
    obtain ⟨q, cap, rfl, _⟩ := own_slice h2
    exact ⟨q, cap, w', hr, by unfold BOwn; rw [List.length_append, List.map_append]; exact h2, h3⟩
  | none =>
    obtain ⟨rfl, rfl⟩ := hA rfl
    have hr := run_append_owned_none (P := Tryz.prog) (w := w) base 39 ty 4 i 1 Tryz.underlying39 hi v xs.length (xs.map (Value.bool)) hown
    obtain ⟨q, cap, rfl, _⟩ := own_slice hown
    exact ⟨q, cap, w, hr, by simpa using hown, ⟨rfl, rfl, rfl, Nat.le_refl _, fun _ _ _ => rfl⟩⟩
theorem oper_appb {w : World} {o : Oper} {a : Act} {K : Act → World → Prop} {Q : Exit → Act → World → Prop} (s x : Operand) (ho : o.op = .call { callee := .builtin .append, args := #[s, x], argTypes := #[39, 39] })
    {base : Nat} {v : Value} {xs l : List Bool} {A : Option Addr} {c : Nat} (hs : a.eval s = v) (hx : a.eval x = .slice A l.length c) (hown : BOwn w base v xs) (hl : BA w A l) (hA : A = none → l = [] ∧ c = 0) (h63 : xs.length + l.length ≤ 1000000) (hbase : base ≤ w.heap.size)
    (h : ∀ q cap w', BOwn w' base (.slice q (xs.length + l.length) cap) (xs ++ l) → w.grownBy w' v.ownBlock → K (a.put o.dst (.slice q (xs.length + l.length) cap)) w') : Oper.wp Tryz.prog o a w K Q := by
  obtain ⟨q, cap, w', hr, h2, h3⟩ := run_appb o.type hown hl hA h63 hbase
  unfold Oper.wp execOp
  simp only [ho, resolve, invoke, builtin, Sem.run_bind, Sem.run_pure, Result.andThen_ok, List.map_toArray, List.map_cons, List.map_nil, hs, hx, hr]
  exact h q cap w' h2 h3
/-- In a region without a draw. -/
theorem wpList_appb {w : World} {ops : Array Oper} {rest : List Oper} {o : Oper} {a : Act} {Q : Exit → Act → World → Prop} (hgd : o.guard = none) (s x : Operand) (ho : o.op = .call { callee := .builtin .append, args := #[s, x], argTypes := #[39, 39] })
    (base : Nat) (v : Value) (xs l : List Bool) (A : Option Addr) (c : Nat) (hs : a.eval s = v) (hx : a.eval x = .slice A l.length c) (hown : BOwn w base v xs) (hl : BA w A l) (hA : A = none → l = [] ∧ c = 0) (h63 : xs.length + l.length ≤ 1000000) (hbase : base ≤ w.heap.size)
    (h : ∀ q cap w', BOwn w' base (.slice q (xs.length + l.length) cap) (xs ++ l) → w.grownBy w' v.ownBlock → wpList Tryz.prog ops Q rest (a.put o.dst (.slice q (xs.length + l.length) cap)) w') : wpList Tryz.prog ops Q (o :: rest) a w :=
  wpList_plain hgd fun _ hK => oper_appb s x ho hs hx hown hl hA h63 hbase fun q cap w' h2 h3 => hK _ _ (h q cap w' h2 h3)
/-- As one step of a region that draws. -/
theorem step_appb {w : World} {ops : Array Oper} {o : Oper} {a : Act} {K : Act → World → Prop} {Q : Exit → Act → World → Prop} {E : Prop} (hgd : o.guard = none) (s x : Operand) (ho : o.op = .call { callee := .builtin .append, args := #[s, x], argTypes := #[39, 39] })
    (base : Nat) (v : Value) (xs l : List Bool) (A : Option Addr) (c : Nat) (hs : a.eval s = v) (hx : a.eval x = .slice A l.length c) (hown : BOwn w base v xs) (hl : BA w A l) (hA : A = none → l = [] ∧ c = 0) (h63 : xs.length + l.length ≤ 1000000) (hbase : base ≤ w.heap.size)
    (h : ∀ q cap w', BOwn w' base (.slice q (xs.length + l.length) cap) (xs ++ l) → w.grownBy w' v.ownBlock → K (a.put o.dst (.slice q (xs.length + l.length) cap)) w') :
    if Region.wanted o (yielded ops a.tmps) = true then Oper.wp Tryz.prog o a w K Q else E := by
  rw [if_pos (by simp [Region.wanted, hgd])]
  exact oper_appb s x ho hs hx hown hl hA h63 hbase h
theorem bown_empty (w : World) (base : Nat) (h : base ≤ w.heap.size) : BOwn (w.alloc (.cells #[] 4)) base (.slice (some ⟨w.heap.size, 0, none⟩) 0 0) [] :=
  World.ownsRow_lit (base := base) (e := 4) (size := 1) w #[] 0 h (by omega) rfl
theorem bown_one (w : World) (x : Bool) : BA (w.alloc (.cells #[.bool x] 4)) (some ⟨w.heap.size, 0, none⟩) [x] := brow_arr (l := [x]) (heap_alloc_new w (.cells #[.bool x] 4))
theorem bown_one_at (w : World) (x : Bool) {k : Nat} (h : k = w.heap.size) : BA (w.alloc (.cells #[.bool x] 4)) (some ⟨k, 0, none⟩) [x] := by
  subst h
  exact bown_one w x
theorem BOwn.arr {w : World} {base c : Nat} {q : Option Addr} {l : List Bool} {n : Nat} (h : BOwn w base (.slice q n c) l) : BA w q l ∧ n = l.length ∧ (∀ ad, q = some ad → base ≤ ad.block) := by
  have hx : n = l.length := by
    rcases h.2 with ⟨e, e2⟩ | ⟨g, cap, cur, e, _⟩
    · simp at e; omega
    · simp at e; omega
  subst hx
  refine ⟨fun hn => ?_, rfl, fun ad e => ?_⟩
  · rcases h.2 with ⟨_, e⟩ | ⟨g, cap, cur, e, _, hg, _⟩
    · omega
    · simp at e
      obtain ⟨rfl, rfl⟩ := e
      refine ⟨g, 0, rfl, (Array.getElem?_eq_some_iff.1 hg).1, fun j hj => ?_⟩
      have := h.cellAt j (by simpa using hj)
      rw [Nat.zero_add, this]
      simp [hj]
  · rcases h.2 with ⟨e2, _⟩ | ⟨g, cap, cur, e2, hb, _⟩
    · rw [e] at e2; cases e2
    · rw [e] at e2
      simp at e2
      obtain ⟨rfl, _⟩ := e2
      exact hb
theorem bown_keep {W W' : World} {B : Nat} {v : Value} {l : List Bool} (h : BOwn W B v l) (hb : Below W.heap.size W W') : BOwn W' B v l := own_keep h fun k e => hb.block k (World.ownsRow.lt h k e).2
theorem bown_nil (W : World) (B : Nat) : BOwn W B (.slice none 0 0) [] := World.ownsRow_nil _ _ _ _
theorem bown_below {w0 w w' : World} {n : Nat} {v : Value} {xs : List Bool} (h : BOwn w n v xs) (hb : Below n w0 w) (hg : w.grownBy w' v.ownBlock) (hn : n ≤ w.heap.size) : Below n w0 w' :=
  hb.grown hg hn fun k e => (World.ownsRow.lt h k e).1
end Go.Proofs.YtnadcdgpfopcaaaGreat

namespace Go.Proofs.YtnadcdgpfopcaaaGreat
open Go.RowKit

def cleanB (b : Bk) : Bool := !b.bad && b.next == 0
def leftB (b : Bk) (pages : Int) : Int := if b.bad = true then 0 else if pages - b.next < 0 then 0 else if 9223372036854775807 < pages - b.next then 9223372036854775807 else pages - b.next
def badB (l : List Bk) : Nat := l.countP (·.bad)
/-- The places of those that are clean. -/
def cleansFrom : Nat → List Bk → List Int
  | _, [] => []
  | k, b :: r => if cleanB b = true then (k : Int) :: cleansFrom (k + 1) r else cleansFrom (k + 1) r
def cleansB (l : List Bk) : List Int := cleansFrom 0 l
theorem cleansFrom_snoc (k : Nat) (l : List Bk) (b : Bk) : cleansFrom k (l ++ [b]) = cleansFrom k l ++ if cleanB b = true then [((k + l.length : Nat) : Int)] else [] := by
  induction l generalizing k with
  | nil => simp [cleansFrom]
  | cons q r ih =>
    simp only [List.cons_append, cleansFrom, List.length_cons]
    rw [ih (k + 1), show k + 1 + r.length = k + (r.length + 1) by omega]
    split <;> simp
theorem cleans_take {l : List Bk} {j : Nat} (h : j < l.length) : cleansB (l.take (j + 1)) = cleansB (l.take j) ++ if cleanB l[j] = true then [(j : Int)] else [] := by
  unfold cleansB
  rw [List.take_succ_eq_append_getElem h, cleansFrom_snoc]
  simp
  split
  · simp; omega
  · rfl
theorem cleansFrom_len (k : Nat) (l : List Bk) : (cleansFrom k l).length = l.countP cleanB := by
  induction l generalizing k with
  | nil => rfl
  | cons b r ih =>
    simp only [cleansFrom, List.countP_cons]
    split <;> simp [ih]
theorem cleans_len (l : List Bk) : (cleansB l).length = l.countP cleanB := cleansFrom_len 0 l
theorem cleans_le (l : List Bk) : (cleansB l).length ≤ l.length := by rw [cleans_len]; exact List.countP_le_length
theorem bad_take {l : List Bk} {j : Nat} (h : j < l.length) : badB (l.take (j + 1)) = badB (l.take j) + if l[j].bad = true then 1 else 0 := by
  unfold badB
  rw [List.take_succ_eq_append_getElem h, List.countP_append, List.countP_singleton]
theorem bad_le (l : List Bk) : badB l ≤ l.length := List.countP_le_length

/-- A block's four cells at k of block B. -/
def BkC (w : World) (B k : Nat) (b : Bk) : Prop :=
  w.cell? ⟨B, k, none⟩ = some (.bool b.bad) ∧ w.cell? ⟨B, k + 1, none⟩ = some (.int .i64 b.next) ∧ w.cell? ⟨B, k + 2, none⟩ = some (.int .i64 b.count) ∧ ∃ A n c, w.cell? ⟨B, k + 3, none⟩ = some (.slice A n c)
theorem BkC.kept {w w' : World} {B k : Nat} {b : Bk} (h : BkC w B k b) (hk : w'.heap[B]? = w.heap[B]?) : BkC w' B k b := by
  obtain ⟨h1, h2, h3, A, n, c, h4⟩ := h
  exact ⟨(World.cell?_of_block (a := ⟨B, k, none⟩) hk).trans h1, (World.cell?_of_block (a := ⟨B, k + 1, none⟩) hk).trans h2, (World.cell?_of_block (a := ⟨B, k + 2, none⟩) hk).trans h3, A, n, c, (World.cell?_of_block (a := ⟨B, k + 3, none⟩) hk).trans h4⟩
/-- At A of w these blocks lie. -/
def BLies (w : World) (A : Option Addr) (l : List Bk) : Prop :=
  0 < l.length → ∃ B o, A = some ⟨B, o, none⟩ ∧ B < w.heap.size ∧ ∀ j (h : j < l.length), BkC w B (o + j * 4) l[j]
theorem BLies.below {w w' : World} {A : Option Addr} {l : List Bk} (h : BLies w A l) (hb : Below w.heap.size w w') : BLies w' A l := fun hn => by
  obtain ⟨B, o, e, hB, hc⟩ := h hn
  exact ⟨B, o, e, Nat.lt_of_lt_of_le hB hb.size, fun j hj => (hc j hj).kept (hb.block B hB)⟩
/-- Their numbers are ints. -/
def BWf (l : List Bk) : Prop := ∀ b ∈ l, (Lit.int .i64 b.next).wf = true
end Go.Proofs.YtnadcdgpfopcaaaGreat

namespace Go.Proofs.YtnadcdgpfopcaaaGreat
open Go.RowKit

/-- A block as a value. -/
abbrev bcV (b : Bk) (A : Option Addr) (n c : Nat) : Value := .agg #[.bool b.bad, .int .i64 b.next, .int .i64 b.count, .slice A n c]
set_option maxRecDepth 100000 in
set_option maxHeartbeats 1000000 in
theorem clean_any (b : Bk) (A : Option Addr) (n c : Nat) (w : World) : Calls Tryz.prog 108 #[bcV b A n c] w fun e w' => e = .returned (.bool (cleanB b)) ∧ Below w.heap.size w w' := by
  obtain ⟨bad, next, count, pages⟩ := b
  cases bad with
  | true =>
    go_enter Tryz.func108, Tryz.ntmps108
    go_wp2_with fail
    go_ret
    exact ⟨rfl, (Below.refl _ _).alloc (Nat.le_refl _) _⟩
  | false =>
    go_enter Tryz.func108, Tryz.ntmps108
    go_wp2_with fail
    go_ret
    exact ⟨ret_bool (by simp [cleanB]), (Below.refl _ _).alloc (Nat.le_refl _) _⟩
set_option maxRecDepth 100000 in
set_option maxHeartbeats 1000000 in
theorem left_any (b : Bk) (A : Option Addr) (n c : Nat) (pages : Int) (w : World) (h1 : (Lit.int .i64 b.next).wf = true) (h2 : (Lit.int .i64 pages).wf = true) : Calls Tryz.prog 161 #[bcV b A n c, .int .i64 pages] w fun e w' => e = .returned (.int .i64 (leftB b pages)) ∧ Below w.heap.size w w' := by
  obtain ⟨bad, next, count, pgs⟩ := b
  obtain ⟨k1, k3⟩ := wf_le h1
  obtain ⟨k2, k4⟩ := wf_le h2
  have k1' : -9223372036854775808 ≤ next := k1
  have k3' : next ≤ 9223372036854775807 := k3
  clear h1 h2 k1 k3
  cases bad with
  | true =>
    go_enter Tryz.func161, Tryz.ntmps161
    go_wp2_with fail
    go_ret
    exact ⟨rfl, (Below.refl _ _).alloc (Nat.le_refl _) _⟩
  | false =>
    by_cases c1 : pages ≤ next
    · go_enter Tryz.func161, Tryz.ntmps161
      go_wp2_with fail
      go_ret
      exact ⟨ret_int (by simp only [leftB]; rw [if_neg (by decide)]; split; rfl; rw [if_neg (by omega)]; omega), (Below.refl _ _).alloc (Nat.le_refl _) _⟩
    · by_cases c2 : next < 0
      · by_cases c3 : 9223372036854775807 + next < pages
        · go_enter Tryz.func161, Tryz.ntmps161
          go_wp2_with fail
          go_ret
          exact ⟨ret_int (by simp only [leftB]; rw [if_neg (by decide), if_neg (by omega), if_pos (by omega)]), (Below.refl _ _).alloc (Nat.le_refl _) _⟩
        · go_enter Tryz.func161, Tryz.ntmps161
          go_wp2_with fail
          go_ret
          exact ⟨ret_int (by simp only [leftB]; rw [if_neg (by decide), if_neg (by omega), if_neg (by omega)]), (Below.refl _ _).alloc (Nat.le_refl _) _⟩
      · go_enter Tryz.func161, Tryz.ntmps161
        go_wp2_with fail
        go_ret
        exact ⟨ret_int (by simp only [leftB]; rw [if_neg (by decide), if_neg (by omega), if_neg (by omega)]), (Below.refl _ _).alloc (Nat.le_refl _) _⟩
/-- A row that is filled from its beginning: what stands there behind j rounds. -/
def fillL {α β : Type} (f : α → β) (d : β) (l : List α) (j : Nat) : List β := (l.take j).map f ++ List.replicate (l.length - j) d
theorem fill_zero {α β : Type} (f : α → β) (d : β) (l : List α) : fillL f d l 0 = List.replicate l.length d := by simp [fillL]
theorem fill_all {α β : Type} (f : α → β) (d : β) (l : List α) : fillL f d l l.length = l.map f := by simp [fillL]
theorem fill_length {α β : Type} (f : α → β) (d : β) (l : List α) (j : Nat) (h : j ≤ l.length) : (fillL f d l j).length = l.length := by simp [fillL]; omega
theorem fill_set {α β : Type} (f : α → β) (d : β) (l : List α) (j : Nat) (h : j < l.length) : (fillL f d l j).set j (f l[j]) = fillL f d l (j + 1) := by
  unfold fillL
  rw [List.take_succ_eq_append_getElem h, List.set_append_right _ _ (by rw [List.length_map, List.length_take]; omega), show l.length - j = (l.length - (j + 1)) + 1 by omega, List.replicate_succ]
  have e : j - (List.map f (List.take j l)).length = 0 := by rw [List.length_map, List.length_take]; omega
  rw [e, List.map_append]
  simp
theorem made_bools (n : Nat) : madeCells #[Value.bool false] n = ((List.replicate n false).map Value.bool).toArray := by
  apply Array.ext
  · simp [madeCells]
  · intro i h1 h2
    simp [madeCells, Nat.mod_one]
theorem make_bools (n : Nat) (h : n ≤ 1000000) (w : World) : (Instr.makeSlice 39 (.int .i64 n) (.int .i64 n)).run Tryz.prog w = .ok (.slice (some ⟨w.heap.size, 0, none⟩) n n) (w.alloc (.cells (madeCells #[Value.bool false] n) 4)) :=
  run_make_row' 39 4 (.bool false) 1 Tryz.underlying39 info_bool rfl .i64 .i64 n (by omega) (by omega) w
theorem brow_set {w : World} {g : Nat} {l : List Bool} {t : TypeId} (h : w.heap[g]? = some (.cells (l.map Value.bool).toArray t (0, 0))) (k : Nat) (v : Bool) : (w.setCell ⟨g, k, none⟩ (.bool v)).heap[g]? = some (.cells ((l.set k v).map Value.bool).toArray t (0, 0)) := by
  rw [heap_setCell_same w g k _ t _ h]
  simp [List.map_set]
section
variable (A : Option Addr) (c : Nat) (l : List Bk) (w : World) (hl : l.length ≤ 1000) (hA : BLies w A l)
include hl hA
set_option maxRecDepth 100000 in
set_option maxHeartbeats 2000000 in
theorem bad_any : Calls Tryz.prog 36 #[.slice A l.length c] w fun e w' => e = .returned (.int .i64 (badB l : Int)) ∧ Below w.heap.size w w' := by
  have HA := Lib.hid hA
  clear hA
  go_enter Tryz.func36, Tryz.ntmps36
  go_wp2_with fail
  go_loopw [3, 8] (fun v3 v8 wr => ∃ j : Nat, j ≤ l.length ∧ v8 = .int .i64 j ∧ v3 = .int .i64 (badB (l.take j) : Int) ∧ Below w.heap.size w wr) (fun _ v8 _ => l.length - (intOf v8).toNat)
  case atStart => exact ⟨0, Nat.zero_le _, rfl, rfl, Below.refl _ _⟩
  case round =>
    obtain ⟨j, hj, rfl, rfl, hB⟩ := hrel
    have HB := Lib.hid hB
    have hs := hB.size
    clear hB
    by_cases hj1 : j < l.length
    · obtain ⟨B, o, rfl, hBs, hc⟩ := HA.out (by omega)
      obtain ⟨k0, k1, k2, A1, n1, c1, k3⟩ := (hc j hj1).kept (HB.out.block B hBs)
      have HT := Lib.hid (bad_take hj1)
      have hle := bad_le (l.take j)
      have hle2 : (l.take j).length ≤ 1000 := by simp; omega
      clear hc
      generalize badB (l.take j) = v at HT hle ⊢
      generalize l[j] = b at k0 k1 k2 HT
      obtain ⟨bad, next, count, pgs⟩ := b
      cases bad with
      | true =>
        go_wp2_with fail
        go_roundw
        case rel => exact ⟨j + 1, by omega, by go_num, by rw [HT.out]; go_num, HB.out.alloc HB.out.size _⟩
        case measure => simp [intOf]; omega
      | false =>
        go_wp2_with fail
        go_roundw
        case rel => exact ⟨j + 1, by omega, by go_num, by rw [HT.out]; go_num, HB.out.alloc HB.out.size _⟩
        case measure => simp [intOf]; omega
    · obtain rfl : j = l.length := by omega
      have hz := Lib.hid (show l.take l.length = l from List.take_length)
      go_wp2_with fail
      go_ret
      exact ⟨ret_int (by rw [hz.out]), HB.out⟩
/-- What a call leaves that tells ints in a row of its own. -/
def RowPost (xs : List Int) (w : World) (e : Ending) (w' : World) : Prop :=
  ∃ A c, e = .returned (.slice A xs.length c) ∧ IA w' A xs ∧ (∀ ad, A = some ad → w.heap.size ≤ ad.block) ∧ Below w.heap.size w w'
set_option maxRecDepth 100000 in
set_option maxHeartbeats 2000000 in
theorem cleans_any : Calls Tryz.prog 75 #[.slice A l.length c] w (RowPost (cleansB l) w) := by
  have HA := Lib.hid hA
  clear hA
  go_enter Tryz.func75, Tryz.ntmps75
  go_wp2_with fail
  go_loopw [3, 8] (fun v3 v8 wr => ∃ j : Nat, j ≤ l.length ∧ v8 = .int .i64 j ∧ IOwn wr w.heap.size v3 (cleansB (l.take j)) ∧ Below w.heap.size w wr) (fun _ v8 _ => l.length - (intOf v8).toNat)
  case atStart => exact ⟨0, Nat.zero_le _, rfl, iown_nil _ _, Below.refl _ _⟩
  case round =>
    obtain ⟨j, hj, rfl, hO, hB⟩ := hrel
    have HB := Lib.hid hB
    have HO := Lib.hid hO
    have hs := hB.size
    clear hB hO
    by_cases hj1 : j < l.length
    · obtain ⟨B, o, rfl, hBs, hc⟩ := HA.out (by omega)
      obtain ⟨k0, k1, k2, A1, n1, c1, k3⟩ := (hc j hj1).kept (HB.out.block B hBs)
      have HT := Lib.hid (cleans_take hj1)
      have hle := cleans_le (l.take j)
      have hle2 : (l.take j).length ≤ 1000 := by simp; omega
      clear hc
      generalize l[j] = b at k0 k1 k2 HT
      have HC := Lib.hid (fun w1 => clean_any b A1 n1 c1 w1)
      have HW1 := Lib.hid ((Below.refl wr.heap.size wr).alloc (Nat.le_refl _) (.cells #[.bool b.bad, .int .i64 b.next, .int .i64 b.count, .slice A1 n1 c1] 101))
      cases hcb : cleanB b with
      | true =>
        rw [hcb] at HC HT
        rw [if_pos rfl] at HT
        clear hcb
        generalize cleansB (l.take j) = xs at *
        obtain ⟨p, cap, rfl, _⟩ := own_slice HO.out
        go_wp2_with (first
          | (go_at_call 108; refine (HC.out _).mono ?_; rintro e w2 ⟨rfl, hb2⟩; have HB2 := Lib.hid (HW1.out.trans (hb2.mono (by simp))); have hs2 := hb2.size; clear hb2)
          | (at_builtin; refine wpList_app rfl _ _ rfl w.heap.size _ xs [(j : Int)] _ 1 rfl rfl (iown_keep (iown_keep HO.out HB2.out) ((Below.refl _ _).alloc (Nat.le_refl _) _)) (iown_one _ _) (by simp) (by simp; omega) (by simp at hs2 ⊢; omega) ?_; intro q cap2 w3 h3 hg3))
        go_roundw
        case rel => exact ⟨j + 1, by omega, by go_num, by rw [HT.out]; exact h3, iown_below (v := .slice p xs.length cap) (iown_keep (iown_keep HO.out HB2.out) ((Below.refl _ _).alloc (Nat.le_refl _) _)) ((HB.out.trans (HB2.out.mono HB.out.size)).alloc (by simp at hs2; omega) _) hg3 (by simp at hs2 ⊢; omega)⟩
        case measure => simp [intOf]; omega
      | false =>
        rw [hcb] at HC HT
        rw [if_neg (by decide), List.append_nil] at HT
        clear hcb
        go_wp2_with (go_at_call 108; refine (HC.out _).mono ?_; rintro e w2 ⟨rfl, hb2⟩; have HB2 := Lib.hid (HW1.out.trans (hb2.mono (by simp))); clear hb2)
        go_roundw
        case rel => exact ⟨j + 1, by omega, by go_num, by rw [HT.out]; exact iown_keep HO.out HB2.out, HB.out.trans (HB2.out.mono HB.out.size)⟩
        case measure => simp [intOf]; omega
    · obtain rfl : j = l.length := by omega
      have hz := Lib.hid (show l.take l.length = l from List.take_length)
      rw [hz.out] at HO
      obtain ⟨p, cap, rfl, _⟩ := own_slice HO.out
      go_wp2_with fail
      go_ret
      exact ⟨p, cap, rfl, HO.out.arr.1, HO.out.arr.2.2, HB.out⟩
set_option maxRecDepth 100000 in
set_option maxHeartbeats 2000000 in
theorem counts_any : Calls Tryz.prog 78 #[.slice A l.length c] w (RowPost (l.map (fun b : Bk => b.count)) w) := by
  have HA := Lib.hid hA
  clear hA
  have hmk := fun w1 : World => make_ints l.length (by omega) w1
  have HX0 := Lib.hid (heap_alloc_new w (.cells (madeCells #[Value.int .i64 0] l.length) 3))
  have HB0 := Lib.hid ((Below.refl w.heap.size w).alloc (Nat.le_refl _) (.cells (madeCells #[Value.int .i64 0] l.length) 3))
  have HE := Lib.hid (made_ints l.length)
  go_enter Tryz.func78, Tryz.ntmps78
  go_wp2_with fail
  rw [HE.out] at HX0 HB0 ⊢
  obtain ⟨G, hG⟩ : ∃ G, G = w.heap.size := ⟨_, rfl⟩
  have HG := Lib.hid hG
  rw [← hG] at HX0 ⊢
  generalize w.alloc (.cells _ 3) = w1 at HX0 HB0 ⊢
  clear hmk hG
  go_loopw [4, 11] (fun _ v11 wr => ∃ j : Nat, j ≤ l.length ∧ v11 = .int .i64 j ∧ wr.heap[G]? = some (.cells ((fillL (fun b : Bk => b.count) (0 : Int) l j).map (Value.int .i64)).toArray 3 (0, 0)) ∧ Below w.heap.size w wr) (fun _ v11 _ => l.length - (intOf v11).toNat)
  case atStart => exact ⟨0, Nat.zero_le _, rfl, by rw [fill_zero]; exact HX0.out, HB0.out⟩
  case round =>
    obtain ⟨j, hj, rfl, hx, hB⟩ := hrel
    have HX := Lib.hid hx
    have HB := Lib.hid hB
    have hs := hB.size
    have hGs := (Array.getElem?_eq_some_iff.1 hx).1
    clear hx hB
    by_cases hj1 : j < l.length
    · obtain ⟨B, o, rfl, hBs, hc⟩ := HA.out (by omega)
      obtain ⟨k0, k1, k2, A1, n1, c1, k3⟩ := (hc j hj1).kept (HB.out.block B hBs)
      have hjf : j < (fillL (fun b : Bk => b.count) (0 : Int) l j).length := by rw [fill_length _ _ _ _ hj]; exact hj1
      have HW1 := fun cs : Array Value => Lib.hid ((Below.refl wr.heap.size wr).alloc (Nat.le_refl _) (.cells cs 101))
      clear hc
      have HN := Lib.hid (fill_set (fun b : Bk => b.count) (0 : Int) l j hj1)
      generalize l[j] = b at k0 k1 k2 HN
      have hx2 : (wr.alloc (.cells #[.bool b.bad, .int .i64 b.next, .int .i64 b.count, .slice A1 n1 c1] 101)).heap[G]? = some (.cells ((fillL (fun b : Bk => b.count) (0 : Int) l j).map (Value.int .i64)).toArray 3 (0, 0)) := (heap_alloc_oldX _ _ hGs).trans HX.out
      have q0 := row_cell hx2 j hjf
      have q1 := row_frozen hx2 j
      have HXN := Lib.hid (row_set HX.out j (((fun b : Bk => b.count) : Bk → _) b))
      rw [HN.out] at HXN
      clear hx2
      generalize (fillL (fun b : Bk => b.count) (0 : Int) l j)[j] = old at q0
      go_wp2_with fail
      go_roundw
      case rel => exact ⟨j + 1, by omega, by go_num, (heap_alloc_oldX _ _ (by simpa using hGs)).trans HXN.out, (HB.out.setCell (p := ⟨G, j, none⟩) (by rw [HG.out]; exact Nat.le_refl _) _).alloc (by simp; omega) _⟩
      case measure => simp [intOf]; omega
    · obtain rfl : j = l.length := by omega
      have HZ := Lib.hid (fill_all (fun b : Bk => b.count) (0 : Int) l)
      go_wp2_with fail
      go_ret
      refine ⟨some ⟨G, 0, none⟩, l.length, ?_, ?_, fun ad e => ?_, HB.out⟩
      · rw [List.length_map]; rfl
      · rw [← HZ.out]; exact row_arr HX.out
      · cases e; rw [HG.out]; exact Nat.le_refl _
/-- As RowPost, of bools. -/
def RowBPost (xs : List Bool) (w : World) (e : Ending) (w' : World) : Prop :=
  ∃ A c, e = .returned (.slice A xs.length c) ∧ BA w' A xs ∧ (∀ ad, A = some ad → w.heap.size ≤ ad.block) ∧ Below w.heap.size w w'
set_option maxRecDepth 100000 in
set_option maxHeartbeats 2000000 in
theorem good_any : Calls Tryz.prog 79 #[.slice A l.length c] w (RowBPost (l.map (fun b : Bk => !b.bad)) w) := by
  have HA := Lib.hid hA
  clear hA
  have hmk := fun w1 : World => make_bools l.length (by omega) w1
  have HX0 := Lib.hid (heap_alloc_new w (.cells (madeCells #[Value.bool false] l.length) 4))
  have HB0 := Lib.hid ((Below.refl w.heap.size w).alloc (Nat.le_refl _) (.cells (madeCells #[Value.bool false] l.length) 4))
  have HE := Lib.hid (made_bools l.length)
  go_enter Tryz.func79, Tryz.ntmps79
  go_wp2_with fail
  rw [HE.out] at HX0 HB0 ⊢
  obtain ⟨G, hG⟩ : ∃ G, G = w.heap.size := ⟨_, rfl⟩
  have HG := Lib.hid hG
  rw [← hG] at HX0 ⊢
  generalize w.alloc (.cells _ 4) = w1 at HX0 HB0 ⊢
  clear hmk hG
  go_loopw [4, 11] (fun _ v11 wr => ∃ j : Nat, j ≤ l.length ∧ v11 = .int .i64 j ∧ wr.heap[G]? = some (.cells ((fillL (fun b : Bk => !b.bad) false l j).map Value.bool).toArray 4 (0, 0)) ∧ Below w.heap.size w wr) (fun _ v11 _ => l.length - (intOf v11).toNat)
  case atStart => exact ⟨0, Nat.zero_le _, rfl, by rw [fill_zero]; exact HX0.out, HB0.out⟩
  case round =>
    obtain ⟨j, hj, rfl, hx, hB⟩ := hrel
    have HX := Lib.hid hx
    have HB := Lib.hid hB
    have hs := hB.size
    have hGs := (Array.getElem?_eq_some_iff.1 hx).1
    clear hx hB
    by_cases hj1 : j < l.length
    · obtain ⟨B, o, rfl, hBs, hc⟩ := HA.out (by omega)
      obtain ⟨k0, k1, k2, A1, n1, c1, k3⟩ := (hc j hj1).kept (HB.out.block B hBs)
      have hjf : j < (fillL (fun b : Bk => !b.bad) false l j).length := by rw [fill_length _ _ _ _ hj]; exact hj1
      have HW1 := fun cs : Array Value => Lib.hid ((Below.refl wr.heap.size wr).alloc (Nat.le_refl _) (.cells cs 101))
      clear hc
      have HN := Lib.hid (fill_set (fun b : Bk => !b.bad) false l j hj1)
      generalize l[j] = b at k0 k1 k2 HN
      have hx2 : (wr.alloc (.cells #[.bool b.bad, .int .i64 b.next, .int .i64 b.count, .slice A1 n1 c1] 101)).heap[G]? = some (.cells ((fillL (fun b : Bk => !b.bad) false l j).map Value.bool).toArray 4 (0, 0)) := (heap_alloc_oldX _ _ hGs).trans HX.out
      have q0 := brow_cell hx2 j hjf
      have q1 := row_frozen hx2 j
      have HXN := Lib.hid (brow_set HX.out j (((fun b : Bk => !b.bad) : Bk → _) b))
      rw [HN.out] at HXN
      clear hx2
      generalize (fillL (fun b : Bk => !b.bad) false l j)[j] = old at q0
      go_wp2_with fail
      go_roundw
      case rel => exact ⟨j + 1, by omega, by go_num, (heap_alloc_oldX _ _ (by simpa using hGs)).trans HXN.out, (HB.out.setCell (p := ⟨G, j, none⟩) (by rw [HG.out]; exact Nat.le_refl _) _).alloc (by simp; omega) _⟩
      case measure => simp [intOf]; omega
    · obtain rfl : j = l.length := by omega
      have HZ := Lib.hid (fill_all (fun b : Bk => !b.bad) false l)
      go_wp2_with fail
      go_ret
      refine ⟨some ⟨G, 0, none⟩, l.length, ?_, ?_, fun ad e => ?_, HB.out⟩
      · rw [List.length_map]; rfl
      · rw [← HZ.out]; exact brow_arr HX.out
      · cases e; rw [HG.out]; exact Nat.le_refl _
end
end Go.Proofs.YtnadcdgpfopcaaaGreat
