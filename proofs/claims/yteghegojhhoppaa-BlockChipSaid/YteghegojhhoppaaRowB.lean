/- Rows of bools, as Row has them of ints; of no program. -/
import Derived.Test.YteghegojhhoppaaRow
namespace Go.Proofs.Yteghegojhhoppaa
open Go.RowKit

theorem info_bool : (Try.prog.info? 4).map (fun i => (i.zero, i.size, i.bytes)) = some (some (.bool false), 1, 1) := by kernel_rfl
theorem bool_parts : ∃ i, Try.prog.info? 4 = some i ∧ i.zero = some (.bool false) ∧ i.size = 1 ∧ i.bytes = 1 := by
  have h := info_bool
  cases e : Try.prog.info? 4 with
  | none => rw [e] at h; cases h
  | some i =>
    rw [e] at h
    simp only [Option.map_some, Option.some.injEq, Prod.mk.injEq] at h
    exact ⟨i, rfl, h.1, h.2.1, h.2.2⟩
/-- A row of ints of the call's own. -/
def BOwn (w : World) (base : Nat) (v : Value) (l : List Bool) : Prop := w.ownsRow base 4 1 v l.length (l.map (Value.bool))
theorem barr_cells {w : World} {A : Option Addr} {l : List Bool} (h : BA w A l) {ad : Addr} (e : A = some ad) : ∀ (j : Nat) (u : Value), (l.map (Value.bool))[j]? = some u → w.cell? (ad.add j) = some u := fun j u hu => by
  have hj : j < l.length := by
    rcases Nat.lt_or_ge j l.length with h' | h'
    · exact h'
    · rw [List.getElem?_eq_none (by simpa using h')] at hu; cases hu
  obtain ⟨B, o, e2, _, hc⟩ := h (by omega)
  obtain rfl : ad = ⟨B, o, none⟩ := by rw [e] at e2; exact Option.some.inj e2
  have ea : (⟨B, o, none⟩ : Addr).add j = ⟨B, o + j, none⟩ := by
    unfold Addr.add
    split
    · next e => subst e; rfl
    · rfl
  rw [ea, hc j hj]
  simpa [hj] using hu
theorem brow_cell {w : World} {g : Nat} {l : List Bool} {t : TypeId} (h : w.heap[g]? = some (.cells (l.map (Value.bool)).toArray t (0, 0))) (k : Nat) (hk : k < l.length) : w.cell? ⟨g, k, none⟩ = some (.bool l[k]) := by
  simp [World.cell?, h, hk]
theorem brow_arr {w : World} {g : Nat} {l : List Bool} {t : TypeId} (h : w.heap[g]? = some (.cells (l.map (Value.bool)).toArray t (0, 0))) : BA w (some ⟨g, 0, none⟩) l := fun _ =>
  ⟨g, 0, rfl, (Array.getElem?_eq_some_iff.1 h).1, fun j hj => by rw [Nat.zero_add]; exact brow_cell h j hj⟩
theorem run_appb {w : World} {base : Nat} {v : Value} {xs l : List Bool} {A : Option Addr} {c : Nat} (ty : TypeId) (hown : BOwn w base v xs) (hl : BA w A l) (hA : A = none → l = [] ∧ c = 0) (h63 : xs.length + l.length ≤ 1000000) (hbase : base ≤ w.heap.size) :
    ∃ q cap w', (Builtin.append_ #[33, 33] ty #[v, .slice A l.length c]).run Try.prog w = .ok (.slice q (xs.length + l.length) cap) w' ∧ BOwn w' base (.slice q (xs.length + l.length) cap) (xs ++ l) ∧ w.grownBy w' v.ownBlock := by
  obtain ⟨i, hi, hz, hs, hb⟩ := bool_parts
  cases A with
  | some ad =>
    obtain ⟨v', w', hr, h2, h3, _⟩ := run_append_own (P := Try.prog) (w := w) base 33 ty 4 i (.bool false) 1 1 Try.underlying33 hi hz hs hb rfl (by omega) v xs.length (xs.map (Value.bool)) hown ad l.length c (l.map (Value.bool)) (by simp) (barr_cells hl rfl) (fun u hu => by obtain ⟨x, _, rfl⟩ := List.mem_map.1 hu; rfl) (by unfold maxLen; omega) (by omega) hbase
    obtain ⟨q, cap, rfl, _⟩ := own_slice h2
    exact ⟨q, cap, w', hr, by unfold BOwn; rw [List.length_append, List.map_append]; exact h2, h3⟩
  | none =>
    obtain ⟨rfl, rfl⟩ := hA rfl
    have hr := run_append_owned_none (P := Try.prog) (w := w) base 33 ty 4 i 1 Try.underlying33 hi v xs.length (xs.map (Value.bool)) hown
    obtain ⟨q, cap, rfl, _⟩ := own_slice hown
    exact ⟨q, cap, w, hr, by simpa using hown, ⟨rfl, rfl, rfl, Nat.le_refl _, fun _ _ _ => rfl⟩⟩
theorem oper_appb {w : World} {o : Oper} {a : Act} {K : Act → World → Prop} {Q : Exit → Act → World → Prop} (s x : Operand) (ho : o.op = .call { callee := .builtin .append, args := #[s, x], argTypes := #[33, 33] })
    {base : Nat} {v : Value} {xs l : List Bool} {A : Option Addr} {c : Nat} (hs : a.eval s = v) (hx : a.eval x = .slice A l.length c) (hown : BOwn w base v xs) (hl : BA w A l) (hA : A = none → l = [] ∧ c = 0) (h63 : xs.length + l.length ≤ 1000000) (hbase : base ≤ w.heap.size)
    (h : ∀ q cap w', BOwn w' base (.slice q (xs.length + l.length) cap) (xs ++ l) → w.grownBy w' v.ownBlock → K (a.put o.dst (.slice q (xs.length + l.length) cap)) w') : Oper.wp Try.prog o a w K Q := by
  obtain ⟨q, cap, w', hr, h2, h3⟩ := run_appb o.type hown hl hA h63 hbase
  unfold Oper.wp execOp
  simp only [ho, resolve, invoke, builtin, Sem.run_bind, Sem.run_pure, Result.andThen_ok, List.map_toArray, List.map_cons, List.map_nil, hs, hx, hr]
  exact h q cap w' h2 h3
/-- In a region without a draw. -/
theorem wpList_appb {w : World} {ops : Array Oper} {rest : List Oper} {o : Oper} {a : Act} {Q : Exit → Act → World → Prop} (hgd : o.guard = none) (s x : Operand) (ho : o.op = .call { callee := .builtin .append, args := #[s, x], argTypes := #[33, 33] })
    (base : Nat) (v : Value) (xs l : List Bool) (A : Option Addr) (c : Nat) (hs : a.eval s = v) (hx : a.eval x = .slice A l.length c) (hown : BOwn w base v xs) (hl : BA w A l) (hA : A = none → l = [] ∧ c = 0) (h63 : xs.length + l.length ≤ 1000000) (hbase : base ≤ w.heap.size)
    (h : ∀ q cap w', BOwn w' base (.slice q (xs.length + l.length) cap) (xs ++ l) → w.grownBy w' v.ownBlock → wpList Try.prog ops Q rest (a.put o.dst (.slice q (xs.length + l.length) cap)) w') : wpList Try.prog ops Q (o :: rest) a w :=
  wpList_plain hgd fun _ hK => oper_appb s x ho hs hx hown hl hA h63 hbase fun q cap w' h2 h3 => hK _ _ (h q cap w' h2 h3)
/-- As one step of a region that draws. -/
theorem step_appb {w : World} {ops : Array Oper} {o : Oper} {a : Act} {K : Act → World → Prop} {Q : Exit → Act → World → Prop} {E : Prop} (hgd : o.guard = none) (s x : Operand) (ho : o.op = .call { callee := .builtin .append, args := #[s, x], argTypes := #[33, 33] })
    (base : Nat) (v : Value) (xs l : List Bool) (A : Option Addr) (c : Nat) (hs : a.eval s = v) (hx : a.eval x = .slice A l.length c) (hown : BOwn w base v xs) (hl : BA w A l) (hA : A = none → l = [] ∧ c = 0) (h63 : xs.length + l.length ≤ 1000000) (hbase : base ≤ w.heap.size)
    (h : ∀ q cap w', BOwn w' base (.slice q (xs.length + l.length) cap) (xs ++ l) → w.grownBy w' v.ownBlock → K (a.put o.dst (.slice q (xs.length + l.length) cap)) w') :
    if Region.wanted o (yielded ops a.tmps) = true then Oper.wp Try.prog o a w K Q else E := by
  rw [if_pos (by simp [Region.wanted, hgd])]
  exact oper_appb s x ho hs hx hown hl hA h63 hbase h
theorem bown_empty (w : World) (base : Nat) (h : base ≤ w.heap.size) : BOwn (w.alloc (.cells #[] 4)) base (.slice (some ⟨w.heap.size, 0, none⟩) 0 0) [] :=
  World.ownsRow_lit (base := base) (e := 4) (size := 1) w #[] 0 h (by omega) rfl
theorem bown_one (w : World) (x : Bool) : BA (w.alloc (.cells #[.bool x] 4)) (some ⟨w.heap.size, 0, none⟩) [x] := brow_arr (l := [x]) (heap_alloc_new w (.cells #[.bool x] 4))
theorem bown_one_at (w : World) (x : Bool) {k : Nat} (h : k = w.heap.size) : BA (w.alloc (.cells #[.bool x] 4)) (some ⟨k, 0, none⟩) [x] := by
  subst h
  exact bown_one w x
theorem BOwn.arr {w : World} {base c : Nat} {q : Option Addr} {l : List Bool} {n : Nat} (h : BOwn w base (.slice q n c) l) : BA w q l ∧ n = l.length ∧ (∀ ad, q = some ad → base ≤ ad.block) := by
  have hx : n = l.length := by
    rcases h.2 with ⟨e, e2⟩ | ⟨g, cap, cur, e, _⟩
    · simp at e; omega
    · simp at e; omega
  subst hx
  refine ⟨fun hn => ?_, rfl, fun ad e => ?_⟩
  · rcases h.2 with ⟨_, e⟩ | ⟨g, cap, cur, e, _, hg, _⟩
    · omega
    · simp at e
      obtain ⟨rfl, rfl⟩ := e
      refine ⟨g, 0, rfl, (Array.getElem?_eq_some_iff.1 hg).1, fun j hj => ?_⟩
      have := h.cellAt j (by simpa using hj)
      rw [Nat.zero_add, this]
      simp [hj]
  · rcases h.2 with ⟨e2, _⟩ | ⟨g, cap, cur, e2, hb, _⟩
    · rw [e] at e2; cases e2
    · rw [e] at e2
      simp at e2
      obtain ⟨rfl, _⟩ := e2
      exact hb
theorem bown_keep {W W' : World} {B : Nat} {v : Value} {l : List Bool} (h : BOwn W B v l) (hb : Below W.heap.size W W') : BOwn W' B v l := own_keep h fun k e => hb.block k (World.ownsRow.lt h k e).2
theorem bown_nil (W : World) (B : Nat) : BOwn W B (.slice none 0 0) [] := World.ownsRow_nil _ _ _ _
theorem bown_below {w0 w w' : World} {n : Nat} {v : Value} {xs : List Bool} (h : BOwn w n v xs) (hb : Below n w0 w) (hg : w.grownBy w' v.ownBlock) (hn : n ≤ w.heap.size) : Below n w0 w' :=
  hb.grown hg hn fun k e => (World.ownsRow.lt h k e).1
end Go.Proofs.Yteghegojhhoppaa
