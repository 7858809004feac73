/- Rows of ints: one cell each; one of the call's own; append to it: of no program but its types. -/
import Derived.Test.YtohiabkjbieflaaNdM
import Derived.Test.YtohiabkjbieflaaNdC
namespace Go.Proofs.Ytohiabkjbieflaa
open Go.RowKit

/-- At A of w these ints lie. -/
def ILies (w : World) (A : Option Addr) (l : List Int) : Prop :=
  0 < l.length → ∃ B o, A = some ⟨B, o, none⟩ ∧ B < w.heap.size ∧ ∀ j (h : j < l.length), w.cell? ⟨B, o + j, none⟩ = some (.int .i64 l[j])
theorem ILies.below {w w' : World} {A : Option Addr} {l : List Int} (h : ILies w A l) (hb : Below w.heap.size w w') : ILies w' A l := fun hn => by
  obtain ⟨B, o, e, hB, hc⟩ := h hn
  exact ⟨B, o, e, Nat.lt_of_lt_of_le hB hb.size, fun j hj => (hb.cell (p := ⟨B, o + j, none⟩) hB).trans (hc j hj)⟩
theorem ILies.nil (w : World) (A : Option Addr) : ILies w A [] := fun h => absurd h (by simp)
def icells (l : List Int) : List Value := l.map (Value.int .i64)
theorem icells_len (l : List Int) : (icells l).length = l.length * 1 := by simp [icells]
theorem icells_app (l m : List Int) : icells (l ++ m) = icells l ++ icells m := by simp [icells]
theorem icells_one {l : List Int} {u : Value} (h : u ∈ icells l) : u.oneCell' = true := by
  obtain ⟨x, _, rfl⟩ := List.mem_map.1 h
  rfl
theorem ILies.cells {w : World} {A : Option Addr} {l : List Int} (h : ILies w A l) {ad : Addr} (e : A = some ad) : ∀ (k : Nat) (u : Value), (icells l)[k]? = some u → w.cell? (ad.add k) = some u := fun k u hu => by
  obtain ⟨hk, e1⟩ := List.getElem?_eq_some_iff.1 hu
  have hk2 : k < l.length := by simpa [icells] using hk
  obtain ⟨B, o, e2, _, hc⟩ := h (by omega)
  obtain rfl : ad = ⟨B, o, none⟩ := by rw [e] at e2; exact Option.some.inj e2
  have ea : (⟨B, o, none⟩ : Addr).add k = ⟨B, o + k, none⟩ := by
    unfold Addr.add
    split
    · next e => subst e; rfl
    · rfl
  rw [ea, hc k hk2, ← e1]
  simp [icells]
/-- Such a row of the call's own. -/
def IOwn (w : World) (base : Nat) (v : Value) (l : List Int) : Prop := w.ownsRow base 3 1 v l.length (icells l)
theorem iown_nil (W : World) (B : Nat) : IOwn W B (.slice none 0 0) [] := World.ownsRow_nil _ _ _ _
theorem iown_empty {W : World} {B g : Nat} (h : W.heap[g]? = some (.cells #[] 3 (0, 0))) (hB : B ≤ g) : IOwn W B (.slice (some ⟨g, 0, none⟩) 0 0) [] :=
  ⟨rfl, .inr ⟨g, 0, #[], rfl, hB, h, Nat.le_refl _, Nat.zero_le _, rfl, rfl⟩⟩
theorem iown_below {w0 w w' : World} {n : Nat} {v : Value} {xs : List Int} (h : IOwn w n v xs) (hb : Below n w0 w) (hg : w.grownBy w' v.ownBlock) (hn : n ≤ w.heap.size) : Below n w0 w' :=
  hb.grown hg hn fun k e => (World.ownsRow.lt h k e).1
theorem IOwn.lies {w : World} {base c : Nat} {q : Option Addr} {l : List Int} {n : Nat} (h : IOwn w base (.slice q n c) l) : ILies w q l ∧ n = l.length ∧ (∀ ad, q = some ad → base ≤ ad.block) ∧ n ≤ c ∧ (q = none → c = 0) := by
  rcases h.2 with ⟨e, e2⟩ | ⟨g, cap, cur, e, hb, hg, hc, _, _, ht⟩
  · simp at e
    obtain ⟨rfl, rfl, rfl⟩ := e
    exact ⟨fun hn => by omega, by omega, fun ad e => (by cases e), Nat.le_refl _, fun _ => rfl⟩
  · simp at e
    obtain ⟨rfl, rfl, rfl⟩ := e
    refine ⟨fun hn => ⟨g, 0, rfl, lt_size hg, fun j hj => ?_⟩, rfl, fun ad e => (by cases e; exact hb), hc, fun e => by cases e⟩
    have hf : (icells l)[j]? = some (.int .i64 l[j]) := by simp [icells, hj]
    rw [← ht, List.getElem?_take_of_lt (by omega)] at hf
    rw [← hf, Nat.zero_add]
    simp [World.cell?, hg]
theorem info_intI : (Try.prog.info? 3).map (fun i => (i.zero, i.size, i.bytes)) = some (some (.int .i64 0), 1, 8) := by kernel_rfl
theorem int_partsI : ∃ i, Try.prog.info? 3 = some i ∧ i.zero = some (.int .i64 0) ∧ i.size = 1 ∧ i.bytes = 8 := by
  have h := info_intI
  cases e : Try.prog.info? 3 with
  | none => rw [e] at h; cases h
  | some i =>
    rw [e] at h
    simp only [Option.map_some, Option.some.injEq, Prod.mk.injEq] at h
    exact ⟨i, rfl, h.1, h.2.1, h.2.2⟩
theorem run_iapp {w : World} {base : Nat} {v : Value} {xs l : List Int} {A : Option Addr} {c : Nat} (ty : TypeId) (hown : IOwn w base v xs) (hl : ILies w A l) (hA : A = none → l = [] ∧ c = 0) (h63 : xs.length + l.length ≤ 100000) (hbase : base ≤ w.heap.size) :
    ∃ q cap w', (Builtin.append_ #[22, 22] ty #[v, .slice A l.length c]).run Try.prog w = .ok (.slice q (xs.length + l.length) cap) w' ∧ IOwn w' base (.slice q (xs.length + l.length) cap) (xs ++ l) ∧ w.grownBy w' v.ownBlock := by
  obtain ⟨i, hi, hz, hs, hb⟩ := int_partsI
  cases A with
  | some ad =>
    obtain ⟨v', w', hr, h2, h3, _⟩ := run_append_own (P := Try.prog) (w := w) base 22 ty 3 i _ 1 8 Try.underlying22 hi hz hs hb rfl (by omega) v xs.length (icells xs) hown ad l.length c (icells l) (icells_len l) (hl.cells rfl) (fun u hu => icells_one hu) (by unfold maxLen; omega) (by omega) hbase
    obtain ⟨q, cap, rfl, _⟩ := own_slice h2
    exact ⟨q, cap, w', hr, by unfold IOwn; rw [List.length_append, icells_app]; exact h2, h3⟩
  | none =>
    obtain ⟨rfl, rfl⟩ := hA rfl
    have hr := run_append_owned_none (P := Try.prog) (w := w) base 22 ty 3 i 1 Try.underlying22 hi v xs.length (icells xs) hown
    obtain ⟨q, cap, rfl, _⟩ := own_slice hown
    exact ⟨q, cap, w, hr, by simpa using hown, ⟨rfl, rfl, rfl, Nat.le_refl _, fun _ _ _ => rfl⟩⟩
theorem oper_iapp {w : World} {o : Oper} {a : Act} {K : Act → World → Prop} {Q : Exit → Act → World → Prop} (s x : Operand) (ho : o.op = .call { callee := .builtin .append, args := #[s, x], argTypes := #[22, 22] })
    {base : Nat} {v : Value} {xs l : List Int} {A : Option Addr} {c : Nat} (hs : a.eval s = v) (hx : a.eval x = .slice A l.length c) (hown : IOwn w base v xs) (hl : ILies w A l) (hA : A = none → l = [] ∧ c = 0) (h63 : xs.length + l.length ≤ 100000) (hbase : base ≤ w.heap.size)
    (h : ∀ q cap w', IOwn w' base (.slice q (xs.length + l.length) cap) (xs ++ l) → w.grownBy w' v.ownBlock → K (a.put o.dst (.slice q (xs.length + l.length) cap)) w') : Oper.wp Try.prog o a w K Q := by
  obtain ⟨q, cap, w', hr, h2, h3⟩ := run_iapp o.type hown hl hA h63 hbase
  unfold Oper.wp execOp
  simp only [ho, resolve, invoke, builtin, Sem.run_bind, Sem.run_pure, Result.andThen_ok, List.map_toArray, List.map_cons, List.map_nil, hs, hx, hr]
  exact h q cap w' h2 h3
theorem wpList_iapp {w : World} {ops : Array Oper} {rest : List Oper} {o : Oper} {a : Act} {Q : Exit → Act → World → Prop} (hgd : o.guard = none) (s x : Operand) (ho : o.op = .call { callee := .builtin .append, args := #[s, x], argTypes := #[22, 22] })
    (base : Nat) (v : Value) (xs l : List Int) (A : Option Addr) (c : Nat) (hs : a.eval s = v) (hx : a.eval x = .slice A l.length c) (hown : IOwn w base v xs) (hl : ILies w A l) (hA : A = none → l = [] ∧ c = 0) (h63 : xs.length + l.length ≤ 100000) (hbase : base ≤ w.heap.size)
    (h : ∀ q cap w', IOwn w' base (.slice q (xs.length + l.length) cap) (xs ++ l) → w.grownBy w' v.ownBlock → wpList Try.prog ops Q rest (a.put o.dst (.slice q (xs.length + l.length) cap)) w') : wpList Try.prog ops Q (o :: rest) a w :=
  wpList_plain hgd fun _ hK => oper_iapp s x ho hs hx hown hl hA h63 hbase fun q cap w' h2 h3 => hK _ _ (h q cap w' h2 h3)
theorem step_iapp {w : World} {ops : Array Oper} {o : Oper} {a : Act} {K : Act → World → Prop} {Q : Exit → Act → World → Prop} {E : Prop} (hgd : o.guard = none) (s x : Operand) (ho : o.op = .call { callee := .builtin .append, args := #[s, x], argTypes := #[22, 22] })
    (base : Nat) (v : Value) (n : Nat) (xs : List Int) (m : Nat) (l : List Int) (A : Option Addr) (c t : Nat) (ht : n + m = t) (hs : a.eval s = v) (hx : a.eval x = .slice A m c) (hn : xs.length = n) (hm : l.length = m) (hown : IOwn w base v xs) (hl : ILies w A l) (hA : A = none → l = [] ∧ c = 0) (h63 : t ≤ 100000) (hbase : base ≤ w.heap.size)
    (h : ∀ q cap w', IOwn w' base (.slice q t cap) (xs ++ l) → w.grownBy w' v.ownBlock → K (a.put o.dst (.slice q t cap)) w') :
    if Region.wanted o (yielded ops a.tmps) = true then Oper.wp Try.prog o a w K Q else E := by
  subst ht
  subst hn
  subst hm
  rw [if_pos (by simp [Region.wanted, hgd])]
  exact oper_iapp s x ho hs hx hown hl hA h63 hbase h
theorem ilies_grown {w w' : World} {A : Option Addr} {l : List Int} {row : Option Nat} (h : ILies w A l) (hg : w.grownBy w' row) (hn : ∀ ad, A = some ad → some ad.block ≠ row) : ILies w' A l := fun hp => by
  obtain ⟨B, o, rfl, hB, hc⟩ := h hp
  have hk := hg.block B hB (hn _ rfl)
  exact ⟨B, o, rfl, Nat.lt_of_lt_of_le hB hg.size, fun j hj => (World.cell?_of_block (a := ⟨B, o + j, none⟩) hk).trans (hc j hj)⟩

/-- A node's two rows lie there. -/
structure NLies (w : World) (n : Nd) (A B : Option Addr) (c d : Nat) : Prop where
  sq : ILies w A n.sq
  en : ELies w B n.en
  sn : A = none → n.sq = [] ∧ c = 0
  nn : B = none → n.en = [] ∧ d = 0
  sc : n.sq.length ≤ c
  ec : n.en.length ≤ d
  sm : n.sq.length ≤ maxLen
  em : n.en.length ≤ maxLen
abbrev ndV (n : Nd) (A B : Option Addr) (c d : Nat) : Value := .agg #[.int .i64 n.k, .int .i64 n.l, .int .i64 n.z, .slice A n.sq.length c, .slice B n.en.length d]
structure NWf (n : Nd) : Prop where
  k : (Lit.int .i64 n.k).wf = true
  l : (Lit.int .i64 n.l).wf = true
  z : (Lit.int .i64 n.z).wf = true
  sq : ∀ x ∈ n.sq, (Lit.int .i64 x).wf = true
theorem NLies.below {w w' : World} {n : Nd} {A B : Option Addr} {c d : Nat} (h : NLies w n A B c d) (hb : Below w.heap.size w w') : NLies w' n A B c d :=
  ⟨h.sq.below hb, h.en.below hb, h.sn, h.nn, h.sc, h.ec, h.sm, h.em⟩
end Go.Proofs.Ytohiabkjbieflaa
