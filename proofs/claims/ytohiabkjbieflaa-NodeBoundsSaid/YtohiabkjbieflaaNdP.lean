/- Rows of refs: two cells each; one of the call's own; append to it (written by mkrefs.py). -/
import Derived.Test.YtohiabkjbieflaaNdS
namespace Go.Proofs.Ytohiabkjbieflaa
open Go.RowKit

abbrev P2 := Int × Int
/-- At A of w these refs lie. -/
def RLies (w : World) (A : Option Addr) (l : List P2) : Prop :=
  0 < l.length → ∃ B o, A = some ⟨B, o, none⟩ ∧ B < w.heap.size ∧ ∀ j (h : j < l.length),
    w.cell? ⟨B, o + j * 2, none⟩ = some (.int .i64 l[j].1) ∧ w.cell? ⟨B, o + j * 2 + 1, none⟩ = some (.int .i64 l[j].2)
theorem RLies.below {w w' : World} {A : Option Addr} {l : List P2} (h : RLies w A l) (hb : Below w.heap.size w w') : RLies w' A l := fun hn => by
  obtain ⟨B, o, e, hB, hc⟩ := h hn
  refine ⟨B, o, e, Nat.lt_of_lt_of_le hB hb.size, fun j hj => ?_⟩
  obtain ⟨h0, h1⟩ := hc j hj
  exact ⟨(hb.cell (p := ⟨B, o + j * 2, none⟩) hB).trans h0, (hb.cell (p := ⟨B, o + j * 2 + 1, none⟩) hB).trans h1⟩
theorem RLies.nil (w : World) (A : Option Addr) : RLies w A [] := fun h => absurd h (by simp)
def renc (f : P2) : List Value := [.int .i64 f.1, .int .i64 f.2]
def rcells (l : List P2) : List Value := l.flatMap renc
theorem rcells_cons (f : P2) (l : List P2) : rcells (f :: l) = renc f ++ rcells l := rfl
theorem rcells_app (l m : List P2) : rcells (l ++ m) = rcells l ++ rcells m := by simp [rcells]
theorem rcells_len (l : List P2) : (rcells l).length = l.length * 2 := by
  induction l with
  | nil => rfl
  | cons f l ih => rw [rcells_cons, List.length_append, ih, List.length_cons]; simp [renc]; omega
theorem rcells_at : ∀ (l : List P2) (j : Nat) (h : j < l.length) (r : Nat), r < 2 → (rcells l)[j * 2 + r]? = (renc l[j])[r]?
  | [], _, h, _, _ => by cases h
  | f :: l, 0, _, r, hr => by
    rw [rcells_cons, List.getElem?_append_left (by simp [renc]; omega)]
    simp
  | f :: l, j + 1, h, r, hr => by
    rw [rcells_cons, List.getElem?_append_right (by simp [renc]; omega)]
    have e : (j + 1) * 2 + r - (renc f).length = j * 2 + r := by simp [renc]; omega
    rw [e, rcells_at l j (by simpa using h) r hr]
    rfl
theorem rcells_one {l : List P2} {u : Value} (h : u ∈ rcells l) : u.oneCell' = true := by
  obtain ⟨f, _, hu⟩ := List.mem_flatMap.1 h
  simp [renc] at hu
  rcases hu with rfl | rfl <;> rfl
theorem RLies.cells {w : World} {A : Option Addr} {l : List P2} (h : RLies w A l) {ad : Addr} (e : A = some ad) : ∀ (k : Nat) (u : Value), (rcells l)[k]? = some u → w.cell? (ad.add k) = some u := fun k u hu => by
  have hk : k < l.length * 2 := by
    rcases Nat.lt_or_ge k (l.length * 2) with h' | h'
    · exact h'
    · rw [List.getElem?_eq_none (by rw [rcells_len]; exact h')] at hu; cases hu
  obtain ⟨B, o, e2, _, hc⟩ := h (by omega)
  obtain rfl : ad = ⟨B, o, none⟩ := by rw [e] at e2; exact Option.some.inj e2
  have ea : (⟨B, o, none⟩ : Addr).add k = ⟨B, o + k, none⟩ := by
    unfold Addr.add
    split
    · next e => subst e; rfl
    · rfl
  have hj : k / 2 < l.length := by omega
  have hr : k % 2 < 2 := Nat.mod_lt _ (by omega)
  have hkk : k = k / 2 * 2 + k % 2 := by omega
  obtain ⟨c0, c1⟩ := hc (k / 2) hj
  have hf := rcells_at l (k / 2) hj (k % 2) hr
  rw [← hkk, hu] at hf
  rw [ea, show o + k = o + k / 2 * 2 + k % 2 by omega]
  generalize k / 2 = j at *
  generalize k % 2 = r at *
  rcases (by omega : r = 0 ∨ r = 1) with rfl | rfl
  · rw [Nat.add_zero, c0, hf]; rfl
  · rw [c1, hf]; rfl
/-- Such a row of the call's own. -/
def ROwn (w : World) (base : Nat) (v : Value) (l : List P2) : Prop := w.ownsRow base 31 2 v l.length (rcells l)
theorem rown_nil (W : World) (B : Nat) : ROwn W B (.slice none 0 0) [] := World.ownsRow_nil _ _ _ _
/-- A row that has no place yet, but an address. -/
theorem rown_empty {W : World} {B g : Nat} (h : W.heap[g]? = some (.cells #[] 31 (0, 0))) (hB : B ≤ g) : ROwn W B (.slice (some ⟨g, 0, none⟩) 0 0) [] :=
  ⟨rfl, .inr ⟨g, 0, #[], rfl, hB, h, Nat.le_refl _, Nat.zero_le _, rfl, rfl⟩⟩
theorem rown_keep {W W' : World} {B : Nat} {v : Value} {l : List P2} (h : ROwn W B v l) (hb : Below W.heap.size W W') : ROwn W' B v l := own_keep h fun k e => hb.block k (World.ownsRow.lt h k e).2
theorem rown_below {w0 w w' : World} {n : Nat} {v : Value} {xs : List P2} (h : ROwn w n v xs) (hb : Below n w0 w) (hg : w.grownBy w' v.ownBlock) (hn : n ≤ w.heap.size) : Below n w0 w' :=
  hb.grown hg hn fun k e => (World.ownsRow.lt h k e).1
theorem ROwn.lies {w : World} {base c : Nat} {q : Option Addr} {l : List P2} {n : Nat} (h : ROwn w base (.slice q n c) l) : RLies w q l ∧ n = l.length ∧ (∀ ad, q = some ad → base ≤ ad.block) ∧ n ≤ c := by
  rcases h.2 with ⟨e, e2⟩ | ⟨g, cap, cur, e, hb, hg, hc, _, _, ht⟩
  · simp at e
    obtain ⟨rfl, rfl, rfl⟩ := e
    exact ⟨fun hn => by omega, by omega, fun ad e => (by cases e), Nat.le_refl _⟩
  · simp at e
    obtain ⟨rfl, rfl, rfl⟩ := e
    refine ⟨fun hn => ⟨g, 0, rfl, lt_size hg, fun j hj => ?_⟩, rfl, fun ad e => (by cases e; exact hb), hc⟩
    have key : ∀ r, r < 2 → w.cell? ⟨g, 0 + j * 2 + r, none⟩ = (renc l[j])[r]? := fun r hr => by
      have hf := rcells_at l j hj r hr
      rw [← ht, List.getElem?_take_of_lt (by omega)] at hf
      rw [← hf, Nat.zero_add]
      simp [World.cell?, hg]
    exact ⟨key 0 (by omega), key 1 (by omega)⟩
theorem info_refN : (Try.prog.info? 31).map (fun i => (i.zero, i.size, i.bytes)) = some (some (.agg #[.int .i64 0, .int .i64 0]), 2, 16) := by kernel_rfl
theorem ref_partsN : ∃ i, Try.prog.info? 31 = some i ∧ i.zero = some (.agg #[.int .i64 0, .int .i64 0]) ∧ i.size = 2 ∧ i.bytes = 16 := by
  have h := info_refN
  cases e : Try.prog.info? 31 with
  | none => rw [e] at h; cases h
  | some i =>
    rw [e] at h
    simp only [Option.map_some, Option.some.injEq, Prod.mk.injEq] at h
    exact ⟨i, rfl, h.1, h.2.1, h.2.2⟩
theorem run_rapp {w : World} {base : Nat} {v : Value} {xs l : List P2} {A : Option Addr} {c : Nat} (ty : TypeId) (hown : ROwn w base v xs) (hl : RLies w A l) (hA : A = none → l = [] ∧ c = 0) (h63 : xs.length + l.length ≤ 100000) (hbase : base ≤ w.heap.size) :
    ∃ q cap w', (Builtin.append_ #[28, 28] ty #[v, .slice A l.length c]).run Try.prog w = .ok (.slice q (xs.length + l.length) cap) w' ∧ ROwn w' base (.slice q (xs.length + l.length) cap) (xs ++ l) ∧ w.grownBy w' v.ownBlock := by
  obtain ⟨i, hi, hz, hs, hb⟩ := ref_partsN
  cases A with
  | some ad =>
    obtain ⟨v', w', hr, h2, h3, _⟩ := run_append_own (P := Try.prog) (w := w) base 28 ty 31 i _ 2 16 Try.underlying28 hi hz hs hb rfl (by omega) v xs.length (rcells xs) hown ad l.length c (rcells l) (rcells_len l) (hl.cells rfl) (fun u hu => rcells_one hu) (by unfold maxLen; omega) (by omega) hbase
    obtain ⟨q, cap, rfl, _⟩ := own_slice h2
    exact ⟨q, cap, w', hr, by unfold ROwn; rw [List.length_append, rcells_app]; exact h2, h3⟩
  | none =>
    obtain ⟨rfl, rfl⟩ := hA rfl
    have hr := run_append_owned_none (P := Try.prog) (w := w) base 28 ty 31 i 2 Try.underlying28 hi v xs.length (rcells xs) hown
    obtain ⟨q, cap, rfl, _⟩ := own_slice hown
    exact ⟨q, cap, w, hr, by simpa using hown, ⟨rfl, rfl, rfl, Nat.le_refl _, fun _ _ _ => rfl⟩⟩
theorem oper_rapp {w : World} {o : Oper} {a : Act} {K : Act → World → Prop} {Q : Exit → Act → World → Prop} (s x : Operand) (ho : o.op = .call { callee := .builtin .append, args := #[s, x], argTypes := #[28, 28] })
    {base : Nat} {v : Value} {xs l : List P2} {A : Option Addr} {c : Nat} (hs : a.eval s = v) (hx : a.eval x = .slice A l.length c) (hown : ROwn w base v xs) (hl : RLies w A l) (hA : A = none → l = [] ∧ c = 0) (h63 : xs.length + l.length ≤ 100000) (hbase : base ≤ w.heap.size)
    (h : ∀ q cap w', ROwn w' base (.slice q (xs.length + l.length) cap) (xs ++ l) → w.grownBy w' v.ownBlock → K (a.put o.dst (.slice q (xs.length + l.length) cap)) w') : Oper.wp Try.prog o a w K Q := by
  obtain ⟨q, cap, w', hr, h2, h3⟩ := run_rapp o.type hown hl hA h63 hbase
  unfold Oper.wp execOp
  simp only [ho, resolve, invoke, builtin, Sem.run_bind, Sem.run_pure, Result.andThen_ok, List.map_toArray, List.map_cons, List.map_nil, hs, hx, hr]
  exact h q cap w' h2 h3
/-- In a region without a draw. -/
theorem wpList_rapp {w : World} {ops : Array Oper} {rest : List Oper} {o : Oper} {a : Act} {Q : Exit → Act → World → Prop} (hgd : o.guard = none) (s x : Operand) (ho : o.op = .call { callee := .builtin .append, args := #[s, x], argTypes := #[28, 28] })
    (base : Nat) (v : Value) (xs l : List P2) (A : Option Addr) (c : Nat) (hs : a.eval s = v) (hx : a.eval x = .slice A l.length c) (hown : ROwn w base v xs) (hl : RLies w A l) (hA : A = none → l = [] ∧ c = 0) (h63 : xs.length + l.length ≤ 100000) (hbase : base ≤ w.heap.size)
    (h : ∀ q cap w', ROwn w' base (.slice q (xs.length + l.length) cap) (xs ++ l) → w.grownBy w' v.ownBlock → wpList Try.prog ops Q rest (a.put o.dst (.slice q (xs.length + l.length) cap)) w') : wpList Try.prog ops Q (o :: rest) a w :=
  wpList_plain hgd fun _ hK => oper_rapp s x ho hs hx hown hl hA h63 hbase fun q cap w' h2 h3 => hK _ _ (h q cap w' h2 h3)
/-- One of them, newly built. -/
theorem rown_one_at (w : World) (f : P2) {k : Nat} (h : k = w.heap.size) : RLies (w.alloc (.cells #[.int .i64 f.1, .int .i64 f.2] 31)) (some ⟨k, 0, none⟩) [f] := by
  subst h
  intro _
  have hn := heap_alloc_new w (.cells #[.int .i64 f.1, .int .i64 f.2] 31)
  refine ⟨_, 0, rfl, lt_size hn, fun j hj => ?_⟩
  obtain rfl : j = 0 := by simpa using hj
  generalize w.alloc _ = W at hn ⊢
  simp [World.cell?, hn]
/-- The first of a row. -/
theorem RLies.take {w : World} {A : Option Addr} {l : List P2} (h : RLies w A l) (k : Nat) : RLies w A (l.take k) := fun hn => by
  obtain ⟨B, o, e, hB, hc⟩ := h (by rw [List.length_take] at hn; omega)
  exact ⟨B, o, e, hB, fun j hj => by
    have hj2 : j < l.length := by rw [List.length_take] at hj; omega
    have e : (l.take k)[j] = l[j] := List.getElem_take
    rw [e]
    exact hc j hj2⟩
theorem RLies.map_add {w : World} {A : Option Addr} {l : List P2} (h : RLies w A l) (k c : Nat) (hc : l.length ≤ c) : RLies w (if c = k then A else A.map (·.add (k * 2))) (l.drop k) := fun hn => by
  rw [List.length_drop] at hn
  obtain ⟨B, o, e, hB, hx⟩ := h (by omega)
  rw [if_neg (by omega), e]
  refine ⟨B, o + k * 2, ?_, hB, fun j hj => ?_⟩
  · show some _ = _
    congr 1
    unfold Addr.add
    split
    · next h0 => rw [h0]; rfl
    · rfl
  · rw [List.length_drop] at hj
    rw [List.getElem_drop]
    obtain ⟨h0, h1⟩ := hx (k + j) (by omega)
    rw [Nat.add_mul, ← Nat.add_assoc] at h0 h1
    exact ⟨h0, h1⟩
theorem rlies_grown {w w' : World} {A : Option Addr} {l : List P2} {row : Option Nat} (h : RLies w A l) (hg : w.grownBy w' row) (hn : ∀ ad, A = some ad → some ad.block ≠ row) : RLies w' A l := fun hp => by
  obtain ⟨B, o, rfl, hB, hc⟩ := h hp
  have hk := hg.block B hB (hn _ rfl)
  refine ⟨B, o, rfl, Nat.lt_of_lt_of_le hB hg.size, fun j hj => ?_⟩
  obtain ⟨h0, h1⟩ := hc j hj
  exact ⟨(World.cell?_of_block (a := ⟨B, o + j * 2, none⟩) hk).trans h0, (World.cell?_of_block (a := ⟨B, o + j * 2 + 1, none⟩) hk).trans h1⟩
theorem ROwn.grown {w0 w w' : World} {n : Nat} {v : Value} {xs : List P2} (h : ROwn w n v xs) (hb : Below n w0 w) (hg : w.grownBy w' v.ownBlock) (hn : n ≤ w.heap.size) : Below n w0 w' := rown_below h hb hg hn
/-- An append as one step of a region that draws. -/
theorem step_rapp {w : World} {ops : Array Oper} {o : Oper} {a : Act} {K : Act → World → Prop} {Q : Exit → Act → World → Prop} {E : Prop} (hgd : o.guard = none) (s x : Operand) (ho : o.op = .call { callee := .builtin .append, args := #[s, x], argTypes := #[28, 28] })
    (base : Nat) (v : Value) (n : Nat) (xs : List P2) (m : Nat) (l : List P2) (A : Option Addr) (c : Nat) (hs : a.eval s = v) (hx : a.eval x = .slice A m c) (hn : xs.length = n) (hm : l.length = m) (hown : ROwn w base v xs) (hl : RLies w A l) (hA : A = none → l = [] ∧ c = 0) (h63 : n + m ≤ 100000) (hbase : base ≤ w.heap.size)
    (h : ∀ q cap w', ROwn w' base (.slice q (n + m) cap) (xs ++ l) → w.grownBy w' v.ownBlock → K (a.put o.dst (.slice q (n + m) cap)) w') :
    if Region.wanted o (yielded ops a.tmps) = true then Oper.wp Try.prog o a w K Q else E := by
  subst hn
  subst hm
  rw [if_pos (by simp [Region.wanted, hgd])]
  exact oper_rapp s x ho hs hx hown hl hA h63 hbase h
/-- As step_rapp, with the new length by name. -/
theorem step_rappT {w : World} {ops : Array Oper} {o : Oper} {a : Act} {K : Act → World → Prop} {Q : Exit → Act → World → Prop} {E : Prop} (hgd : o.guard = none) (s x : Operand) (ho : o.op = .call { callee := .builtin .append, args := #[s, x], argTypes := #[28, 28] })
    (base : Nat) (v : Value) (n : Nat) (xs : List P2) (m : Nat) (l : List P2) (A : Option Addr) (c t : Nat) (ht : n + m = t) (hs : a.eval s = v) (hx : a.eval x = .slice A m c) (hn : xs.length = n) (hm : l.length = m) (hown : ROwn w base v xs) (hl : RLies w A l) (hA : A = none → l = [] ∧ c = 0) (h63 : t ≤ 100000) (hbase : base ≤ w.heap.size)
    (h : ∀ q cap w', ROwn w' base (.slice q t cap) (xs ++ l) → w.grownBy w' v.ownBlock → K (a.put o.dst (.slice q t cap)) w') :
    if Region.wanted o (yielded ops a.tmps) = true then Oper.wp Try.prog o a w K Q else E := by
  subst ht
  exact step_rapp hgd s x ho base v n xs m l A c hs hx hn hm hown hl hA h63 hbase h
theorem rown_none {w : World} {base c : Nat} {q : Option Addr} {l : List P2} {n : Nat} (h : ROwn w base (.slice q n c) l) : q = none → c = 0 := fun e => by
  subst e
  rcases h.2 with ⟨e, _⟩ | ⟨g, cap, cur, e, _⟩
  · simp at e; exact e.2
  · simp at e
end Go.Proofs.Ytohiabkjbieflaa
