/- Rows of refs with their spots: four cells each; one of the call's own; append to it: of no program but its types. -/
import Derived.Test.YtbebbnkolpgndaaPlcMath
namespace Go.Proofs.Ytbebbnkolpgndaa
open Go.RowKit

def fenc (f : Fd) : List Value := [.int .i64 f.1.1, .int .i64 f.1.2, .int .i64 f.2.1, .int .i64 f.2.2]
def fcells (l : List Fd) : List Value := l.flatMap fenc
theorem fcells_cons (f : Fd) (l : List Fd) : fcells (f :: l) = fenc f ++ fcells l := rfl
theorem fcells_app (l m : List Fd) : fcells (l ++ m) = fcells l ++ fcells m := by simp [fcells]
theorem fcells_len (l : List Fd) : (fcells l).length = l.length * 4 := by
  induction l with
  | nil => rfl
  | cons f l ih => rw [fcells_cons, List.length_append, ih, List.length_cons]; simp [fenc]; omega
theorem fcells_at : ∀ (l : List Fd) (j : Nat) (h : j < l.length) (r : Nat), r < 4 → (fcells l)[j * 4 + r]? = (fenc l[j])[r]?
  | [], _, h, _, _ => by cases h
  | f :: l, 0, _, r, hr => by
    rw [fcells_cons, List.getElem?_append_left (by simp [fenc]; omega)]
    simp
  | f :: l, j + 1, h, r, hr => by
    rw [fcells_cons, List.getElem?_append_right (by simp [fenc]; omega)]
    have e : (j + 1) * 4 + r - (fenc f).length = j * 4 + r := by simp [fenc]; omega
    rw [e, fcells_at l j (by simpa using h) r hr]
    rfl
theorem fcells_one {l : List Fd} {u : Value} (h : u ∈ fcells l) : u.oneCell' = true := by
  obtain ⟨f, _, hu⟩ := List.mem_flatMap.1 h
  simp [fenc] at hu
  rcases hu with rfl | rfl | rfl | rfl <;> rfl
theorem FLies.cells {w : World} {A : Option Addr} {l : List Fd} (h : FLies w A l) {ad : Addr} (e : A = some ad) : ∀ (k : Nat) (u : Value), (fcells l)[k]? = some u → w.cell? (ad.add k) = some u := fun k u hu => by
  have hk : k < l.length * 4 := by
    rcases Nat.lt_or_ge k (l.length * 4) with h' | h'
    · exact h'
    · rw [List.getElem?_eq_none (by rw [fcells_len]; exact h')] at hu; cases hu
  obtain ⟨B, o, e2, _, hc⟩ := h (by omega)
  obtain rfl : ad = ⟨B, o, none⟩ := by rw [e] at e2; exact Option.some.inj e2
  have ea : (⟨B, o, none⟩ : Addr).add k = ⟨B, o + k, none⟩ := by
    unfold Addr.add
    split
    · next e => subst e; rfl
    · rfl
  have hj : k / 4 < l.length := by omega
  have hr : k % 4 < 4 := Nat.mod_lt _ (by omega)
  have hkk : k = k / 4 * 4 + k % 4 := by omega
  obtain ⟨c0, c1, c2, c3⟩ := hc (k / 4) hj
  have hf := fcells_at l (k / 4) hj (k % 4) hr
  rw [← hkk, hu] at hf
  rw [ea, show o + k = o + k / 4 * 4 + k % 4 by omega]
  generalize k / 4 = j at *
  generalize k % 4 = r at *
  rcases (by omega : r = 0 ∨ r = 1 ∨ r = 2 ∨ r = 3) with rfl | rfl | rfl | rfl
  · rw [Nat.add_zero, c0, hf]; rfl
  · rw [c1, hf]; rfl
  · rw [c2, hf]; rfl
  · rw [c3, hf]; rfl
/-- Such a row of the call's own. -/
def FOwn (w : World) (base : Nat) (v : Value) (l : List Fd) : Prop := w.ownsRow base 34 4 v l.length (fcells l)
theorem fown_nil (W : World) (B : Nat) : FOwn W B (.slice none 0 0) [] := World.ownsRow_nil _ _ _ _
/-- A row that has no place yet, but an address. -/
theorem fown_empty {W : World} {B g : Nat} (h : W.heap[g]? = some (.cells #[] 34 (0, 0))) (hB : B ≤ g) : FOwn W B (.slice (some ⟨g, 0, none⟩) 0 0) [] :=
  ⟨rfl, .inr ⟨g, 0, #[], rfl, hB, h, Nat.le_refl _, Nat.zero_le _, rfl, rfl⟩⟩
theorem fown_keep {W W' : World} {B : Nat} {v : Value} {l : List Fd} (h : FOwn W B v l) (hb : Below W.heap.size W W') : FOwn W' B v l := own_keep h fun k e => hb.block k (World.ownsRow.lt h k e).2
theorem fown_below {w0 w w' : World} {n : Nat} {v : Value} {xs : List Fd} (h : FOwn w n v xs) (hb : Below n w0 w) (hg : w.grownBy w' v.ownBlock) (hn : n ≤ w.heap.size) : Below n w0 w' :=
  hb.grown hg hn fun k e => (World.ownsRow.lt h k e).1
theorem FOwn.lies {w : World} {base c : Nat} {q : Option Addr} {l : List Fd} {n : Nat} (h : FOwn w base (.slice q n c) l) : FLies w q l ∧ n = l.length ∧ (∀ ad, q = some ad → base ≤ ad.block) ∧ n ≤ c := by
  rcases h.2 with ⟨e, e2⟩ | ⟨g, cap, cur, e, hb, hg, hc, _, _, ht⟩
  · simp at e
    obtain ⟨rfl, rfl, rfl⟩ := e
    exact ⟨fun hn => by omega, by omega, fun ad e => (by cases e), Nat.le_refl _⟩
  · simp at e
    obtain ⟨rfl, rfl, rfl⟩ := e
    refine ⟨fun hn => ⟨g, 0, rfl, lt_size hg, fun j hj => ?_⟩, rfl, fun ad e => (by cases e; exact hb), hc⟩
    have key : ∀ r, r < 4 → w.cell? ⟨g, 0 + j * 4 + r, none⟩ = (fenc l[j])[r]? := fun r hr => by
      have hf := fcells_at l j hj r hr
      rw [← ht, List.getElem?_take_of_lt (by omega)] at hf
      rw [← hf, Nat.zero_add]
      simp [World.cell?, hg]
    exact ⟨key 0 (by omega), key 1 (by omega), key 2 (by omega), key 3 (by omega)⟩
theorem info_found : (Try.prog.info? 34).map (fun i => (i.zero, i.size, i.bytes)) = some (some (.agg #[.int .i64 0, .int .i64 0, .int .i64 0, .int .i64 0]), 4, 32) := by kernel_rfl
theorem found_parts : ∃ i, Try.prog.info? 34 = some i ∧ i.zero = some (.agg #[.int .i64 0, .int .i64 0, .int .i64 0, .int .i64 0]) ∧ i.size = 4 ∧ i.bytes = 32 := by
  have h := info_found
  cases e : Try.prog.info? 34 with
  | none => rw [e] at h; cases h
  | some i =>
    rw [e] at h
    simp only [Option.map_some, Option.some.injEq, Prod.mk.injEq] at h
    exact ⟨i, rfl, h.1, h.2.1, h.2.2⟩
theorem run_fapp {w : World} {base : Nat} {v : Value} {xs l : List Fd} {A : Option Addr} {c : Nat} (ty : TypeId) (hown : FOwn w base v xs) (hl : FLies w A l) (hA : A = none → l = [] ∧ c = 0) (h63 : xs.length + l.length ≤ 1000000) (hbase : base ≤ w.heap.size) :
    ∃ q cap w', (Builtin.append_ #[28, 28] ty #[v, .slice A l.length c]).run Try.prog w = .ok (.slice q (xs.length + l.length) cap) w' ∧ FOwn w' base (.slice q (xs.length + l.length) cap) (xs ++ l) ∧ w.grownBy w' v.ownBlock := by
  obtain ⟨i, hi, hz, hs, hb⟩ := found_parts
  cases A with
  | some ad =>
    obtain ⟨v', w', hr, h2, h3, _⟩ := run_append_own (P := Try.prog) (w := w) base 28 ty 34 i _ 4 32 Try.underlying28 hi hz hs hb rfl (by omega) v xs.length (fcells xs) hown ad l.length c (fcells l) (fcells_len l) (hl.cells rfl) (fun u hu => fcells_one hu) (by unfold maxLen; omega) (by omega) hbase
    obtain ⟨q, cap, rfl, _⟩ := own_slice h2
    exact ⟨q, cap, w', hr, by unfold FOwn; rw [List.length_append, fcells_app]; exact h2, h3⟩
  | none =>
    obtain ⟨rfl, rfl⟩ := hA rfl
    have hr := run_append_owned_none (P := Try.prog) (w := w) base 28 ty 34 i 4 Try.underlying28 hi v xs.length (fcells xs) hown
    obtain ⟨q, cap, rfl, _⟩ := own_slice hown
    exact ⟨q, cap, w, hr, by simpa using hown, ⟨rfl, rfl, rfl, Nat.le_refl _, fun _ _ _ => rfl⟩⟩
theorem oper_fapp {w : World} {o : Oper} {a : Act} {K : Act → World → Prop} {Q : Exit → Act → World → Prop} (s x : Operand) (ho : o.op = .call { callee := .builtin .append, args := #[s, x], argTypes := #[28, 28] })
    {base : Nat} {v : Value} {xs l : List Fd} {A : Option Addr} {c : Nat} (hs : a.eval s = v) (hx : a.eval x = .slice A l.length c) (hown : FOwn w base v xs) (hl : FLies w A l) (hA : A = none → l = [] ∧ c = 0) (h63 : xs.length + l.length ≤ 1000000) (hbase : base ≤ w.heap.size)
    (h : ∀ q cap w', FOwn w' base (.slice q (xs.length + l.length) cap) (xs ++ l) → w.grownBy w' v.ownBlock → K (a.put o.dst (.slice q (xs.length + l.length) cap)) w') : Oper.wp Try.prog o a w K Q := by
  obtain ⟨q, cap, w', hr, h2, h3⟩ := run_fapp o.type hown hl hA h63 hbase
  unfold Oper.wp execOp
  simp only [ho, resolve, invoke, builtin, Sem.run_bind, Sem.run_pure, Result.andThen_ok, List.map_toArray, List.map_cons, List.map_nil, hs, hx, hr]
  exact h q cap w' h2 h3
/-- In a region without a draw. -/
theorem wpList_fapp {w : World} {ops : Array Oper} {rest : List Oper} {o : Oper} {a : Act} {Q : Exit → Act → World → Prop} (hgd : o.guard = none) (s x : Operand) (ho : o.op = .call { callee := .builtin .append, args := #[s, x], argTypes := #[28, 28] })
    (base : Nat) (v : Value) (xs l : List Fd) (A : Option Addr) (c : Nat) (hs : a.eval s = v) (hx : a.eval x = .slice A l.length c) (hown : FOwn w base v xs) (hl : FLies w A l) (hA : A = none → l = [] ∧ c = 0) (h63 : xs.length + l.length ≤ 1000000) (hbase : base ≤ w.heap.size)
    (h : ∀ q cap w', FOwn w' base (.slice q (xs.length + l.length) cap) (xs ++ l) → w.grownBy w' v.ownBlock → wpList Try.prog ops Q rest (a.put o.dst (.slice q (xs.length + l.length) cap)) w') : wpList Try.prog ops Q (o :: rest) a w :=
  wpList_plain hgd fun _ hK => oper_fapp s x ho hs hx hown hl hA h63 hbase fun q cap w' h2 h3 => hK _ _ (h q cap w' h2 h3)
/-- One of them, newly built. -/
theorem fown_one_at (w : World) (f : Fd) {k : Nat} (h : k = w.heap.size) : FLies (w.alloc (.cells #[.int .i64 f.1.1, .int .i64 f.1.2, .int .i64 f.2.1, .int .i64 f.2.2] 34)) (some ⟨k, 0, none⟩) [f] := by
  subst h
  intro _
  have hn := heap_alloc_new w (.cells #[.int .i64 f.1.1, .int .i64 f.1.2, .int .i64 f.2.1, .int .i64 f.2.2] 34)
  refine ⟨_, 0, rfl, lt_size hn, fun j hj => ?_⟩
  obtain rfl : j = 0 := by simpa using hj
  generalize w.alloc _ = W at hn ⊢
  simp [World.cell?, hn]
/-- The first of a row. -/
theorem FLies.take {w : World} {A : Option Addr} {l : List Fd} (h : FLies w A l) (k : Nat) : FLies w A (l.take k) := fun hn => by
  obtain ⟨B, o, e, hB, hc⟩ := h (by rw [List.length_take] at hn; omega)
  exact ⟨B, o, e, hB, fun j hj => by
    have hj2 : j < l.length := by rw [List.length_take] at hj; omega
    have e : (l.take k)[j] = l[j] := List.getElem_take
    rw [e]
    exact hc j hj2⟩
end Go.Proofs.Ytbebbnkolpgndaa
