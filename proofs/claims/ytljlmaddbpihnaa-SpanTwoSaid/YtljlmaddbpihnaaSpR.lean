/- Rows of pieces: three cells each; one of the call's own; append to it (written by mkspr.py). -/
import Derived.Test.YtljlmaddbpihnaaSpM
namespace Go.Proofs.Ytljlmaddbpihnaa
open Go.RowKit

/-- At A of w these pieces lie. -/
def PcLies (w : World) (A : Option Addr) (l : List P3) : Prop :=
  0 < l.length → ∃ B o, A = some ⟨B, o, none⟩ ∧ B < w.heap.size ∧ ∀ j (h : j < l.length),
    w.cell? ⟨B, o + j * 3, none⟩ = some (.int .i64 l[j].1) ∧ w.cell? ⟨B, o + j * 3 + 1, none⟩ = some (.int .i64 l[j].2.1) ∧ w.cell? ⟨B, o + j * 3 + 2, none⟩ = some (.int .i64 l[j].2.2)
theorem PcLies.below {w w' : World} {A : Option Addr} {l : List P3} (h : PcLies w A l) (hb : Below w.heap.size w w') : PcLies w' A l := fun hn => by
  obtain ⟨B, o, e, hB, hc⟩ := h hn
  refine ⟨B, o, e, Nat.lt_of_lt_of_le hB hb.size, fun j hj => ?_⟩
  obtain ⟨h0, h1, h2⟩ := hc j hj
  exact ⟨(hb.cell (p := ⟨B, o + j * 3, none⟩) hB).trans h0, (hb.cell (p := ⟨B, o + j * 3 + 1, none⟩) hB).trans h1, (hb.cell (p := ⟨B, o + j * 3 + 2, none⟩) hB).trans h2⟩
theorem PcLies.nil (w : World) (A : Option Addr) : PcLies w A [] := fun h => absurd h (by simp)
def pcenc (f : P3) : List Value := [.int .i64 f.1, .int .i64 f.2.1, .int .i64 f.2.2]
def pccells (l : List P3) : List Value := l.flatMap pcenc
theorem pccells_cons (f : P3) (l : List P3) : pccells (f :: l) = pcenc f ++ pccells l := rfl
theorem pccells_app (l m : List P3) : pccells (l ++ m) = pccells l ++ pccells m := by simp [pccells]
theorem pccells_len (l : List P3) : (pccells l).length = l.length * 3 := by
  induction l with
  | nil => rfl
  | cons f l ih => rw [pccells_cons, List.length_append, ih, List.length_cons]; simp [pcenc]; omega
theorem pccells_at : ∀ (l : List P3) (j : Nat) (h : j < l.length) (r : Nat), r < 3 → (pccells l)[j * 3 + r]? = (pcenc l[j])[r]?
  | [], _, h, _, _ => by cases h
  | f :: l, 0, _, r, hr => by
    rw [pccells_cons, List.getElem?_append_left (by simp [pcenc]; omega)]
    simp
  | f :: l, j + 1, h, r, hr => by
    rw [pccells_cons, List.getElem?_append_right (by simp [pcenc]; omega)]
    have e : (j + 1) * 3 + r - (pcenc f).length = j * 3 + r := by simp [pcenc]; omega
    rw [e, pccells_at l j (by simpa using h) r hr]
    rfl
theorem pccells_one {l : List P3} {u : Value} (h : u ∈ pccells l) : u.oneCell' = true := by
  obtain ⟨f, _, hu⟩ := List.mem_flatMap.1 h
  simp [pcenc] at hu
  rcases hu with rfl | rfl | rfl <;> rfl
theorem PcLies.cells {w : World} {A : Option Addr} {l : List P3} (h : PcLies w A l) {ad : Addr} (e : A = some ad) : ∀ (k : Nat) (u : Value), (pccells l)[k]? = some u → w.cell? (ad.add k) = some u := fun k u hu => by
  have hk : k < l.length * 3 := by
    rcases Nat.lt_or_ge k (l.length * 3) with h' | h'
    · exact h'
    · rw [List.getElem?_eq_none (by rw [pccells_len]; exact h')] at hu; cases hu
  obtain ⟨B, o, e2, _, hc⟩ := h (by omega)
  obtain rfl : ad = ⟨B, o, none⟩ := by rw [e] at e2; exact Option.some.inj e2
  have ea : (⟨B, o, none⟩ : Addr).add k = ⟨B, o + k, none⟩ := by
    unfold Addr.add
    split
    · next e => subst e; rfl
    · rfl
  have hj : k / 3 < l.length := by omega
  have hr : k % 3 < 3 := Nat.mod_lt _ (by omega)
  have hkk : k = k / 3 * 3 + k % 3 := by omega
  obtain ⟨c0, c1, c2⟩ := hc (k / 3) hj
  have hf := pccells_at l (k / 3) hj (k % 3) hr
  rw [← hkk, hu] at hf
  rw [ea, show o + k = o + k / 3 * 3 + k % 3 by omega]
  generalize k / 3 = j at *
  generalize k % 3 = r at *
  rcases (by omega : r = 0 ∨ r = 1 ∨ r = 2) with rfl | rfl | rfl
  · rw [Nat.add_zero, c0, hf]; rfl
  · rw [c1, hf]; rfl
  · rw [c2, hf]; rfl
/-- Such a row of the call's own. -/
def PcOwn (w : World) (base : Nat) (v : Value) (l : List P3) : Prop := w.ownsRow base 25 3 v l.length (pccells l)
theorem pcown_nil (W : World) (B : Nat) : PcOwn W B (.slice none 0 0) [] := World.ownsRow_nil _ _ _ _
/-- A row that has no place yet, but an address. -/
theorem pcown_empty {W : World} {B g : Nat} (h : W.heap[g]? = some (.cells #[] 25 (0, 0))) (hB : B ≤ g) : PcOwn W B (.slice (some ⟨g, 0, none⟩) 0 0) [] :=
  ⟨rfl, .inr ⟨g, 0, #[], rfl, hB, h, Nat.le_refl _, Nat.zero_le _, rfl, rfl⟩⟩
theorem pcown_keep {W W' : World} {B : Nat} {v : Value} {l : List P3} (h : PcOwn W B v l) (hb : Below W.heap.size W W') : PcOwn W' B v l := own_keep h fun k e => hb.block k (World.ownsRow.lt h k e).2
theorem pcown_below {w0 w w' : World} {n : Nat} {v : Value} {xs : List P3} (h : PcOwn w n v xs) (hb : Below n w0 w) (hg : w.grownBy w' v.ownBlock) (hn : n ≤ w.heap.size) : Below n w0 w' :=
  hb.grown hg hn fun k e => (World.ownsRow.lt h k e).1
theorem PcOwn.lies {w : World} {base c : Nat} {q : Option Addr} {l : List P3} {n : Nat} (h : PcOwn w base (.slice q n c) l) : PcLies w q l ∧ n = l.length ∧ (∀ ad, q = some ad → base ≤ ad.block) ∧ n ≤ c := by
  rcases h.2 with ⟨e, e2⟩ | ⟨g, cap, cur, e, hb, hg, hc, _, _, ht⟩
  · simp at e
    obtain ⟨rfl, rfl, rfl⟩ := e
    exact ⟨fun hn => by omega, by omega, fun ad e => (by cases e), Nat.le_refl _⟩
  · simp at e
    obtain ⟨rfl, rfl, rfl⟩ := e
    refine ⟨fun hn => ⟨g, 0, rfl, lt_size hg, fun j hj => ?_⟩, rfl, fun ad e => (by cases e; exact hb), hc⟩
    have key : ∀ r, r < 3 → w.cell? ⟨g, 0 + j * 3 + r, none⟩ = (pcenc l[j])[r]? := fun r hr => by
      have hf := pccells_at l j hj r hr
      rw [← ht, List.getElem?_take_of_lt (by omega)] at hf
      rw [← hf, Nat.zero_add]
      simp [World.cell?, hg]
    exact ⟨key 0 (by omega), key 1 (by omega), key 2 (by omega)⟩
theorem info_pc : (Try.prog.info? 25).map (fun i => (i.zero, i.size, i.bytes)) = some (some (.agg #[.int .i64 0, .int .i64 0, .int .i64 0]), 3, 24) := by kernel_rfl
theorem pc_parts : ∃ i, Try.prog.info? 25 = some i ∧ i.zero = some (.agg #[.int .i64 0, .int .i64 0, .int .i64 0]) ∧ i.size = 3 ∧ i.bytes = 24 := by
  have h := info_pc
  cases e : Try.prog.info? 25 with
  | none => rw [e] at h; cases h
  | some i =>
    rw [e] at h
    simp only [Option.map_some, Option.some.injEq, Prod.mk.injEq] at h
    exact ⟨i, rfl, h.1, h.2.1, h.2.2⟩
theorem run_pcapp {w : World} {base : Nat} {v : Value} {xs l : List P3} {A : Option Addr} {c : Nat} (ty : TypeId) (hown : PcOwn w base v xs) (hl : PcLies w A l) (hA : A = none → l = [] ∧ c = 0) (h63 : xs.length + l.length ≤ 100000) (hbase : base ≤ w.heap.size) :
    ∃ q cap w', (Builtin.append_ #[22, 22] ty #[v, .slice A l.length c]).run Try.prog w = .ok (.slice q (xs.length + l.length) cap) w' ∧ PcOwn w' base (.slice q (xs.length + l.length) cap) (xs ++ l) ∧ w.grownBy w' v.ownBlock := by
  obtain ⟨i, hi, hz, hs, hb⟩ := pc_parts
  cases A with
  | some ad =>
    obtain ⟨v', w', hr, h2, h3, _⟩ := run_append_own (P := Try.prog) (w := w) base 22 ty 25 i _ 3 24 Try.underlying22 hi hz hs hb rfl (by omega) v xs.length (pccells xs) hown ad l.length c (pccells l) (pccells_len l) (hl.cells rfl) (fun u hu => pccells_one hu) (by unfold maxLen; omega) (by omega) hbase
    obtain ⟨q, cap, rfl, _⟩ := own_slice h2
    exact ⟨q, cap, w', hr, by unfold PcOwn; rw [List.length_append, pccells_app]; exact h2, h3⟩
  | none =>
    obtain ⟨rfl, rfl⟩ := hA rfl
    have hr := run_append_owned_none (P := Try.prog) (w := w) base 22 ty 25 i 3 Try.underlying22 hi v xs.length (pccells xs) hown
    obtain ⟨q, cap, rfl, _⟩ := own_slice hown
    exact ⟨q, cap, w, hr, by simpa using hown, ⟨rfl, rfl, rfl, Nat.le_refl _, fun _ _ _ => rfl⟩⟩
theorem oper_pcapp {w : World} {o : Oper} {a : Act} {K : Act → World → Prop} {Q : Exit → Act → World → Prop} (s x : Operand) (ho : o.op = .call { callee := .builtin .append, args := #[s, x], argTypes := #[22, 22] })
    {base : Nat} {v : Value} {xs l : List P3} {A : Option Addr} {c : Nat} (hs : a.eval s = v) (hx : a.eval x = .slice A l.length c) (hown : PcOwn w base v xs) (hl : PcLies w A l) (hA : A = none → l = [] ∧ c = 0) (h63 : xs.length + l.length ≤ 100000) (hbase : base ≤ w.heap.size)
    (h : ∀ q cap w', PcOwn w' base (.slice q (xs.length + l.length) cap) (xs ++ l) → w.grownBy w' v.ownBlock → K (a.put o.dst (.slice q (xs.length + l.length) cap)) w') : Oper.wp Try.prog o a w K Q := by
  obtain ⟨q, cap, w', hr, h2, h3⟩ := run_pcapp o.type hown hl hA h63 hbase
  unfold Oper.wp execOp
  simp only [ho, resolve, invoke, builtin, Sem.run_bind, Sem.run_pure, Result.andThen_ok, List.map_toArray, List.map_cons, List.map_nil, hs, hx, hr]
  exact h q cap w' h2 h3
/-- In a region without a draw. -/
theorem wpList_pcapp {w : World} {ops : Array Oper} {rest : List Oper} {o : Oper} {a : Act} {Q : Exit → Act → World → Prop} (hgd : o.guard = none) (s x : Operand) (ho : o.op = .call { callee := .builtin .append, args := #[s, x], argTypes := #[22, 22] })
    (base : Nat) (v : Value) (xs l : List P3) (A : Option Addr) (c : Nat) (hs : a.eval s = v) (hx : a.eval x = .slice A l.length c) (hown : PcOwn w base v xs) (hl : PcLies w A l) (hA : A = none → l = [] ∧ c = 0) (h63 : xs.length + l.length ≤ 100000) (hbase : base ≤ w.heap.size)
    (h : ∀ q cap w', PcOwn w' base (.slice q (xs.length + l.length) cap) (xs ++ l) → w.grownBy w' v.ownBlock → wpList Try.prog ops Q rest (a.put o.dst (.slice q (xs.length + l.length) cap)) w') : wpList Try.prog ops Q (o :: rest) a w :=
  wpList_plain hgd fun _ hK => oper_pcapp s x ho hs hx hown hl hA h63 hbase fun q cap w' h2 h3 => hK _ _ (h q cap w' h2 h3)
/-- One of them, newly built. -/
theorem pcown_one_at (w : World) (f : P3) {k : Nat} (h : k = w.heap.size) : PcLies (w.alloc (.cells #[.int .i64 f.1, .int .i64 f.2.1, .int .i64 f.2.2] 25)) (some ⟨k, 0, none⟩) [f] := by
  subst h
  intro _
  have hn := heap_alloc_new w (.cells #[.int .i64 f.1, .int .i64 f.2.1, .int .i64 f.2.2] 25)
  refine ⟨_, 0, rfl, lt_size hn, fun j hj => ?_⟩
  obtain rfl : j = 0 := by simpa using hj
  generalize w.alloc _ = W at hn ⊢
  simp [World.cell?, hn]
/-- The first of a row. -/
theorem PcLies.take {w : World} {A : Option Addr} {l : List P3} (h : PcLies w A l) (k : Nat) : PcLies w A (l.take k) := fun hn => by
  obtain ⟨B, o, e, hB, hc⟩ := h (by rw [List.length_take] at hn; omega)
  exact ⟨B, o, e, hB, fun j hj => by
    have hj2 : j < l.length := by rw [List.length_take] at hj; omega
    have e : (l.take k)[j] = l[j] := List.getElem_take
    rw [e]
    exact hc j hj2⟩
end Go.Proofs.Ytljlmaddbpihnaa
