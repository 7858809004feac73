/- Copies of a tree, each in blocks of its own, apart from one another (ApT: what a drawn region's calls of CopyTree yield); a copy's rows as they stand while it is spoilt (Sh, Spoilt). -/
import Derived.Test.YtfboilbmehcgoaaDoorMC
import Derived.Test.YtfboilbmehcgoaaDoorME
namespace Go.Proofs.YtfboilbmehcgoaaDoor
open Go.RowKit Go.Lib

structure TRg (w : World) (lo hi : Nat) (q : Option Addr) (cap : Nat) (t : List Nd) (r : Nat → NAddr) : Prop where
  own : TOwn w lo (.slice q t.length cap) t r
  row : ∀ g, (Value.slice q t.length cap).ownBlock = some g → g < hi
  sq : ∀ j (h : j < t.length), ∀ g, (Value.slice (r j).A t[j].sq.length (r j).c).ownBlock = some g → g < hi
  en : ∀ j (h : j < t.length), ∀ g, (Value.slice (r j).B t[j].en.length (r j).d).ownBlock = some g → g < hi
theorem TOwn.rg {w : World} {lo cap : Nat} {q : Option Addr} {t : List Nd} {r : Nat → NAddr} (h : TOwn w lo (.slice q t.length cap) t r) : TRg w lo w.heap.size q cap t r :=
  ⟨h, fun g e => (h.row.lt g e).2, fun j hj g e => ((h.sq j hj).lt g e).2, fun j hj g e => ((h.en j hj).lt g e).2⟩
theorem TRg.keep {w w' : World} {lo hi cap : Nat} {q : Option Addr} {t : List Nd} {r : Nat → NAddr} (h : TRg w lo hi q cap t r) (hk : ∀ b, lo ≤ b → b < hi → w'.heap[b]? = w.heap[b]?) : TRg w' lo hi q cap t r :=
  ⟨⟨own_keep h.own.row fun g e => hk g (h.own.row.lt g e).1 (h.row g e), fun j hj => own_keep (h.own.sq j hj) fun g e => hk g ((h.own.sq j hj).lt g e).1 (h.sq j hj g e), fun j hj => own_keep (h.own.en j hj) fun g e => hk g ((h.own.en j hj).lt g e).1 (h.en j hj g e)⟩, h.row, h.sq, h.en⟩
/-- What operations of L yielded are copies of t, each in a range of blocks of its own. -/
def ApT (t : List Nd) (B : Nat) (L : List Nat) (vs : Nat → Value) (w : World) : Prop :=
  ∃ (lo hi : Nat → Nat) (Q : Nat → Option Addr) (C : Nat → Nat) (R : Nat → Nat → NAddr), (∀ i ∈ L, vs i ≠ undef → vs i = .agg #[.slice (Q i) t.length (C i)] ∧ TRg w (lo i) (hi i) (Q i) (C i) t (R i) ∧ B ≤ lo i ∧ hi i ≤ w.heap.size) ∧
    ∀ i ∈ L, ∀ j ∈ L, i ≠ j → vs i ≠ undef → vs j ≠ undef → hi i ≤ lo j ∨ hi j ≤ lo i
theorem ApT.start {t : List Nd} {B : Nat} {L : List Nat} {vs : Nat → Value} {w : World} (h : ∀ i ∈ L, vs i = undef) : ApT t B L vs w :=
  ⟨fun _ => 0, fun _ => 0, fun _ => none, fun _ => 0, fun _ _ => ⟨none, none, 0, 0⟩, fun i hi hn => absurd (h i hi) hn, fun i hi _ _ _ hn => absurd (h i hi) hn⟩
theorem ApT.keep {t : List Nd} {B : Nat} {L : List Nat} {vs : Nat → Value} {w w' : World} {i : Nat} {v : Value} (h : ApT t B L vs w) (hi : i ∉ L) (hb : Below w.heap.size w w') : ApT t B L (updv vs i v) w' := by
  have hne : ∀ j ∈ L, updv vs i v j = vs j := fun j hj => updv_ne _ (fun e => hi (by rw [← e]; exact hj)) _
  obtain ⟨lo, hi', Q, C, R, h1, h2⟩ := h
  refine ⟨lo, hi', Q, C, R, fun j hj hn => ?_, fun j hj k hk hjk hn hm => ?_⟩
  · rw [hne j hj] at hn ⊢
    obtain ⟨a, b, c, d⟩ := h1 j hj hn
    exact ⟨a, b.keep fun x _ hx => hb.block x (by omega), c, Nat.le_trans d hb.size⟩
  · rw [hne j hj] at hn
    rw [hne k hk] at hm
    exact h2 j hj k hk hjk hn hm
theorem ApT.new {t : List Nd} {B : Nat} {L : List Nat} {vs : Nat → Value} {w w' : World} {i : Nat} {q : Option Addr} {cap : Nat} {r : Nat → NAddr} (h : ApT t B L vs w) (hb : Below w.heap.size w w') (hB : B ≤ w.heap.size) (ho : TOwn w' w.heap.size (.slice q t.length cap) t r) : ApT t B L (updv vs i (.agg #[.slice q t.length cap])) w' := by
  have key : ∀ j, updv vs i (.agg #[.slice q t.length cap]) j = if j = i then .agg #[.slice q t.length cap] else vs j := fun j => by
    by_cases hj : j = i
    · subst hj; rw [updv_same, if_pos rfl]
    · rw [updv_ne _ hj, if_neg hj]
  obtain ⟨lo, hi, Q, C, R, h1, h2⟩ := h
  refine ⟨fun j => if j = i then w.heap.size else lo j, fun j => if j = i then w'.heap.size else hi j, fun j => if j = i then q else Q j, fun j => if j = i then cap else C j, fun j => if j = i then r else R j, fun j hj hn => ?_, fun j hj k hk hjk hn hm => ?_⟩
  · rw [key] at hn ⊢
    by_cases e : j = i
    · simp only [if_pos e]
      exact ⟨by trivial, ho.rg, hB, Nat.le_refl _⟩
    · simp only [if_neg e] at hn ⊢
      obtain ⟨a, b, c, d⟩ := h1 j hj hn
      exact ⟨a, b.keep fun x _ hx => hb.block x (by omega), c, Nat.le_trans d hb.size⟩
  · rw [key] at hn hm
    by_cases e : j = i
    · have e2 : ¬ k = i := fun h => hjk (e.trans h.symm)
      simp only [if_pos e, if_neg e2] at hm ⊢
      exact .inr (h1 k hk hm).2.2.2
    · by_cases e2 : k = i
      · simp only [if_neg e, if_pos e2] at hn ⊢
        exact .inl (h1 j hj hn).2.2.2
      · simp only [if_neg e, if_neg e2] at hn hm ⊢
        exact h2 j hj k hk hjk hn hm
theorem cell_set_ne {w : World} {g a b : Nat} {cur : Array Value} {T : TypeId} {v : Value} (h : w.heap[g]? = some (.cells cur T (0, 0))) (hab : a ≠ b) : (w.setCell ⟨g, b, none⟩ v).cell? ⟨g, a, none⟩ = w.cell? ⟨g, a, none⟩ := by
  have h2 := heap_setCell_same w g b cur T v h
  simp [World.cell?, h, h2, Ne.symm hab]
theorem blk_set {w : World} {x b k : Nat} {cur : Array Value} {T : TypeId} (v : Value) (h : w.heap[x]? = some (.cells cur T (0, 0))) : ∃ cur', (w.setCell ⟨b, k, none⟩ v).heap[x]? = some (.cells cur' T (0, 0)) ∧ cur'.size = cur.size := by
  by_cases e : x = b
  · subst e
    exact ⟨_, heap_setCell_same w x k cur T v h, by simp⟩
  · exact ⟨cur, (Below.heap_setCell _ _ _ _ e).trans h, rfl⟩
theorem cell_set_far {w : World} {g b a k : Nat} (v : Value) (hb : g ≠ b) : (w.setCell ⟨b, k, none⟩ v).cell? ⟨g, a, none⟩ = w.cell? ⟨g, a, none⟩ := by
  have h : (w.setCell ⟨b, k, none⟩ v).heap[g]? = w.heap[g]? := Below.heap_setCell _ _ _ _ hb
  simp [World.cell?, h]
/-- A row of n cells of a type stands in a block of the range. -/
def Blk (w : World) (lo hi : Nat) (T : TypeId) (A : Option Addr) (n : Nat) : Prop := 0 < n → ∃ b cur, A = some ⟨b, 0, none⟩ ∧ lo ≤ b ∧ b < hi ∧ w.heap[b]? = some (.cells cur T (0, 0)) ∧ n ≤ cur.size
theorem Blk.set {w : World} {lo hi b k n : Nat} {T : TypeId} {A : Option Addr} (v : Value) (h : Blk w lo hi T A n) : Blk (w.setCell ⟨b, k, none⟩ v) lo hi T A n := fun hn => by
  obtain ⟨x, cur, e, h1, h2, h3, h4⟩ := h hn
  obtain ⟨cur', h5, h6⟩ := blk_set (b := b) (k := k) v h3
  exact ⟨x, cur', e, h1, h2, h5, by omega⟩
theorem Blk.own {w : World} {lo hi size n cap : Nat} {T : TypeId} {A : Option Addr} {xs : List Value} (h : w.ownsRow lo T size (.slice A n cap) n xs) (hb : ∀ g, (Value.slice A n cap).ownBlock = some g → g < hi) : Blk w lo hi T A (n * size) := fun hn => by
  rcases h.2 with ⟨h', h0⟩ | ⟨g', cap', cur, h', hlo, hg, hnc, _, hcs, _⟩
  · subst h0; simp at hn
  · simp only [Value.slice.injEq, true_and] at h'
    obtain ⟨rfl, rfl⟩ := h'
    exact ⟨g', cur, rfl, (h.lt g' rfl).1, hb g' rfl, hg, by rw [hcs]; exact Nat.mul_le_mul_right size hnc⟩
structure Sh (w : World) (lo hi g : Nat) (t : List Nd) (r : Nat → NAddr) : Prop where
  row : Blk w lo hi 32 (some ⟨g, 0, none⟩) (t.length * 5)
  cs : ∀ j, j < t.length → w.cell? ⟨g, j * 5 + 3, none⟩ = some (.slice (r j).A (at_ t j).sq.length (r j).c)
  ce : ∀ j, j < t.length → w.cell? ⟨g, j * 5 + 4, none⟩ = some (.slice (r j).B (at_ t j).en.length (r j).d)
  sq : ∀ j, j < t.length → Blk w lo hi 3 (r j).A (at_ t j).sq.length
  en : ∀ j, j < t.length → Blk w lo hi 34 (r j).B ((at_ t j).en.length * 2)
theorem Sh.set {w : World} {lo hi g b k : Nat} {t : List Nd} {r : Nat → NAddr} (v : Value) (h : Sh w lo hi g t r) (hb : b ≠ g ∨ ∃ i, k = i * 5 + 2) : Sh (w.setCell ⟨b, k, none⟩ v) lo hi g t r := by
  have key : ∀ a, (∀ i, a ≠ i * 5 + 2) → 0 < t.length → (w.setCell ⟨b, k, none⟩ v).cell? ⟨g, a, none⟩ = w.cell? ⟨g, a, none⟩ := fun a ha hn => by
    by_cases e : g = b
    · subst e
      rcases hb with hb | ⟨i, rfl⟩
      · exact absurd rfl hb
      obtain ⟨x, cur, e, _, _, h3, _⟩ := h.row (by omega)
      simp at e
      subst e
      exact cell_set_ne h3 (ha i)
    · exact cell_set_far v e
  exact ⟨h.row.set v, fun j hj => (key _ (fun i => by omega) (by omega)).trans (h.cs j hj), fun j hj => (key _ (fun i => by omega) (by omega)).trans (h.ce j hj), fun j hj => (h.sq j hj).set v, fun j hj => (h.en j hj).set v⟩
theorem TRg.sh {w : World} {lo hi g cap : Nat} {t : List Nd} {r : Nat → NAddr} (h : TRg w lo hi (some ⟨g, 0, none⟩) cap t r) (hl : t.length ≤ 40) (hs : ∀ n ∈ t, n.sq.length ≤ 60 ∧ n.en.length ≤ 60) : Sh w lo hi g t r := by
  have hL := h.own.lies hl hs
  have hc : ∀ j, j < t.length → w.cell? ⟨g, j * 5 + 3, none⟩ = some (.slice (r j).A (at_ t j).sq.length (r j).c) ∧ w.cell? ⟨g, j * 5 + 4, none⟩ = some (.slice (r j).B (at_ t j).en.length (r j).d) := fun j hj => by
    obtain ⟨B, o, e, -, ⟨-, -, -, c3, c4⟩, -⟩ := hL.node hj
    simp at e
    obtain ⟨rfl, rfl⟩ := e
    simp only [Nat.zero_add] at c3 c4
    exact ⟨c3, c4⟩
  refine ⟨Blk.own h.own.row h.row, fun j hj => (hc j hj).1, fun j hj => (hc j hj).2, fun j hj => ?_, fun j hj => ?_⟩
  · have := Blk.own (h.own.sq j hj) (h.sq j hj)
    rw [Nat.mul_one] at this
    rw [at_lt hj]; exact this
  · have := Blk.own (h.own.en j hj) (h.en j hj)
    rw [at_lt hj]; exact this
theorem TRg.shq {w : World} {lo hi cap : Nat} {q : Option Addr} {t : List Nd} {r : Nat → NAddr} (h : TRg w lo hi q cap t r) (hl : t.length ≤ 40) (hs : ∀ n ∈ t, n.sq.length ≤ 60 ∧ n.en.length ≤ 60) : ∃ g, (0 < t.length → q = some ⟨g, 0, none⟩) ∧ Sh w lo hi g t r := by
  by_cases hn : 0 < t.length
  · obtain ⟨g, rfl⟩ := row_where h.own.row hn
    exact ⟨g, fun _ => rfl, h.sh hl hs⟩
  · exact ⟨0, fun e => absurd e hn, fun e => by omega, fun j hj => by omega, fun j hj => by omega, fun j hj => by omega, fun j hj => by omega⟩
theorem own_type {w : World} {base size n g : Nat} {T : TypeId} {v : Value} {xs : List Value} (h : w.ownsRow base T size v n xs) (e : v.ownBlock = some g) : ∃ cur, w.heap[g]? = some (.cells cur T (0, 0)) := by
  rcases h.2 with ⟨rfl, _⟩ | ⟨g1, c1, u1, rfl, _, k1, _⟩
  · cases e
  · cases e
    exact ⟨u1, k1⟩
theorem trtypes : (3 : TypeId) ≠ 24 ∧ (34 : TypeId) ≠ 24 ∧ (32 : TypeId) ≠ 24 := by decide
/-- A box of a tree is none of a copy's blocks. -/
theorem TRg.box {w : World} {lo hi cap p k : Nat} {q : Option Addr} {t : List Nd} {r : Nat → NAddr} {cur : Array Value} (v : Value) (h : TRg w lo hi q cap t r) (hp : w.heap[p]? = some (.cells cur 24 (0, 0))) : TRg (w.setCell ⟨p, k, none⟩ v) lo hi q cap t r := by
  have key : ∀ {T : TypeId} {base size n g : Nat} {v1 : Value} {xs : List Value}, T ≠ 24 → w.ownsRow base T size v1 n xs → v1.ownBlock = some g → (w.setCell ⟨p, k, none⟩ v).heap[g]? = w.heap[g]? := fun hT ho e => by
    obtain ⟨u, hu⟩ := own_type ho e
    refine Below.heap_setCell _ _ _ _ fun hh => ?_
    subst hh
    rw [hu] at hp
    simp at hp
    exact hT hp.2
  exact ⟨⟨own_keep h.own.row fun g e => key trtypes.2.2 h.own.row e, fun j hj => own_keep (h.own.sq j hj) fun g e => key trtypes.1 (h.own.sq j hj) e, fun j hj => own_keep (h.own.en j hj) fun g e => key trtypes.2.1 (h.own.en j hj) e⟩, h.row, h.sq, h.en⟩
theorem Blk.at {w : World} {lo hi n k : Nat} {T : TypeId} {A : Option Addr} (h : Blk w lo hi T A n) (hk : k < n) : ∃ b cur v, A = some ⟨b, 0, none⟩ ∧ lo ≤ b ∧ b < hi ∧ w.heap[b]? = some (.cells cur T (0, 0)) ∧ w.cell? ⟨b, k, none⟩ = some v ∧ w.frozen? ⟨b, k, none⟩ = false := by
  obtain ⟨b, cur, e, h1, h2, h3, h4⟩ := h (by omega)
  exact ⟨b, cur, cur[k], e, h1, h2, h3, by simp [World.cell?, h3, show k < cur.size by omega], by simp [World.frozen?, h3]⟩
theorem wpList_store_tree {ops : Array Oper} {Q : Exit → Act → World → Prop} {rest : List Oper} {o : Oper} {a : Act} {w : World} (i j : Nat) (p : Nat) {A : Option Addr} {n d : Nat} {v0 : Value} (hgd : o.guard = none) (ho : o.op = .store 24 (.tmp i) (.tmp j)) (hds : o.dst = none)
    (hi : a.eval (.tmp i) = .pointer (some ⟨p, 0, none⟩)) (hj : a.eval (.tmp j) = .agg #[.slice A n d]) (hb : w.heap[p]? = some (.cells #[v0] 24 (0, 0)))
    (h : wpList Tryd.prog ops Q rest a (w.setCell ⟨p, 0, none⟩ (.slice A n d))) : wpList Tryd.prog ops Q (o :: rest) a w := by
  refine wpList_plain hgd fun _ hK => ?_
  unfold Oper.wp execOp
  obtain ⟨hc, hf⟩ := tbox_cell hb
  simp only [ho, hi, hj]
  simp [go_sem, hc, hf]
  rw [hds]
  exact hK _ _ h
/-- The world while a copy in the range is spoilt: all else is as it was, boxes of trees too. -/
structure Spoilt (V w : World) (lo hi g : Nat) (t : List Nd) (r : Nat → NAddr) : Prop where
  sh : Sh w lo hi g t r
  be : Below lo V w
  ne : ∀ b, (b < lo ∨ hi ≤ b ∨ ∃ cur, V.heap[b]? = some (.cells cur 24 (0, 0))) → w.heap[b]? = V.heap[b]?
theorem Spoilt.set {V w : World} {lo hi g b k : Nat} {cur : Array Value} {T : TypeId} {t : List Nd} {r : Nat → NAddr} (v : Value) (h : Spoilt V w lo hi g t r) (hT : T ≠ 24) (hb : w.heap[b]? = some (.cells cur T (0, 0))) (h1 : lo ≤ b) (h2 : b < hi) (hg : b ≠ g ∨ ∃ i, k = i * 5 + 2) : Spoilt V (w.setCell ⟨b, k, none⟩ v) lo hi g t r := by
  refine ⟨h.sh.set v hg, h.be.setCell h1 _, fun x hx => ?_⟩
  have hne : x ≠ b := fun e => by
    subst e
    rcases hx with hx | hx | ⟨c, hx⟩
    · omega
    · omega
    · have := h.ne x (.inr (.inr ⟨c, hx⟩))
      rw [hb, hx] at this
      simp at this
      exact hT this.2
  exact (Below.heap_setCell _ _ _ _ hne).trans (h.ne x hx)
theorem Spoilt.row {V w : World} {lo hi g b k : Nat} {cur : Array Value} {T : TypeId} {t : List Nd} {r : Nat → NAddr} (v : Value) (h : Spoilt V w lo hi g t r) (hT : T ≠ 24) (hN : T ≠ 32) (hn : 0 < t.length) (hb : w.heap[b]? = some (.cells cur T (0, 0))) (h1 : lo ≤ b) (h2 : b < hi) : Spoilt V (w.setCell ⟨b, k, none⟩ v) lo hi g t r :=
  h.set v hT hb h1 h2 (.inl fun e => by
    obtain ⟨x, c, e2, _, _, h3, _⟩ := h.sh.row (by omega)
    simp at e2
    subst e2
    subst e
    rw [h3] at hb
    simp at hb
    exact hN hb.2.symm)
end Go.Proofs.YtfboilbmehcgoaaDoor
