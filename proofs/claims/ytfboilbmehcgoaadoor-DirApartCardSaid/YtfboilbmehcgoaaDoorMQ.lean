/- Copies of a tree turned in one place: a node's Links or Size, the last of its Seqs (for DirApart). -/
import Derived.Test.YtfboilbmehcgoaaDoorMK
import Derived.Lib.Zigzag
import Derived.Test.YtfboilbmehcgoaaDoorMD
import Derived.Test.YtfboilbmehcgoaaDoorMI
namespace Go.Proofs.YtfboilbmehcgoaaDoor
open Go.RowKit Go.Lib

theorem i64_xor (a x : Int) (ha : -9223372036854775808 ≤ a ∧ a ≤ 9223372036854775807) (hx : -9223372036854775808 ≤ x ∧ x ≤ 9223372036854775807) : bits .xor .i64 a x = a ↔ x = 0 := by
  have e : bits .xor .i64 a x = IntKind.i64.wrap ((BitVec.ofInt 64 a ^^^ BitVec.ofInt 64 x).toNat : Int) := rfl
  have h1 : ((BitVec.ofInt 64 a).toNat : Int) = a % 18446744073709551616 := by rw [BitVec.toNat_ofInt]; omega
  have h2 : ((BitVec.ofInt 64 x).toNat : Int) = x % 18446744073709551616 := by rw [BitVec.toNat_ofInt]; omega
  rw [e, BitVec.toNat_xor, IntKind.wrap_i64]
  generalize (BitVec.ofInt 64 a).toNat = A at h1 ⊢
  generalize (BitVec.ofInt 64 x).toNat = X at h2 ⊢
  have hN : A ^^^ X < 2 ^ 64 := Nat.xor_lt_two_pow (by omega) (by omega)
  have key : A ^^^ X = A ↔ X = 0 := by
    refine ⟨fun h => ?_, fun h => by rw [h, Nat.xor_zero]⟩
    have h3 : A ^^^ (A ^^^ X) = A ^^^ A := by rw [h]
    rwa [← Nat.xor_assoc, Nat.xor_self, Nat.zero_xor] at h3
  generalize A ^^^ X = N at hN key ⊢
  by_cases hx0 : x = 0
  · have : N = A := key.2 (by omega)
    omega
  · have : N ≠ A := fun h => hx0 (by have := key.1 h; omega)
    omega
theorem ncells_set (r : Nat → NAddr) {f : Nat} {n' : Nd} {v : Value} (hf : f < 5) : ∀ (i : Nat) (t : List Nd) (k : Nat) (h : k < t.length), nenc n' (r (i + k)) = (nenc t[k] (r (i + k))).set f v → ncells r i (t.set k n') = (ncells r i t).set (k * 5 + f) v
  | _, [], _, h, _ => by cases h
  | i, n :: t, 0, h, e => by
    simp only [List.getElem_cons_zero, Nat.add_zero] at e
    rw [List.set_cons_zero, ncells, ncells, e, Nat.zero_mul, Nat.zero_add, List.set_append_left _ _ (by simp [nenc]; omega)]
  | i, n :: t, k + 1, h, e => by
    simp only [List.getElem_cons_succ, show i + (k + 1) = i + 1 + k by omega] at e
    rw [List.set_cons_succ, ncells, ncells, ncells_set r hf (i + 1) t k (by simpa using h) e, List.set_append_right _ _ (by simp [nenc]; omega)]
    congr 2
    simp [nenc]; omega
/-- A node's field that is no row, turned. -/
theorem turn_cell {w : World} {lo hi g cap k f : Nat} {t : List Nd} {r : Nat → NAddr} {n' : Nd} {v : Value} (h : TRg w lo hi (some ⟨g, 0, none⟩) cap t r) (hk : k < t.length) (hf : f < 5) (hn : nenc n' (r k) = (nenc t[k] (r k)).set f v) (hsq : n'.sq = t[k].sq) (hen : n'.en = t[k].en) : TRg (w.setCell ⟨g, k * 5 + f, none⟩ v) lo hi (some ⟨g, 0, none⟩) cap (t.set k n') r := by
  have key : ∀ {T : TypeId} {base size n b : Nat} {v1 : Value} {xs : List Value}, T ≠ 32 → w.ownsRow base T size v1 n xs → v1.ownBlock = some b → (w.setCell ⟨g, k * 5 + f, none⟩ v).heap[b]? = w.heap[b]? := fun hT ho e => by
    obtain ⟨u, hu⟩ := own_type ho e
    obtain ⟨u2, hu2⟩ := own_type h.own.row (g := g) rfl
    refine Below.heap_setCell _ _ _ _ fun hh => ?_
    subst hh
    rw [hu] at hu2
    simp at hu2
    exact hT hu2.2
  have hs : ∀ j (hj : j < (t.set k n').length) (hj' : j < t.length), (t.set k n')[j].sq = t[j].sq ∧ (t.set k n')[j].en = t[j].en := fun j hj hj' => by
    rw [List.getElem_set]
    split
    · next e => subst e; exact ⟨hsq, hen⟩
    · exact ⟨rfl, rfl⟩
  have hl : (t.set k n').length = t.length := List.length_set
  have hr := (World.ownsRow.stored h.own.row (k * 5 + f) v).1
  rw [← ncells_set r hf 0 t k hk (by rw [Nat.zero_add]; exact hn)] at hr
  refine ⟨⟨by rw [hl]; exact hr, fun j hj => ?_, fun j hj => ?_⟩, by rw [hl]; exact h.row, fun j hj => ?_, fun j hj => ?_⟩
  · rw [(hs j hj (by omega)).1]; exact own_keep (h.own.sq j (by omega)) fun b e => key ndtypes.1 (h.own.sq j (by omega)) e
  · rw [(hs j hj (by omega)).2]; exact own_keep (h.own.en j (by omega)) fun b e => key ndtypes.2 (h.own.en j (by omega)) e
  · rw [(hs j hj (by omega)).1]; exact h.sq j (by omega)
  · rw [(hs j hj (by omega)).2]; exact h.en j (by omega)
/-- All nodes whose Seqs lie at block b, with the j-th of them turned. -/
def turnS (r : Nat → NAddr) (b j : Nat) (v : Int) : Nat → List Nd → List Nd
  | _, [] => []
  | i, n :: t => (if (r i).A = some ⟨b, 0, none⟩ then { n with sq := n.sq.set j v } else n) :: turnS r b j v (i + 1) t
theorem turnS_len (r : Nat → NAddr) (b j : Nat) (v : Int) : ∀ (i : Nat) (t : List Nd), (turnS r b j v i t).length = t.length
  | _, [] => rfl
  | i, n :: t => by rw [turnS, List.length_cons, List.length_cons, turnS_len r b j v (i + 1) t]
theorem turnS_at (r : Nat → NAddr) (b j : Nat) (v : Int) : ∀ (i : Nat) (t : List Nd) (k : Nat) (h : k < (turnS r b j v i t).length) (h' : k < t.length), (turnS r b j v i t)[k] = if (r (i + k)).A = some ⟨b, 0, none⟩ then { t[k] with sq := t[k].sq.set j v } else t[k]
  | _, [], _, _, h => by cases h
  | i, n :: t, 0, h, h' => by simp only [turnS, List.getElem_cons_zero, Nat.add_zero]
  | i, n :: t, k + 1, h, h' => by
    simp only [turnS, List.getElem_cons_succ]
    rw [turnS_at r b j v (i + 1) t k (by simpa [turnS] using h) (by simpa using h'), show i + 1 + k = i + (k + 1) by omega]
theorem turnS_cells (r : Nat → NAddr) (b j : Nat) (v : Int) : ∀ (i : Nat) (t : List Nd), ncells r i (turnS r b j v i t) = ncells r i t
  | _, [] => rfl
  | i, n :: t => by
    rw [turnS, ncells, ncells, turnS_cells r b j v (i + 1) t]
    split <;> simp [nenc]
/-- One of a node's Seqs turned: a tree lies there, the same only if what is stored is what stood there. -/
theorem turn_seq {w : World} {lo hi cap k j b : Nat} {q : Option Addr} {t : List Nd} {r : Nat → NAddr} (v : Int) (h : TRg w lo hi q cap t r) (hk : k < t.length) (hA : (r k).A = some ⟨b, 0, none⟩) (hj : j < t[k].sq.length) : TRg (w.setCell ⟨b, j, none⟩ (.int .i64 v)) lo hi q cap (turnS r b j v 0 t) r ∧ (turnS r b j v 0 t = t ↔ v = t[k].sq[j]) := by
  have hl := turnS_len r b j v 0 t
  have hb : (Value.slice (r k).A t[k].sq.length (r k).c).ownBlock = some b := by rw [hA]; rfl
  obtain ⟨u, hu⟩ := own_type (h.own.sq k hk) hb
  have key : ∀ {T : TypeId} {base size n b1 : Nat} {v1 : Value} {xs : List Value}, T ≠ 3 → w.ownsRow base T size v1 n xs → v1.ownBlock = some b1 → (w.setCell ⟨b, j, none⟩ (.int .i64 v)).heap[b1]? = w.heap[b1]? := fun hT ho e => by
    obtain ⟨u2, hu2⟩ := own_type ho e
    refine Below.heap_setCell _ _ _ _ fun hh => ?_
    subst hh
    rw [hu] at hu2
    simp at hu2
    exact hT hu2.2.symm
  have hat : ∀ i (hi : i < (turnS r b j v 0 t).length) (hi' : i < t.length), (turnS r b j v 0 t)[i] = if (r i).A = some ⟨b, 0, none⟩ then { t[i] with sq := t[i].sq.set j v } else t[i] := fun i hi hi' => by
    rw [turnS_at r b j v 0 t i hi hi', Nat.zero_add]
  have hq : ∀ i (hi : i < (turnS r b j v 0 t).length) (hi' : i < t.length), (turnS r b j v 0 t)[i].sq.length = t[i].sq.length ∧ (turnS r b j v 0 t)[i].en = t[i].en := fun i hi hi' => by
    rw [hat i hi hi']; split <;> simp
  refine ⟨⟨⟨by rw [hl, turnS_cells]; exact own_keep h.own.row fun b1 e => key (Ne.symm ndtypes.1) h.own.row e, fun i hi => ?_, fun i hi => ?_⟩, by rw [hl]; exact h.row, fun i hi => ?_, fun i hi => ?_⟩, ?_⟩
  · have hi' : i < t.length := by omega
    rw [hat i hi hi']
    by_cases e : (r i).A = some ⟨b, 0, none⟩
    · rw [if_pos e]
      have h0 := h.own.sq i hi'
      rw [e] at h0
      have h1 := (World.ownsRow.stored h0 j (.int .i64 v)).1
      rw [e]
      have h2 : (icells t[i].sq).set j (.int .i64 v) = icells (t[i].sq.set j v) := by simp [icells, List.map_set]
      rw [h2] at h1
      simpa [IOwn] using h1
    · rw [if_neg e]
      refine own_keep (h.own.sq i hi') fun b1 e1 => Below.heap_setCell _ _ _ _ fun hh => e ?_
      have e1' : (Value.slice (r i).A t[i].sq.length (r i).c).ownBlock = some b1 := e1
      subst hh
      rcases (h.own.sq i hi').2 with ⟨e2, _⟩ | ⟨g', cap', cur, e2, _⟩
      · simp at e2
        rw [e2.1] at e1'
        cases e1'
      · simp at e2
        rw [e2.1] at e1' ⊢
        cases e1'
        rfl
  · have hi' : i < t.length := by omega
    rw [(hq i hi hi').2]
    exact own_keep (h.own.en i hi') fun b1 e => key (fun e => absurd e (by decide)) (h.own.en i hi') e
  · have hi' : i < t.length := by omega
    rw [(hq i hi hi').1]; exact h.sq i hi'
  · have hi' : i < t.length := by omega
    rw [(hq i hi hi').2]; exact h.en i hi'
  · constructor
    · intro e
      have h1 := hat k (by omega) hk
      rw [if_pos hA] at h1
      have h2 : (turnS r b j v 0 t)[k]'(by omega) = t[k] := by simp only [e]
      rw [h2] at h1
      have h3 : t[k].sq = t[k].sq.set j v := congrArg Nd.sq h1
      have h4 : (t[k].sq.set j v)[j]'(by simpa using hj) = v := by simp
      rw [← h4]
      simp only [← h3]
    · intro e
      refine List.ext_getElem hl fun i h1 h2 => ?_
      rw [hat i h1 h2]
      split
      · next e1 =>
        have h3 : t[i].sq.set j v = t[i].sq := by
          by_cases hji : j < t[i].sq.length
          · have a1 := h.own.sq i h2
            rw [e1] at a1
            have a2 := h.own.sq k hk
            rw [hA] at a2
            have c1 := (IOwn.at a1 j hji).1
            have c2 := (IOwn.at a2 j hj).1
            rw [c1] at c2
            simp at c2
            rw [e, ← c2]
            simp
          · exact List.set_eq_of_length_le (by omega)
        rw [h3]
      · rfl
end Go.Proofs.YtfboilbmehcgoaaDoor

/- DirApart, over what the landed calls are asked to answer (written by mktrq.py). -/
namespace Go.Proofs.YtfboilbmehcgoaaDoor
open Go.RowKit Go.Lib

theorem below_set {B : Nat} {V w : World} (h : Below B V w) (b k : Nat) (u : Value) (hp : B ≤ b) : Below B V (w.setCell ⟨b, k, none⟩ u) := h.setCell (p := ⟨b, k, none⟩) hp u
/-- A copy in its box. -/
structure Cpy (w : World) (p lo hi g cap : Nat) (t : List Nd) (r : Nat → NAddr) : Prop where
  box : w.heap[p]? = some (.cells #[.slice (some ⟨g, 0, none⟩) t.length cap] 24 (0, 0))
  rg : TRg w lo hi (some ⟨g, 0, none⟩) cap t r
theorem box_ne {w : World} {p b : Nat} {c1 c2 : Array Value} {T : TypeId} (hp : w.heap[p]? = some (.cells c1 24 (0, 0))) (hb : w.heap[b]? = some (.cells c2 T (0, 0))) (hT : T ≠ 24) : p ≠ b := fun e => by
  subst e
  rw [hp] at hb
  simp at hb
  exact hT hb.2.symm
theorem Cpy.far {w : World} {p lo hi g cap b k : Nat} {t : List Nd} {r : Nat → NAddr} {cur : Array Value} {T : TypeId} (v : Value) (h : Cpy w p lo hi g cap t r) (hb : w.heap[b]? = some (.cells cur T (0, 0))) (hT : T ≠ 24) (ho : b < lo ∨ hi ≤ b) : Cpy (w.setCell ⟨b, k, none⟩ v) p lo hi g cap t r :=
  ⟨(Below.heap_setCell _ _ _ _ (box_ne h.box hb hT)).trans h.box, h.rg.keep fun x h1 h2 => Below.heap_setCell _ _ _ _ (by rintro rfl; omega)⟩
theorem Cpy.next {w : World} {p lo hi g cap p' : Nat} {t : List Nd} {r : Nat → NAddr} {cur : Array Value} (v : Value) (h : Cpy w p lo hi g cap t r) (hb : w.heap[p']? = some (.cells cur 24 (0, 0))) (hn : p ≠ p') : Cpy (w.setCell ⟨p', 0, none⟩ v) p lo hi g cap t r :=
  ⟨(Below.heap_setCell _ _ _ _ hn).trans h.box, h.rg.box v hb⟩
theorem Cpy.cell {w : World} {p lo hi g cap k f : Nat} {t : List Nd} {r : Nat → NAddr} {n' : Nd} {v : Value} (h : Cpy w p lo hi g cap t r) (hk : k < t.length) (hf : f < 5) (hn : nenc n' (r k) = (nenc t[k] (r k)).set f v) (hsq : n'.sq = t[k].sq) (hen : n'.en = t[k].en) : Cpy (w.setCell ⟨g, k * 5 + f, none⟩ v) p lo hi g cap (t.set k n') r := by
  obtain ⟨u, hu⟩ := own_type h.rg.own.row (g := g) rfl
  exact ⟨by rw [List.length_set]; exact (Below.heap_setCell _ _ _ _ (box_ne h.box hu trtypes.2.2)).trans h.box, turn_cell h.rg hk hf hn hsq hen⟩
theorem Cpy.cell2 {w : World} {p lo hi g cap k f : Nat} {t : List Nd} {r : Nat → NAddr} {n0 n' : Nd} {v : Value} (h : Cpy w p lo hi g cap t r) (hk : k < t.length) (h0 : at_ t k = n0) (hf : f < 5) (hn : nenc n' (r k) = (nenc n0 (r k)).set f v) (hsq : n'.sq = n0.sq) (hen : n'.en = n0.en) : Cpy (w.setCell ⟨g, k * 5 + f, none⟩ v) p lo hi g cap (t.set k n') r := by
  subst h0
  rw [at_lt hk] at hn hsq hen
  exact h.cell hk hf hn hsq hen
theorem Cpy.seq {w : World} {p lo hi g cap k j b : Nat} {t : List Nd} {r : Nat → NAddr} (v : Int) (h : Cpy w p lo hi g cap t r) (hk : k < t.length) (hA : (r k).A = some ⟨b, 0, none⟩) (hj : j < t[k].sq.length) : Cpy (w.setCell ⟨b, j, none⟩ (.int .i64 v)) p lo hi g cap (turnS r b j v 0 t) r ∧ (turnS r b j v 0 t = t ↔ v = t[k].sq[j]) := by
  obtain ⟨h1, h2⟩ := turn_seq v h.rg hk hA hj
  obtain ⟨u, hu⟩ := own_type (h.rg.own.sq k hk) (g := b) (by rw [hA]; rfl)
  exact ⟨⟨by rw [turnS_len]; exact (Below.heap_setCell _ _ _ _ (box_ne h.box hu trtypes.1)).trans h.box, h1⟩, h2⟩
theorem Cpy.cells {w : World} {p lo hi g cap k : Nat} {t : List Nd} {r : Nat → NAddr} (h : Cpy w p lo hi g cap t r) (hl : LightT t) (hk : k < t.length) : w.cell? ⟨p, 0, none⟩ = some (.slice (some ⟨g, 0, none⟩) t.length cap) ∧ w.cell? ⟨g, k * 5 + 1, none⟩ = some (.int .i64 (at_ t k).l) ∧ w.cell? ⟨g, k * 5 + 2, none⟩ = some (.int .i64 (at_ t k).z) ∧ w.cell? ⟨g, k * 5 + 3, none⟩ = some (.slice (r k).A (at_ t k).sq.length (r k).c) ∧ ∀ j, w.frozen? ⟨g, j, none⟩ = false := by
  obtain ⟨B, o, e, -, ⟨c0, c1, c2, c3, c4⟩, -⟩ := (h.rg.own.lies hl.1 hl.2).node hk
  simp at e
  obtain ⟨rfl, rfl⟩ := e
  simp only [Nat.zero_add] at c1 c2 c3
  exact ⟨(tbox_cell h.box).1, c1, c2, c3, fun j => World.ownsRow.frozenAt h.rg.own.row j⟩
theorem Cpy.at_g {w : World} {p lo hi g cap : Nat} {t : List Nd} {r : Nat → NAddr} (h : Cpy w p lo hi g cap t r) : (∃ cur, w.heap[g]? = some (.cells cur 32 (0, 0))) ∧ lo ≤ g ∧ g < hi := by
  obtain ⟨u, hu⟩ := own_type h.rg.own.row (g := g) rfl
  exact ⟨⟨u, hu⟩, (h.rg.own.row.lt g rfl).1, h.rg.row g rfl⟩
theorem wf_le {x : Int} (h : (Lit.int .i64 x).wf = true) : -9223372036854775808 ≤ x ∧ x ≤ 9223372036854775807 := by
  have h0 : IntKind.min .i64 = -9223372036854775808 := by decide
  have h1 : IntKind.max .i64 = 9223372036854775807 := by decide
  simpa [Lit.wf, h0, h1] using h
theorem set_eq {t : List Nd} {k : Nat} {n0 n' : Nd} (hk : k < t.length) (h0 : at_ t k = n0) : t = t.set k n' ↔ n' = n0 := by
  subst h0
  rw [at_lt hk]
  constructor
  · intro e
    have h1 : (t.set k n')[k]'(by simpa using hk) = n' := by simp
    rw [← h1]
    simp only [← e]
  · intro e
    rw [e]; simp
theorem light_set {t : List Nd} {k : Nat} {n0 n' : Nd} (hl : LightT t) (hk : k < t.length) (h0 : at_ t k = n0) (h1 : n'.sq = n0.sq) (h2 : n'.en = n0.en) : LightT (t.set k n') := by
  subst h0
  refine ⟨by simpa using hl.1, fun n hn => ?_⟩
  rcases List.mem_or_eq_of_mem_set hn with h | h
  · exact hl.2 n h
  · subst h; rw [h1, h2]; exact hl.2 _ (at_mem hk)
theorem light_turn {r : Nat → NAddr} {b j : Nat} {v : Int} {t : List Nd} (hl : LightT t) : LightT (turnS r b j v 0 t) := by
  refine ⟨by rw [turnS_len]; exact hl.1, fun n hn => ?_⟩
  obtain ⟨i, hi, rfl⟩ := List.getElem_of_mem hn
  have hi' : i < t.length := by rw [turnS_len] at hi; exact hi
  rw [turnS_at r b j v 0 t i hi hi']
  have := hl.2 _ (List.getElem_mem hi')
  split
  · exact ⟨by simpa using this.1, this.2⟩
  · exact this
theorem same_call
    (lsm : ∀ (t u : List Nd) (A A' : Option Addr) (c c' : Nat) (r r' : Nat → NAddr) (w : World), TLies w A c t r → TLies w A' c' u r' → LightT t → LightT u → Calls Tryd.prog 24 #[.agg #[.slice A t.length c], .agg #[.slice A' u.length c']] w fun x w' => x = .returned (.bool (decide (t = u))) ∧ Below w.heap.size w w')
    {Z w1 : World} {p lo hi g cap c : Nat} {A : Option Addr} {t u : List Nd} {r r0 : Nat → NAddr} (hb : Below Z.heap.size Z w1) (hC : Cpy Z p lo hi g cap u r) (hlen : u.length = t.length) (hN : TLies w1 A c t r0) (hlt : LightT t) (hlu : LightT u) (b : Bool) (hbb : decide (t = u) = b) :
    (Calls Tryd.prog 24 #[.agg #[.slice A t.length c], .agg #[.slice (some ⟨g, 0, none⟩) t.length cap]] w1 fun x w' => x = .returned (.bool b) ∧ Below w1.heap.size w1 w') ∧ (Calls Tryd.prog 24 #[.agg #[.slice (some ⟨g, 0, none⟩) t.length cap], .agg #[.slice A t.length c]] w1 fun x w' => x = .returned (.bool b) ∧ Below w1.heap.size w1 w') := by
  have h2 := (hC.rg.own.below hb).lies hlu.1 hlu.2
  have a1 := lsm t u A (some ⟨g, 0, none⟩) c cap r0 r w1 hN h2 hlt hlu
  have a2 := lsm u t (some ⟨g, 0, none⟩) A cap c r r0 w1 h2 hN hlu hlt
  rw [hbb, hlen] at a1
  rw [show decide (u = t) = decide (t = u) from decide_eq_decide.2 ⟨Eq.symm, Eq.symm⟩, hbb, hlen] at a2
  exact ⟨a1, a2⟩
set_option maxRecDepth 100000 in
set_option maxHeartbeats 16000000 in
theorem apart_law
    (lsm : ∀ (t u : List Nd) (A A' : Option Addr) (c c' : Nat) (r r' : Nat → NAddr) (w : World), TLies w A c t r → TLies w A' c' u r' → LightT t → LightT u → Calls Tryd.prog 24 #[.agg #[.slice A t.length c], .agg #[.slice A' u.length c']] w fun x w' => x = .returned (.bool (decide (t = u))) ∧ Below w.heap.size w w')
    (awk : ∀ w : World, Calls Tryd.prog 10 #[] w fun x w' => x = .returned (.bool true) ∧ Below w.heap.size w w')
    (t : List Nd) (A : Option Addr) (c : Nat) (r : Nat → NAddr) (k0 x : Int) (w : World) (h : TLies w A c t r) (hwf : ∀ n ∈ t, NWf n) (hx : (Lit.int .i64 x).wf = true) : Calls Tryd.prog 8 #[.agg #[.slice A t.length c], .int .i64 k0, .int .i64 x] w fun e w' => e = .returned (.bool true) ∧ Below w.heap.size w w' := by
  have HH := Lib.hid h
  have HLC := Lib.hid (lightT_cases t)
  have HBA := Lib.hid ((Below.refl w.heap.size w).alloc (Nat.le_refl _) (.cells #[.slice A t.length c] 24))
  have HX := Lib.hid (heap_alloc_new w (.cells #[.slice A t.length c] 24))
  have HLA := Lib.hid (fun w1 h => lightT_any t A c r w1 h)
  have HCR := Lib.hid (fun w1 h h4 h6 => copyTr_any t A c r w1 h h4 h6)
  have HSM := Lib.hid lsm
  have HST : Hid (∀ (w : World), TLies w A c t r → LightT t → Calls Tryd.prog 24 #[.agg #[.slice A t.length c], .agg #[.slice A t.length c]] w fun x w' => x = .returned (.bool true) ∧ Below w.heap.size w w') := Lib.hid fun w h1 h2 => by
    have := lsm t t A A c c r r w h1 h1 h2 h2
    rwa [decide_eq_true rfl] at this
  have HAW := Lib.hid awk
  have HWF := Lib.hid hwf
  have HWX := Lib.hid hx
  clear h lsm awk hwf hx
  obtain ⟨LA, hLA⟩ : ∃ L, lightT t = L := ⟨_, rfl⟩
  rw [hLA] at HLC HLA
  clear hLA
  go_enter Tryd.func8, Tryd.ntmps8
  go_upto_region 1 with (fail)
  generalize w.alloc _ = W at HBA HX ⊢
  obtain ⟨P, hP⟩ : ∃ P, P = w.heap.size := ⟨_, rfl⟩
  rw [← hP] at HX ⊢
  clear hP
  have HTL : Hid (∀ w1, Below W.heap.size W w1 → TLies w1 A c t r) := Lib.hid fun w1 hb => (HH.out.below HBA.out).below hb
  have hPz : Hid (P < W.heap.size) := Lib.hid (lt_size HX.out)
  have HPX : Hid (∀ w1, Below W.heap.size W w1 → w1.cell? ⟨P, 0, none⟩ = some (.slice A t.length c)) := Lib.hid fun w1 hb => by
    have := (hb.block P hPz.out).trans HX.out
    simp [World.cell?, this]
  have q0 := HPX.out W (Below.refl _ _)
  rcases HLC.out with ⟨rfl, hl⟩ | hpos
  case inr =>
    have b1 : decide (0 < LA) = true := decide_eq_true hpos
    clear hpos
    go_upto_region 2 with (first
      | (go_at_call 9; (with_reducible refine (HLA.out _ (HTL.out _ (Below.refl _ _))).mono ?_); rintro e w1 ⟨rfl, hb1⟩; replace hb1 := Lib.hid hb1; have q1 := HPX.out _ hb1.out)
      | fail)
    go_wp2_with (first
      | (go_at_call 9; (with_reducible refine (HLA.out _ (HTL.out _ hb1.out)).mono ?_); rintro e w2 ⟨rfl, hb2⟩; replace hb2 := Lib.hid (hb1.out.trans (hb2.mono hb1.out.size)))
      | (go_at_call 10; (with_reducible refine (HAW.out _).mono ?_); rintro e w3 ⟨rfl, hb3⟩; replace hb3 := Lib.hid (hb2.out.trans (hb3.mono hb2.out.size)))
      | fail)
    go_ret
    exact ⟨rfl, HBA.out.trans (hb3.out.mono HBA.out.size)⟩
  have HLT : Hid (LightT t) := Lib.hid hl
  clear hl
  by_cases hn0 : t.length = 0
  · have b2 : ((t.length : Int) == 0) = true := by simpa using hn0
    have b3 : decide ((t.length : Int) = 0) = true := decide_eq_true (by omega)
    clear hn0
    go_upto_region 2 with (first
      | (go_at_call 9; (with_reducible refine (HLA.out _ (HTL.out _ (Below.refl _ _))).mono ?_); rintro e w1 ⟨rfl, hb1⟩; replace hb1 := Lib.hid hb1; have q1 := HPX.out _ hb1.out)
      | fail)
    go_wp2_with (first
      | (go_at_call 9; (with_reducible refine (HLA.out _ (HTL.out _ hb1.out)).mono ?_); rintro e w2 ⟨rfl, hb2⟩; replace hb2 := Lib.hid (hb1.out.trans (hb2.mono hb1.out.size)); have q2 := HPX.out _ hb2.out)
      | (go_at_call 24; (with_reducible refine (HST.out _ (HTL.out _ hb2.out) HLT.out).mono ?_); rintro e w3 ⟨rfl, hb3⟩; replace hb3 := Lib.hid (hb2.out.trans (hb3.mono hb2.out.size)))
      | (go_at_call 10; (with_reducible refine (HAW.out _).mono ?_); rintro e w4 ⟨rfl, hb4⟩; replace hb4 := Lib.hid (hb3.out.trans (hb4.mono hb3.out.size)))
      | fail)
    go_ret
    exact ⟨rfl, HBA.out.trans (hb4.out.mono HBA.out.size)⟩
  have HN0 : Hid (0 < t.length) := Lib.hid (by omega)
  have b2 : ((t.length : Int) == 0) = false := by simpa using hn0
  obtain ⟨I, hI, hI2⟩ := u64_tmod k0 t.length (by omega) (by have := HLT.out.1; omega)
  have hIl : I < t.length := hI2
  have ht40 : t.length ≤ 40 := HLT.out.1
  have hIw : IntKind.i64.wrap (I : Int) = (I : Int) := i64w_idE _ (by omega)
  have hUw : IntKind.u64.wrap (t.length : Int) = (t.length : Int) := by
    have e : IntKind.u64.wrap (t.length : Int) = (t.length : Int) % 18446744073709551616 := by unfold IntKind.wrap; rfl
    rw [e]; omega
  clear hI2
  go_upto_region 4 with (first
    | (go_at_call 9; (with_reducible refine (HLA.out _ (HTL.out _ (Below.refl _ _))).mono ?_); rintro e w1 ⟨rfl, hb1⟩; replace hb1 := Lib.hid hb1; have q1 := HPX.out _ hb1.out)
    | (go_at_call 24; (with_reducible refine (HST.out _ (HTL.out _ hb1.out) HLT.out).mono ?_); rintro e w2 ⟨rfl, hb2⟩; replace hb2 := Lib.hid (hb1.out.trans (hb2.mono hb1.out.size)); have q2 := HPX.out _ hb2.out)
    | fail)
  obtain ⟨V, rfl⟩ : ∃ V, V = w2 := ⟨_, rfl⟩
  have HN := Lib.hid fun w1 (hb : Below V.heap.size V w1) => HTL.out w1 (hb2.out.trans (hb.mono hb2.out.size))
  have HK := Lib.hid fun w1 (hb : Below V.heap.size V w1) => HPX.out w1 (hb2.out.trans (hb.mono hb2.out.size))
  replace HBA := Lib.hid (HBA.out.trans (hb2.out.mono HBA.out.size))
  clear hb1 hb2 HLA HTL HPX hPz HX HLC HH q0 q1 q2
  have HC2 := Lib.hid (fun w1 h => HCR.out w1 h HLT.out.1 HLT.out.2)
  refine region_tail 9 (fun j v w' => match j with | 0 => v = .agg #[.slice A t.length c] | 1 => ∃ q1 k1 r1, v = .agg #[.slice q1 t.length k1] ∧ TOwn w' V.heap.size (.slice q1 t.length k1) t r1 | 2 => v = .agg #[.slice A t.length c] | 3 => ∃ q2 k2 r2, v = .agg #[.slice q2 t.length k2] ∧ TOwn w' V.heap.size (.slice q2 t.length k2) t r2 | 4 => v = .agg #[.slice A t.length c] | 5 => ∃ q3 k3 r3, v = .agg #[.slice q3 t.length k3] ∧ TOwn w' V.heap.size (.slice q3 t.length k3) t r3 | 6 => ∃ p, v = .pointer (some ⟨p, 0, none⟩) ∧ NewBox V w' p (#[.slice none 0 0]) 24 | 7 => ∃ q, v = .pointer (some ⟨q, 0, none⟩) ∧ NewBox V w' q (#[.slice none 0 0]) 24 | 8 => ∃ s, v = .pointer (some ⟨s, 0, none⟩) ∧ NewBox V w' s (#[.slice none 0 0]) 24 | _ => True) (fun vs w' => Below V.heap.size V w' ∧ Apart2 [6, 7, 8] vs w' ∧ ApT t V.heap.size [1, 3, 5] vs w') (fun w1 w2 => Below w1.heap.size w1 w2) (by kernel_rfl) (by kernel_rfl) (by kernel_rfl) (by kernel_rfl) (by kernel_rfl) (by kernel_rfl) ?hR ?hG ?hops ?hend
  case hR =>
    intro j v w1 w2 hv hb
    match j, hv with
    | 0, hv => exact hv
    | 1, ⟨q1, k1, r1, e, h⟩ => exact ⟨q1, k1, r1, e, h.below hb⟩
    | 2, hv => exact hv
    | 3, ⟨q2, k2, r2, e, h⟩ => exact ⟨q2, k2, r2, e, h.below hb⟩
    | 4, hv => exact hv
    | 5, ⟨q3, k3, r3, e, h⟩ => exact ⟨q3, k3, r3, e, h.below hb⟩
    | 6, ⟨p, e, h⟩ => exact ⟨p, e, h.below hb⟩
    | 7, ⟨q, e, h⟩ => exact ⟨q, e, h.below hb⟩
    | 8, ⟨s, e, h⟩ => exact ⟨s, e, h.below hb⟩
    | _ + 9, _ => exact trivial
  case hG => exact ⟨(Below.refl _ _).drew, ⟨Apart2.start (by intro i hi; simp only [List.mem_cons, List.not_mem_nil, or_false] at hi; rcases hi with rfl | rfl | rfl <;> rfl), ApT.start (by intro i hi; simp only [List.mem_cons, List.not_mem_nil, or_false] at hi; rcases hi with rfl | rfl | rfl <;> rfl)⟩⟩
  case hops =>
    refine OpsOkS.cons ?o0 (OpsOkS.cons ?o1 (OpsOkS.cons ?o2 (OpsOkS.cons ?o3 (OpsOkS.cons ?o4 (OpsOkS.cons ?o5 (OpsOkS.cons ?o6 (OpsOkS.cons ?o7 (OpsOkS.cons ?o8 OpsOkS.nil))))))))
    case o0 =>
      intro a w1 Kx hG need old hsz fresh hKx
      have e0 : a.tmps[3]?.getD undef = .pointer (some ⟨P, 0, none⟩) := by rw [← Array.getD_eq_getD_getElem?]; exact old 3 (by kernel_rfl)
      have j0 := HK.out w1 hG.1
      refine op_value (v := .agg #[.slice A t.length c]) (wanted_none rfl) ?_ (hKx _ w1 rfl ⟨hG.1, ⟨hG.2.1.keep (by decide) (Nat.le_refl _), hG.2.2.keep (by decide) (Below.refl _ _)⟩⟩ (Below.refl _ _))
      simp [execOp, go_sem, e0, j0]
    case o1 =>
      intro a w1 Kx hG need old hsz fresh hKx
      have e0 : a.tmps[52]?.getD undef = .agg #[.slice A t.length c] := by rw [← Array.getD_eq_getD_getElem?]; exact (need 0 (by kernel_rfl) (by kernel_rfl))
      refine op_call (wanted_none rfl) (f := 12) (args := #[.agg #[.slice A t.length c]]) ?run ((HC2.out w1 (HN.out w1 hG.1)).mono ?post)
      case run => simp [go_sem, e0]
      case post =>
        rintro e w2 ⟨q1, k1, r1, rfl, ho, hb2⟩
        exact ⟨_, rfl, hKx _ w2 ⟨q1, k1, r1, rfl, ho.base hG.1.size⟩ ⟨hG.1.trans (hb2.mono hG.1.size), ⟨hG.2.1.keep (by decide) hb2.size, hG.2.2.new hb2 hG.1.size ho⟩⟩ hb2⟩
    case o2 =>
      intro a w1 Kx hG need old hsz fresh hKx
      have e0 : a.tmps[3]?.getD undef = .pointer (some ⟨P, 0, none⟩) := by rw [← Array.getD_eq_getD_getElem?]; exact old 3 (by kernel_rfl)
      have j0 := HK.out w1 hG.1
      refine op_value (v := .agg #[.slice A t.length c]) (wanted_none rfl) ?_ (hKx _ w1 rfl ⟨hG.1, ⟨hG.2.1.keep (by decide) (Nat.le_refl _), hG.2.2.keep (by decide) (Below.refl _ _)⟩⟩ (Below.refl _ _))
      simp [execOp, go_sem, e0, j0]
    case o3 =>
      intro a w1 Kx hG need old hsz fresh hKx
      have e0 : a.tmps[54]?.getD undef = .agg #[.slice A t.length c] := by rw [← Array.getD_eq_getD_getElem?]; exact (need 2 (by kernel_rfl) (by kernel_rfl))
      refine op_call (wanted_none rfl) (f := 12) (args := #[.agg #[.slice A t.length c]]) ?run ((HC2.out w1 (HN.out w1 hG.1)).mono ?post)
      case run => simp [go_sem, e0]
      case post =>
        rintro e w2 ⟨q2, k2, r2, rfl, ho, hb2⟩
        exact ⟨_, rfl, hKx _ w2 ⟨q2, k2, r2, rfl, ho.base hG.1.size⟩ ⟨hG.1.trans (hb2.mono hG.1.size), ⟨hG.2.1.keep (by decide) hb2.size, hG.2.2.new hb2 hG.1.size ho⟩⟩ hb2⟩
    case o4 =>
      intro a w1 Kx hG need old hsz fresh hKx
      have e0 : a.tmps[3]?.getD undef = .pointer (some ⟨P, 0, none⟩) := by rw [← Array.getD_eq_getD_getElem?]; exact old 3 (by kernel_rfl)
      have j0 := HK.out w1 hG.1
      refine op_value (v := .agg #[.slice A t.length c]) (wanted_none rfl) ?_ (hKx _ w1 rfl ⟨hG.1, ⟨hG.2.1.keep (by decide) (Nat.le_refl _), hG.2.2.keep (by decide) (Below.refl _ _)⟩⟩ (Below.refl _ _))
      simp [execOp, go_sem, e0, j0]
    case o5 =>
      intro a w1 Kx hG need old hsz fresh hKx
      have e0 : a.tmps[56]?.getD undef = .agg #[.slice A t.length c] := by rw [← Array.getD_eq_getD_getElem?]; exact (need 4 (by kernel_rfl) (by kernel_rfl))
      refine op_call (wanted_none rfl) (f := 12) (args := #[.agg #[.slice A t.length c]]) ?run ((HC2.out w1 (HN.out w1 hG.1)).mono ?post)
      case run => simp [go_sem, e0]
      case post =>
        rintro e w2 ⟨q3, k3, r3, rfl, ho, hb2⟩
        exact ⟨_, rfl, hKx _ w2 ⟨q3, k3, r3, rfl, ho.base hG.1.size⟩ ⟨hG.1.trans (hb2.mono hG.1.size), ⟨hG.2.1.keep (by decide) hb2.size, hG.2.2.new hb2 hG.1.size ho⟩⟩ hb2⟩
    case o6 =>
      intro a w1 Kx hG need old hsz fresh hKx
      refine op_value (v := .pointer (some ⟨w1.heap.size, 0, none⟩)) (wanted_none rfl) ?_ (hKx _ (w1.alloc (.cells (#[.slice none 0 0]) 24)) ⟨w1.heap.size, rfl, ⟨hG.1.size, heap_alloc_new _ _⟩⟩ ⟨hG.1.alloc hG.1.size _, ⟨hG.2.1.alloc _, hG.2.2.keep (by decide) ((Below.refl _ _).alloc (Nat.le_refl _) _)⟩⟩ ((Below.refl _ _).alloc (Nat.le_refl _) _))
      simp [execOp, go_sem]
    case o7 =>
      intro a w1 Kx hG need old hsz fresh hKx
      refine op_value (v := .pointer (some ⟨w1.heap.size, 0, none⟩)) (wanted_none rfl) ?_ (hKx _ (w1.alloc (.cells (#[.slice none 0 0]) 24)) ⟨w1.heap.size, rfl, ⟨hG.1.size, heap_alloc_new _ _⟩⟩ ⟨hG.1.alloc hG.1.size _, ⟨hG.2.1.alloc _, hG.2.2.keep (by decide) ((Below.refl _ _).alloc (Nat.le_refl _) _)⟩⟩ ((Below.refl _ _).alloc (Nat.le_refl _) _))
      simp [execOp, go_sem]
    case o8 =>
      intro a w1 Kx hG need old hsz fresh hKx
      refine op_value (v := .pointer (some ⟨w1.heap.size, 0, none⟩)) (wanted_none rfl) ?_ (hKx _ (w1.alloc (.cells (#[.slice none 0 0]) 24)) ⟨w1.heap.size, rfl, ⟨hG.1.size, heap_alloc_new _ _⟩⟩ ⟨hG.1.alloc hG.1.size _, ⟨hG.2.1.alloc _, hG.2.2.keep (by decide) ((Below.refl _ _).alloc (Nat.le_refl _) _)⟩⟩ ((Below.refl _ _).alloc (Nat.le_refl _) _))
      simp [execOp, go_sem]
  case hend =>
    intro a w6 hG hde hsz hφ hold
    obtain ⟨q1_1, k1_1, r1_1, hv_1, hp_1⟩ := hφ 1 (by decide)
    obtain ⟨q2_3, k2_3, r2_3, hv_3, hp_3⟩ := hφ 3 (by decide)
    obtain ⟨q3_5, k3_5, r3_5, hv_5, hp_5⟩ := hφ 5 (by decide)
    obtain ⟨p_6, hv_6, hp_6⟩ := hφ 6 (by decide)
    obtain ⟨q_7, hv_7, hp_7⟩ := hφ 7 (by decide)
    obtain ⟨s_8, hv_8, hp_8⟩ := hφ 8 (by decide)
    have ap67 := hG.2.1.ne 6 (by decide) 7 (by decide) (by decide)
    rw [hv_6, hv_7] at ap67
    have ap68 := hG.2.1.ne 6 (by decide) 8 (by decide) (by decide)
    rw [hv_6, hv_8] at ap68
    have ap78 := hG.2.1.ne 7 (by decide) 8 (by decide) (by decide)
    rw [hv_7, hv_8] at ap78
    obtain ⟨lo, hi, Q, C, R, g1, g2⟩ := hG.2.2
    have d13 := g2 1 (by decide) 3 (by decide) (by decide) (by rw [hv_1]; intro e; cases e) (by rw [hv_3]; intro e; cases e)
    have d15 := g2 1 (by decide) 5 (by decide) (by decide) (by rw [hv_1]; intro e; cases e) (by rw [hv_5]; intro e; cases e)
    have d35 := g2 3 (by decide) 5 (by decide) (by decide) (by rw [hv_3]; intro e; cases e) (by rw [hv_5]; intro e; cases e)
    have m1 := g1 1 (by decide) (by rw [hv_1]; intro e; cases e)
    rw [hv_1] at m1
    have m3 := g1 3 (by decide) (by rw [hv_3]; intro e; cases e)
    rw [hv_3] at m3
    have m5 := g1 5 (by decide) (by rw [hv_5]; intro e; cases e)
    rw [hv_5] at m5
    clear g1 g2
    obtain rfl := act_puts [(52, .agg #[.slice A t.length c]), (53, .agg #[.slice q1_1 t.length k1_1]), (54, .agg #[.slice A t.length c]), (55, .agg #[.slice q2_3 t.length k2_3]), (56, .agg #[.slice A t.length c]), (57, .agg #[.slice q3_5 t.length k3_5]), (7, .pointer (some ⟨p_6, 0, none⟩)), (8, .pointer (some ⟨q_7, 0, none⟩)), (9, .pointer (some ⟨s_8, 0, none⟩))] [52, 53, 54, 55, 56, 57, 7, 8, 9] rfl (by kernel_rfl) (by kernel_rfl) hde hsz (List.forall_mem_cons.2 ⟨(show a.tmps.getD 52 undef = .agg #[.slice A t.length c] from (hφ 0 (by decide))), (List.forall_mem_cons.2 ⟨(show a.tmps.getD 53 undef = .agg #[.slice q1_1 t.length k1_1] from hv_1), (List.forall_mem_cons.2 ⟨(show a.tmps.getD 54 undef = .agg #[.slice A t.length c] from (hφ 2 (by decide))), (List.forall_mem_cons.2 ⟨(show a.tmps.getD 55 undef = .agg #[.slice q2_3 t.length k2_3] from hv_3), (List.forall_mem_cons.2 ⟨(show a.tmps.getD 56 undef = .agg #[.slice A t.length c] from (hφ 4 (by decide))), (List.forall_mem_cons.2 ⟨(show a.tmps.getD 57 undef = .agg #[.slice q3_5 t.length k3_5] from hv_5), (List.forall_mem_cons.2 ⟨(show a.tmps.getD 7 undef = .pointer (some ⟨p_6, 0, none⟩) from hv_6), (List.forall_mem_cons.2 ⟨(show a.tmps.getD 8 undef = .pointer (some ⟨q_7, 0, none⟩) from hv_7), (List.forall_mem_cons.2 ⟨(show a.tmps.getD 9 undef = .pointer (some ⟨s_8, 0, none⟩) from hv_8), (fun _ h => absurd h (by simp))⟩)⟩)⟩)⟩)⟩)⟩)⟩)⟩)⟩) hold
    clear hφ hold hsz hde hv_1 hv_3 hv_5 hv_6 hv_7 hv_8
    simp only [putAll]
    simp only [List.drop_succ_cons, List.drop_zero]
    obtain ⟨hG, -⟩ := hG
    go_frame
    obtain ⟨m1, n1, l1g, _⟩ := m1
    obtain ⟨m3, n3, l3g, _⟩ := m3
    obtain ⟨m5, n5, l5g, _⟩ := m5
    simp at m1 m3 m5
    rw [← m1.1, ← m1.2] at n1
    rw [← m3.1, ← m3.2] at n3
    rw [← m5.1, ← m5.2] at n5
    generalize R 1 = ra at n1
    generalize R 3 = rb at n3
    generalize R 5 = rc at n5
    generalize lo 1 = l1 at n1 l1g d13 d15
    generalize hi 1 = h1 at n1 d13 d15
    generalize lo 3 = l3 at n3 l3g d13 d35
    generalize hi 3 = h3 at n3 d13 d35
    generalize lo 5 = l5 at n5 l5g d15 d35
    generalize hi 5 = h5 at n5 d15 d35
    clear m1 m3 m5 hp_1 hp_3 hp_5
    obtain ⟨g1, rfl⟩ := row_where n1.own.row HN0.out
    obtain ⟨g2, rfl⟩ := row_where n3.own.row HN0.out
    obtain ⟨g3, rfl⟩ := row_where n5.own.row HN0.out
    have pq : p_6 ≠ q_7 := fun e => ap67 p_6 (vblks_ptr.2 rfl) (vblks_ptr.2 e)
    have ps : p_6 ≠ s_8 := fun e => ap68 p_6 (vblks_ptr.2 rfl) (vblks_ptr.2 e)
    have qs : q_7 ≠ s_8 := fun e => ap78 q_7 (vblks_ptr.2 rfl) (vblks_ptr.2 e)
    have e6 := hp_6.at_
    have e7 := hp_7.at_
    have e8 := hp_8.at_
    have z6 : V.heap.size ≤ p_6 := hp_6.new
    have z7 : V.heap.size ≤ q_7 := hp_7.new
    have z8 : V.heap.size ≤ s_8 := hp_8.new
    refine wpList_store_tree 7 53 p_6 rfl rfl rfl rfl rfl e6 ?_
    have f7 := (Below.heap_setCell w6 ⟨p_6, 0, none⟩ (.slice (some ⟨g1, 0, none⟩) t.length k1_1) _ (Ne.symm pq)).trans e7
    have f8 := (Below.heap_setCell w6 ⟨p_6, 0, none⟩ (.slice (some ⟨g1, 0, none⟩) t.length k1_1) _ (Ne.symm ps)).trans e8
    have C1 : Cpy (w6.setCell ⟨p_6, 0, none⟩ (.slice (some ⟨g1, 0, none⟩) t.length k1_1)) p_6 l1 h1 g1 k1_1 t ra := ⟨tbox_set e6 _, n1.box _ e6⟩
    have N3 := n3.box (.slice (some ⟨g1, 0, none⟩) t.length k1_1) (k := 0) e6
    have N5 := n5.box (.slice (some ⟨g1, 0, none⟩) t.length k1_1) (k := 0) e6
    have hG7 := below_set hG p_6 0 (.slice (some ⟨g1, 0, none⟩) t.length k1_1) z6
    generalize w6.setCell ⟨p_6, 0, none⟩ (.slice (some ⟨g1, 0, none⟩) t.length k1_1) = w7 at f7 f8 C1 N3 N5 hG7 ⊢
    clear e6 e7 e8 n1 n3 n5 hG
    refine wpList_store_tree 8 55 q_7 rfl rfl rfl rfl rfl f7 ?_
    have y8 := (Below.heap_setCell w7 ⟨q_7, 0, none⟩ (.slice (some ⟨g2, 0, none⟩) t.length k2_3) _ (Ne.symm qs)).trans f8
    have C2 : Cpy (w7.setCell ⟨q_7, 0, none⟩ (.slice (some ⟨g2, 0, none⟩) t.length k2_3)) q_7 l3 h3 g2 k2_3 t rb := ⟨tbox_set f7 _, N3.box _ f7⟩
    have D1 := C1.next (.slice (some ⟨g2, 0, none⟩) t.length k2_3) f7 pq
    have M5 := N5.box (.slice (some ⟨g2, 0, none⟩) t.length k2_3) (k := 0) f7
    have hG8 := below_set hG7 q_7 0 (.slice (some ⟨g2, 0, none⟩) t.length k2_3) z7
    generalize w7.setCell ⟨q_7, 0, none⟩ (.slice (some ⟨g2, 0, none⟩) t.length k2_3) = w8 at y8 C2 D1 M5 hG8 ⊢
    clear f7 f8 C1 N3 N5 hG7
    refine wpList_store_tree 9 57 s_8 rfl rfl rfl rfl rfl y8 ?_
    have C3 : Cpy (w8.setCell ⟨s_8, 0, none⟩ (.slice (some ⟨g3, 0, none⟩) t.length k3_5)) s_8 l5 h5 g3 k3_5 t rc := ⟨tbox_set y8 _, M5.box _ y8⟩
    have E1 := D1.next (.slice (some ⟨g3, 0, none⟩) t.length k3_5) y8 ps
    have E2 := C2.next (.slice (some ⟨g3, 0, none⟩) t.length k3_5) y8 qs
    have hG9 := below_set hG8 s_8 0 (.slice (some ⟨g3, 0, none⟩) t.length k3_5) z8
    generalize w8.setCell ⟨s_8, 0, none⟩ (.slice (some ⟨g3, 0, none⟩) t.length k3_5) = Y at C3 E1 E2 hG9 ⊢
    clear y8 C2 D1 M5 hG8
    have HC1 := Lib.hid E1
    have HC2 := Lib.hid E2
    have HC3 := Lib.hid C3
    have HBY := Lib.hid hG9
    have HD := Lib.hid (And.intro d13 (And.intro d15 d35))
    have HLO := Lib.hid (And.intro l1g (And.intro l3g l5g))
    have HIL := Lib.hid hIl
    obtain ⟨a1, -, a2, -, a3⟩ := E1.cells HLT.out hIl
    have a4 := a3 (I * 5 + 2)
    clear a3 E1 E2 C3 hG9 d13 d15 d35 l1g l3g l5g pq ps qs ap67 ap68 ap78 z6 z7 z8 hp_6 hp_7 hp_8
    obtain ⟨n0, hn0'⟩ : ∃ n, n = at_ t I := ⟨_, rfl⟩
    rw [← hn0'] at a2
    obtain ⟨nk, nl, nz, nS, nE⟩ := n0
    have HNI := Lib.hid hn0'
    clear hn0'
    obtain ⟨X1, hX1⟩ : ∃ X, X = bits .xor .i64 nz x := ⟨_, rfl⟩
    have HX1 := Lib.hid hX1
    go_upto_region 6 with (fail)
    rw [← hX1]
    clear a1 a2 a4 hX1
    obtain ⟨⟨u1, hu1⟩, hl1, hh1⟩ := HC1.out.at_g
    have E1 := HC1.out.cell2 (k := I) (f := 2) (n' := ⟨nk, nl, X1, nS, nE⟩) (v := .int .i64 X1) HIL.out HNI.out.symm (by omega) rfl rfl rfl
    have E2 := HC2.out.far (k := I * 5 + 2) (.int .i64 X1) hu1 trtypes.2.2 (by have := HD.out.1; omega)
    have E3 := HC3.out.far (k := I * 5 + 2) (.int .i64 X1) hu1 trtypes.2.2 (by have := HD.out.2.1; omega)
    have E4 := below_set HBY.out g1 (I * 5 + 2) (.int .i64 X1) (Nat.le_trans HLO.out.1 hl1)
    generalize Y.setCell ⟨g1, I * 5 + 2, none⟩ (.int .i64 X1) = Y1 at E1 E2 E3 E4 ⊢
    replace HC1 := Lib.hid E1
    replace HC2 := Lib.hid E2
    replace HC3 := Lib.hid E3
    replace HBY := Lib.hid E4
    obtain ⟨a1, a2, -, -, a3⟩ := E2.cells HLT.out hIl
    have a4 := a3 (I * 5 + 1)
    clear a3 E1 E2 E3 E4 hu1 hl1 hh1 u1
    rw [← HNI.out] at a2
    dsimp only at a2
    obtain ⟨X2, hX2⟩ : ∃ X, X = bits .xor .i64 nl x := ⟨_, rfl⟩
    have HX2 := Lib.hid hX2
    go_upto_region 8 with (fail)
    rw [← hX2]
    clear a1 a2 a4 hX2
    obtain ⟨⟨u1, hu1⟩, hl1, hh1⟩ := HC2.out.at_g
    have E2 := HC2.out.cell2 (k := I) (f := 1) (n' := ⟨nk, X2, nz, nS, nE⟩) (v := .int .i64 X2) HIL.out HNI.out.symm (by omega) rfl rfl rfl
    have E1 := HC1.out.far (k := I * 5 + 1) (.int .i64 X2) hu1 trtypes.2.2 (by have := HD.out.1; omega)
    have E3 := HC3.out.far (k := I * 5 + 1) (.int .i64 X2) hu1 trtypes.2.2 (by have := HD.out.2.2; omega)
    have E4 := below_set HBY.out g2 (I * 5 + 1) (.int .i64 X2) (Nat.le_trans HLO.out.2.1 hl1)
    generalize Y1.setCell ⟨g2, I * 5 + 1, none⟩ (.int .i64 X2) = Y2 at E1 E2 E3 E4 ⊢
    replace HC1 := Lib.hid E1
    replace HC2 := Lib.hid E2
    replace HC3 := Lib.hid E3
    replace HBY := Lib.hid E4
    obtain ⟨a1, -, -, a2, -⟩ := E3.cells HLT.out hIl
    clear E1 E2 E3 E4 hu1 hl1 hh1 u1
    rw [← HNI.out] at a2
    dsimp only at a2
    obtain ⟨⟨RA, RB, kc, kd⟩, hr⟩ : ∃ a, a = rc I := ⟨_, rfl⟩
    rw [← hr] at a2
    have HRC := Lib.hid hr
    clear hr
    dsimp only at a2
    have hS6 : nS.length ≤ 60 := by have := (HLT.out.2 _ (at_mem HIL.out)).1; rw [← HNI.out] at this; exact this
    obtain ⟨m, hm⟩ : ∃ m, nS.length = m := ⟨_, rfl⟩
    rw [hm] at a2 hS6
    have HM := Lib.hid hm
    clear hm
    have HXA : Hid ((t = t.set I ⟨nk, nl, X1, nS, nE⟩ ↔ x = 0) ∧ (t = t.set I ⟨nk, X2, nz, nS, nE⟩ ↔ x = 0)) := Lib.hid (by
      have hw := HWF.out _ (at_mem HIL.out)
      rw [← HNI.out] at hw
      rw [set_eq HIL.out HNI.out.symm, set_eq HIL.out HNI.out.symm, HX1.out, HX2.out]
      have e1 := i64_xor nz x (wf_le hw.z) (wf_le HWX.out)
      have e2 := i64_xor nl x (wf_le hw.l) (wf_le HWX.out)
      simp [e1, e2])
    by_cases hm0 : m = 0
    · subst hm0
      by_cases hx0 : x = 0
      · skip
        have HX0 := Lib.hid hx0
        have HB12 : Hid (decide (t = t.set I ⟨nk, nl, X1, nS, nE⟩) = true ∧ decide (t = t.set I ⟨nk, X2, nz, nS, nE⟩) = true) := Lib.hid ⟨decide_eq_true (HXA.out.1.2 hx0), decide_eq_true (HXA.out.2.2 hx0)⟩
        have HS1 := Lib.hid (fun w1 (hb : Below Y2.heap.size Y2 w1) => (same_call HSM.out hb HC1.out (by simp) (HN.out w1 (HBY.out.trans (hb.mono HBY.out.size))) HLT.out (light_set HLT.out HIL.out HNI.out.symm rfl rfl) true HB12.out.1).1)
        have HS2 := Lib.hid (fun w1 (hb : Below Y2.heap.size Y2 w1) => (same_call HSM.out hb HC2.out (by simp) (HN.out w1 (HBY.out.trans (hb.mono HBY.out.size))) HLT.out (light_set HLT.out HIL.out HNI.out.symm rfl rfl) true HB12.out.2).2)
        have HS3 := Lib.hid (fun w1 (hb : Below Y2.heap.size Y2 w1) => (same_call HSM.out hb HC3.out (rfl) (HN.out w1 (HBY.out.trans (hb.mono HBY.out.size))) HLT.out (HLT.out) true (decide_eq_true rfl)).1)
        have HKY : Hid (∀ w1, Below Y2.heap.size Y2 w1 → w1.cell? ⟨P, 0, none⟩ = some (.slice A t.length c) ∧ w1.cell? ⟨p_6, 0, none⟩ = some (.slice (some ⟨g1, 0, none⟩) t.length k1_1) ∧ w1.cell? ⟨q_7, 0, none⟩ = some (.slice (some ⟨g2, 0, none⟩) t.length k2_3) ∧ w1.cell? ⟨s_8, 0, none⟩ = some (.slice (some ⟨g3, 0, none⟩) t.length k3_5)) := Lib.hid fun w1 hb => by
          have b1 := (tbox_cell ((hb.block p_6 (lt_size HC1.out.box)).trans HC1.out.box)).1
          have b2 := (tbox_cell ((hb.block q_7 (lt_size HC2.out.box)).trans HC2.out.box)).1
          have b3 := (tbox_cell ((hb.block s_8 (lt_size HC3.out.box)).trans HC3.out.box)).1
          rw [List.length_set] at b1 b2
          exact ⟨HK.out w1 (HBY.out.trans (hb.mono HBY.out.size)), b1, b2, b3⟩
        have bx : (x == 0) = true := by simpa using hx0
        have bx2 : decide (x = 0) = true := decide_eq_true hx0
        clear hx0
        obtain ⟨v1, v2, v3, v4⟩ := HKY.out Y2 (Below.refl _ _)
        go_wp2_with (first
          | (go_at_call 24; (with_reducible refine (HS1.out _ (Below.refl _ _)).mono ?_); rintro e w10 ⟨rfl, hb10⟩; have HB10 := Lib.hid hb10; clear hb10; obtain ⟨v5, v6, v7, v8⟩ := HKY.out w10 HB10.out)
          | (go_at_call 24; (with_reducible refine (HS2.out _ HB10.out).mono ?_); rintro e w11 ⟨rfl, hb11⟩; have HB11 := Lib.hid (HB10.out.trans (hb11.mono HB10.out.size)); clear hb11; obtain ⟨v9, va, vb, vc⟩ := HKY.out w11 HB11.out)
          | (go_at_call 24; (with_reducible refine (HS3.out _ HB11.out).mono ?_); rintro e w12 ⟨rfl, hb12⟩; have HB12x := Lib.hid (HB11.out.trans (hb12.mono HB11.out.size)); clear hb12)
          | (go_at_call 10; (with_reducible refine (HAW.out _).mono ?_); rintro e w13 ⟨rfl, hb13⟩; have HB13 := Lib.hid (HB12x.out.trans (hb13.mono HB12x.out.size)); clear hb13)
          | fail)
        have HG6 := Lib.hid (HBY.out.trans (HB13.out.mono HBY.out.size))
        go_ret
        exact ⟨rfl, HBA.out.trans (HG6.out.mono HBA.out.size)⟩
      · skip
        have HX0 := Lib.hid hx0
        have HB12 : Hid (decide (t = t.set I ⟨nk, nl, X1, nS, nE⟩) = false ∧ decide (t = t.set I ⟨nk, X2, nz, nS, nE⟩) = false) := Lib.hid ⟨decide_eq_false (fun e => hx0 (HXA.out.1.1 e)), decide_eq_false (fun e => hx0 (HXA.out.2.1 e))⟩
        have HS1 := Lib.hid (fun w1 (hb : Below Y2.heap.size Y2 w1) => (same_call HSM.out hb HC1.out (by simp) (HN.out w1 (HBY.out.trans (hb.mono HBY.out.size))) HLT.out (light_set HLT.out HIL.out HNI.out.symm rfl rfl) false HB12.out.1).1)
        have HS2 := Lib.hid (fun w1 (hb : Below Y2.heap.size Y2 w1) => (same_call HSM.out hb HC2.out (by simp) (HN.out w1 (HBY.out.trans (hb.mono HBY.out.size))) HLT.out (light_set HLT.out HIL.out HNI.out.symm rfl rfl) false HB12.out.2).2)
        have HS3 := Lib.hid (fun w1 (hb : Below Y2.heap.size Y2 w1) => (same_call HSM.out hb HC3.out (rfl) (HN.out w1 (HBY.out.trans (hb.mono HBY.out.size))) HLT.out (HLT.out) true (decide_eq_true rfl)).1)
        have HKY : Hid (∀ w1, Below Y2.heap.size Y2 w1 → w1.cell? ⟨P, 0, none⟩ = some (.slice A t.length c) ∧ w1.cell? ⟨p_6, 0, none⟩ = some (.slice (some ⟨g1, 0, none⟩) t.length k1_1) ∧ w1.cell? ⟨q_7, 0, none⟩ = some (.slice (some ⟨g2, 0, none⟩) t.length k2_3) ∧ w1.cell? ⟨s_8, 0, none⟩ = some (.slice (some ⟨g3, 0, none⟩) t.length k3_5)) := Lib.hid fun w1 hb => by
          have b1 := (tbox_cell ((hb.block p_6 (lt_size HC1.out.box)).trans HC1.out.box)).1
          have b2 := (tbox_cell ((hb.block q_7 (lt_size HC2.out.box)).trans HC2.out.box)).1
          have b3 := (tbox_cell ((hb.block s_8 (lt_size HC3.out.box)).trans HC3.out.box)).1
          rw [List.length_set] at b1 b2
          exact ⟨HK.out w1 (HBY.out.trans (hb.mono HBY.out.size)), b1, b2, b3⟩
        have bx : (x == 0) = false := by simpa using hx0
        have bx2 : decide (x = 0) = false := decide_eq_false hx0
        clear hx0
        obtain ⟨v1, v2, v3, v4⟩ := HKY.out Y2 (Below.refl _ _)
        go_wp2_with (first
          | (go_at_call 24; (with_reducible refine (HS1.out _ (Below.refl _ _)).mono ?_); rintro e w10 ⟨rfl, hb10⟩; have HB10 := Lib.hid hb10; clear hb10; obtain ⟨v5, v6, v7, v8⟩ := HKY.out w10 HB10.out)
          | (go_at_call 24; (with_reducible refine (HS2.out _ HB10.out).mono ?_); rintro e w11 ⟨rfl, hb11⟩; have HB11 := Lib.hid (HB10.out.trans (hb11.mono HB10.out.size)); clear hb11; obtain ⟨v9, va, vb, vc⟩ := HKY.out w11 HB11.out)
          | (go_at_call 24; (with_reducible refine (HS3.out _ HB11.out).mono ?_); rintro e w12 ⟨rfl, hb12⟩; have HB12x := Lib.hid (HB11.out.trans (hb12.mono HB11.out.size)); clear hb12)
          | (go_at_call 10; (with_reducible refine (HAW.out _).mono ?_); rintro e w13 ⟨rfl, hb13⟩; have HB13 := Lib.hid (HB12x.out.trans (hb13.mono HB12x.out.size)); clear hb13)
          | fail)
        have HG6 := Lib.hid (HBY.out.trans (HB13.out.mono HBY.out.size))
        go_ret
        exact ⟨rfl, HBA.out.trans (HG6.out.mono HBA.out.size)⟩
    obtain ⟨m1, rfl⟩ : ∃ m1, m = m1 + 1 := ⟨m - 1, by omega⟩
    have bpos : decide ((0 : Int) < ((m1 + 1 : Nat) : Int)) = true := decide_eq_true (by omega)
    have hw3 : IntKind.i64.wrap (m1 : Int) = (m1 : Int) := i64w_idE _ (by omega)
    have hlm : m1 < (at_ t I).sq.length := by rw [← HNI.out]; show m1 < nS.length; rw [HM.out]; omega
    obtain ⟨b, hbA⟩ : ∃ b, RA = some ⟨b, 0, none⟩ := by
      have h1 := HC3.out.rg.own.sq I HIL.out
      rw [← HRC.out] at h1
      exact row_where h1 (by rw [← at_lt HIL.out]; omega)
    subst hbA
    have HLM := Lib.hid hlm
    have a5 := HC3.out.rg.own.sq I HIL.out
    rw [← HRC.out] at a5
    have hlm2 : m1 < (t[I]'HIL.out).sq.length := by have := hlm; rwa [at_lt HIL.out] at this
    obtain ⟨a6, a7⟩ := IOwn.at a5 m1 hlm2
    obtain ⟨y, hy⟩ : ∃ y, y = (t[I]'HIL.out).sq[m1]'hlm2 := ⟨_, rfl⟩
    rw [← hy] at a6
    obtain ⟨X3, hX3⟩ : ∃ X, X = bits .xor .i64 y x := ⟨_, rfl⟩
    have E5 := HC3.out.seq X3 HIL.out (b := b) (j := m1) (by rw [← HRC.out]) hlm2
    rw [← hy] at E5
    have HE5 := Lib.hid E5
    have HX3 := Lib.hid hX3
    have HWY : Hid (-9223372036854775808 ≤ y ∧ y ≤ 9223372036854775807) := Lib.hid (wf_le ((HWF.out _ (List.getElem_mem HIL.out)).sq y (by rw [hy]; exact List.getElem_mem _)))
    have HBT : Hid ((∃ cur, Y2.heap[b]? = some (.cells cur 3 (0, 0))) ∧ l5 ≤ b ∧ b < h5) := Lib.hid ⟨own_type a5 (g := b) rfl, (a5.lt b rfl).1, HC3.out.rg.sq I HIL.out b (by rw [← HRC.out]; rfl)⟩
    clear a5 E5 hlm hlm2 hy
    go_upto_region 11 with (fail)
    rw [← hX3]
    clear a1 a2 a6 a7 hX3
    obtain ⟨⟨u1, hu1⟩, hl1, hh1⟩ := HBT.out
    have E1 := HC1.out.far (k := m1) (.int .i64 X3) hu1 trtypes.1 (by have := HD.out.2.1; omega)
    have E2 := HC2.out.far (k := m1) (.int .i64 X3) hu1 trtypes.1 (by have := HD.out.2.2; omega)
    have E4 := below_set HBY.out b m1 (.int .i64 X3) (Nat.le_trans HLO.out.2.2 hl1)
    have E3 := HE5.out.1
    have HXC : Hid (t = turnS rc b m1 X3 0 t ↔ x = 0) := Lib.hid (by
      refine (Iff.intro Eq.symm Eq.symm).trans (HE5.out.2.trans ?_)
      rw [HX3.out]
      exact i64_xor y x HWY.out (wf_le HWX.out))
    generalize Y2.setCell ⟨b, m1, none⟩ (.int .i64 X3) = Y3 at E1 E2 E3 E4 ⊢
    replace HC1 := Lib.hid E1
    replace HC2 := Lib.hid E2
    replace HC3 := Lib.hid E3
    replace HBY := Lib.hid E4
    clear E1 E2 E3 E4 hu1 hl1 hh1 u1 HE5 HBT
    by_cases hx0 : x = 0
    · skip
      have HX0 := Lib.hid hx0
      have HB12 : Hid (decide (t = t.set I ⟨nk, nl, X1, nS, nE⟩) = true ∧ decide (t = t.set I ⟨nk, X2, nz, nS, nE⟩) = true) := Lib.hid ⟨decide_eq_true (HXA.out.1.2 hx0), decide_eq_true (HXA.out.2.2 hx0)⟩
      have HB3 : Hid (decide (t = turnS rc b m1 X3 0 t) = true) := Lib.hid (decide_eq_true (HXC.out.2 hx0))
      have HS1 := Lib.hid (fun w1 (hb : Below Y3.heap.size Y3 w1) => (same_call HSM.out hb HC1.out (by simp) (HN.out w1 (HBY.out.trans (hb.mono HBY.out.size))) HLT.out (light_set HLT.out HIL.out HNI.out.symm rfl rfl) true HB12.out.1).1)
      have HS2 := Lib.hid (fun w1 (hb : Below Y3.heap.size Y3 w1) => (same_call HSM.out hb HC2.out (by simp) (HN.out w1 (HBY.out.trans (hb.mono HBY.out.size))) HLT.out (light_set HLT.out HIL.out HNI.out.symm rfl rfl) true HB12.out.2).2)
      have HS3 := Lib.hid (fun w1 (hb : Below Y3.heap.size Y3 w1) => (same_call HSM.out hb HC3.out (turnS_len _ _ _ _ _ _) (HN.out w1 (HBY.out.trans (hb.mono HBY.out.size))) HLT.out (light_turn HLT.out) true HB3.out).1)
      have HKY : Hid (∀ w1, Below Y3.heap.size Y3 w1 → w1.cell? ⟨P, 0, none⟩ = some (.slice A t.length c) ∧ w1.cell? ⟨p_6, 0, none⟩ = some (.slice (some ⟨g1, 0, none⟩) t.length k1_1) ∧ w1.cell? ⟨q_7, 0, none⟩ = some (.slice (some ⟨g2, 0, none⟩) t.length k2_3) ∧ w1.cell? ⟨s_8, 0, none⟩ = some (.slice (some ⟨g3, 0, none⟩) t.length k3_5)) := Lib.hid fun w1 hb => by
        have b1 := (tbox_cell ((hb.block p_6 (lt_size HC1.out.box)).trans HC1.out.box)).1
        have b2 := (tbox_cell ((hb.block q_7 (lt_size HC2.out.box)).trans HC2.out.box)).1
        have b3 := (tbox_cell ((hb.block s_8 (lt_size HC3.out.box)).trans HC3.out.box)).1
        rw [List.length_set] at b1 b2
        rw [turnS_len] at b3
        exact ⟨HK.out w1 (HBY.out.trans (hb.mono HBY.out.size)), b1, b2, b3⟩
      have bx : (x == 0) = true := by simpa using hx0
      have bx2 : decide (x = 0) = true := decide_eq_true hx0
      have bn : (x != 0) = false := by simpa using hx0
      clear hx0
      obtain ⟨v1, v2, v3, v4⟩ := HKY.out Y3 (Below.refl _ _)
      go_wp2_with (first
        | (go_at_call 24; (with_reducible refine (HS1.out _ (Below.refl _ _)).mono ?_); rintro e w10 ⟨rfl, hb10⟩; have HB10 := Lib.hid hb10; clear hb10; obtain ⟨v5, v6, v7, v8⟩ := HKY.out w10 HB10.out)
        | (go_at_call 24; (with_reducible refine (HS2.out _ HB10.out).mono ?_); rintro e w11 ⟨rfl, hb11⟩; have HB11 := Lib.hid (HB10.out.trans (hb11.mono HB10.out.size)); clear hb11; obtain ⟨v9, va, vb, vc⟩ := HKY.out w11 HB11.out)
        | (go_at_call 24; (with_reducible refine (HS3.out _ HB11.out).mono ?_); rintro e w12 ⟨rfl, hb12⟩; have HB12x := Lib.hid (HB11.out.trans (hb12.mono HB11.out.size)); clear hb12)
        | (go_at_call 10; (with_reducible refine (HAW.out _).mono ?_); rintro e w13 ⟨rfl, hb13⟩; have HB13 := Lib.hid (HB12x.out.trans (hb13.mono HB12x.out.size)); clear hb13)
        | fail)
      have HG6 := Lib.hid (HBY.out.trans (HB13.out.mono HBY.out.size))
      go_ret
      exact ⟨rfl, HBA.out.trans (HG6.out.mono HBA.out.size)⟩
    · skip
      have HX0 := Lib.hid hx0
      have HB12 : Hid (decide (t = t.set I ⟨nk, nl, X1, nS, nE⟩) = false ∧ decide (t = t.set I ⟨nk, X2, nz, nS, nE⟩) = false) := Lib.hid ⟨decide_eq_false (fun e => hx0 (HXA.out.1.1 e)), decide_eq_false (fun e => hx0 (HXA.out.2.1 e))⟩
      have HB3 : Hid (decide (t = turnS rc b m1 X3 0 t) = false) := Lib.hid (decide_eq_false (fun e => hx0 (HXC.out.1 e)))
      have HS1 := Lib.hid (fun w1 (hb : Below Y3.heap.size Y3 w1) => (same_call HSM.out hb HC1.out (by simp) (HN.out w1 (HBY.out.trans (hb.mono HBY.out.size))) HLT.out (light_set HLT.out HIL.out HNI.out.symm rfl rfl) false HB12.out.1).1)
      have HS2 := Lib.hid (fun w1 (hb : Below Y3.heap.size Y3 w1) => (same_call HSM.out hb HC2.out (by simp) (HN.out w1 (HBY.out.trans (hb.mono HBY.out.size))) HLT.out (light_set HLT.out HIL.out HNI.out.symm rfl rfl) false HB12.out.2).2)
      have HS3 := Lib.hid (fun w1 (hb : Below Y3.heap.size Y3 w1) => (same_call HSM.out hb HC3.out (turnS_len _ _ _ _ _ _) (HN.out w1 (HBY.out.trans (hb.mono HBY.out.size))) HLT.out (light_turn HLT.out) false HB3.out).1)
      have HKY : Hid (∀ w1, Below Y3.heap.size Y3 w1 → w1.cell? ⟨P, 0, none⟩ = some (.slice A t.length c) ∧ w1.cell? ⟨p_6, 0, none⟩ = some (.slice (some ⟨g1, 0, none⟩) t.length k1_1) ∧ w1.cell? ⟨q_7, 0, none⟩ = some (.slice (some ⟨g2, 0, none⟩) t.length k2_3) ∧ w1.cell? ⟨s_8, 0, none⟩ = some (.slice (some ⟨g3, 0, none⟩) t.length k3_5)) := Lib.hid fun w1 hb => by
        have b1 := (tbox_cell ((hb.block p_6 (lt_size HC1.out.box)).trans HC1.out.box)).1
        have b2 := (tbox_cell ((hb.block q_7 (lt_size HC2.out.box)).trans HC2.out.box)).1
        have b3 := (tbox_cell ((hb.block s_8 (lt_size HC3.out.box)).trans HC3.out.box)).1
        rw [List.length_set] at b1 b2
        rw [turnS_len] at b3
        exact ⟨HK.out w1 (HBY.out.trans (hb.mono HBY.out.size)), b1, b2, b3⟩
      have bx : (x == 0) = false := by simpa using hx0
      have bx2 : decide (x = 0) = false := decide_eq_false hx0
      have bn : (x != 0) = true := by simpa using hx0
      clear hx0
      obtain ⟨v1, v2, v3, v4⟩ := HKY.out Y3 (Below.refl _ _)
      go_wp2_with (first
        | (go_at_call 24; (with_reducible refine (HS1.out _ (Below.refl _ _)).mono ?_); rintro e w10 ⟨rfl, hb10⟩; have HB10 := Lib.hid hb10; clear hb10; obtain ⟨v5, v6, v7, v8⟩ := HKY.out w10 HB10.out)
        | (go_at_call 24; (with_reducible refine (HS2.out _ HB10.out).mono ?_); rintro e w11 ⟨rfl, hb11⟩; have HB11 := Lib.hid (HB10.out.trans (hb11.mono HB10.out.size)); clear hb11; obtain ⟨v9, va, vb, vc⟩ := HKY.out w11 HB11.out)
        | (go_at_call 24; (with_reducible refine (HS3.out _ HB11.out).mono ?_); rintro e w12 ⟨rfl, hb12⟩; have HB12x := Lib.hid (HB11.out.trans (hb12.mono HB11.out.size)); clear hb12)
        | (go_at_call 10; (with_reducible refine (HAW.out _).mono ?_); rintro e w13 ⟨rfl, hb13⟩; have HB13 := Lib.hid (HB12x.out.trans (hb13.mono HB12x.out.size)); clear hb13)
        | fail)
      have HG6 := Lib.hid (HBY.out.trans (HB13.out.mono HBY.out.size))
      go_ret
      exact ⟨rfl, HBA.out.trans (HG6.out.mono HBA.out.size)⟩
end Go.Proofs.YtfboilbmehcgoaaDoor
