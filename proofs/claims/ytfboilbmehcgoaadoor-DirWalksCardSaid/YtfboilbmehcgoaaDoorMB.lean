/- Rows of entries: appends as steps (out of name's EnC, which has slices.Concat besides: not both in one claim). -/
import Derived.Test.YtfboilbmehcgoaaDoorME
import Derived.Lib.AppendZeros
import Derived.Deep.RegionLaw
import Derived.ChangeArms
import Derived.ChangeSlices
import Derived.Deep.Slices
import Derived.OpenShut
import Derived.Test.YtfboilbmehcgoaaDoorMF
import Derived.Deep.OwnRows
import Derived.Laws.Rows
import Derived.Laws.OwnMore
import Derived.Deep.RegionHeld3
namespace Go.Proofs.YtfboilbmehcgoaaDoor
open Go.RowKit

theorem own_none {w : World} {base c : Nat} {q : Option Addr} {l : List Ent} {n : Nat} (h : EOwn w base (.slice q n c) l) : q = none → c = 0 := fun e => by
  subst e
  rcases h.2 with ⟨e, _⟩ | ⟨g, cap, cur, e, _⟩
  · simp at e; exact e.2
  · simp at e
theorem elies_grown {w w' : World} {A : Option Addr} {l : List Ent} {row : Option Nat} (h : ELies w A l) (hg : w.grownBy w' row) (hn : ∀ ad, A = some ad → some ad.block ≠ row) : ELies w' A l := fun hp => by
  obtain ⟨B, o, rfl, hB, hc⟩ := h hp
  have hk := hg.block B hB (hn _ rfl)
  refine ⟨B, o, rfl, Nat.lt_of_lt_of_le hB hg.size, fun j hj => ?_⟩
  obtain ⟨h0, h1⟩ := hc j hj
  exact ⟨(World.cell?_of_block (a := ⟨B, o + j * 2, none⟩) hk).trans h0, (World.cell?_of_block (a := ⟨B, o + j * 2 + 1, none⟩) hk).trans h1⟩
theorem EOwn.grown {w0 w w' : World} {n : Nat} {v : Value} {xs : List Ent} (h : EOwn w n v xs) (hb : Below n w0 w) (hg : w.grownBy w' v.ownBlock) (hn : n ≤ w.heap.size) : Below n w0 w' := eown_below h hb hg hn
/-- An append as one step of a region that draws. -/
theorem step_eapp {w : World} {ops : Array Oper} {o : Oper} {a : Act} {K : Act → World → Prop} {Q : Exit → Act → World → Prop} {E : Prop} (hgd : o.guard = none) (s x : Operand) (ho : o.op = .call { callee := .builtin .append, args := #[s, x], argTypes := #[30, 30] })
    (base : Nat) (v : Value) (n : Nat) (xs : List Ent) (m : Nat) (l : List Ent) (A : Option Addr) (c : Nat) (hs : a.eval s = v) (hx : a.eval x = .slice A m c) (hn : xs.length = n) (hm : l.length = m) (hown : EOwn w base v xs) (hl : ELies w A l) (hA : A = none → l = [] ∧ c = 0) (h63 : n + m ≤ 100000) (hbase : base ≤ w.heap.size)
    (h : ∀ q cap w', EOwn w' base (.slice q (n + m) cap) (xs ++ l) → w.grownBy w' v.ownBlock → K (a.put o.dst (.slice q (n + m) cap)) w') :
    if Region.wanted o (yielded ops a.tmps) = true then Oper.wp Tryd.prog o a w K Q else E := by
  subst hn
  subst hm
  rw [if_pos (by simp [Region.wanted, hgd])]
  exact oper_eapp s x ho hs hx hown hl hA h63 hbase h
/-- As step_eapp, with the new length by name. -/
theorem step_eappT {w : World} {ops : Array Oper} {o : Oper} {a : Act} {K : Act → World → Prop} {Q : Exit → Act → World → Prop} {E : Prop} (hgd : o.guard = none) (s x : Operand) (ho : o.op = .call { callee := .builtin .append, args := #[s, x], argTypes := #[30, 30] })
    (base : Nat) (v : Value) (n : Nat) (xs : List Ent) (m : Nat) (l : List Ent) (A : Option Addr) (c t : Nat) (ht : n + m = t) (hs : a.eval s = v) (hx : a.eval x = .slice A m c) (hn : xs.length = n) (hm : l.length = m) (hown : EOwn w base v xs) (hl : ELies w A l) (hA : A = none → l = [] ∧ c = 0) (h63 : t ≤ 100000) (hbase : base ≤ w.heap.size)
    (h : ∀ q cap w', EOwn w' base (.slice q t cap) (xs ++ l) → w.grownBy w' v.ownBlock → K (a.put o.dst (.slice q t cap)) w') :
    if Region.wanted o (yielded ops a.tmps) = true then Oper.wp Tryd.prog o a w K Q else E := by
  subst ht
  exact step_eapp hgd s x ho base v n xs m l A c hs hx hn hm hown hl hA h63 hbase h
end Go.Proofs.YtfboilbmehcgoaaDoor

/- Nodes as data: which may be, how many pages, whose refs. -/
namespace Go.Proofs.YtfboilbmehcgoaaDoor
open Go.Lib

structure Nd where
  k : Int
  l : Int
  z : Int
  sq : List Int
  en : List Ent
deriving DecidableEq

/-- One page of a file: p its place, z the size. -/
def maySq (z : Int) (p : Nat) (s : Int) : Bool := decide (0 ≤ s) && (decide (s ≤ 1099511627776) && (decide (s = 0) || decide ((p : Int) * 16 < z)))
def maySqs (z : Int) (p : Nat) : List Int → Bool
  | [] => true
  | s :: t => maySq z p s && maySqs z (p + 1) t
theorem maySqs_iff {z : Int} : ∀ {l : List Int} {p : Nat}, maySqs z p l = true ↔ ∀ i (h : i < l.length), maySq z (p + i) l[i] = true
  | [], p => by simp [maySqs]
  | s :: t, p => by
    rw [maySqs, Bool.and_eq_true, maySqs_iff]
    constructor
    · rintro ⟨h0, h1⟩ i hi
      cases i with
      | zero => exact h0
      | succ i =>
        have := h1 i (by simpa using hi)
        rw [show p + (i + 1) = p + 1 + i by omega]
        simpa using this
    · intro h
      refine ⟨h 0 (by simp), fun i hi => ?_⟩
      have := h (i + 1) (by simpa using hi)
      rw [show p + 1 + i = p + (i + 1) by omega]
      simpa using this
theorem maySqs_one {z : Int} {l : List Int} {i : Nat} (h : i < l.length) (hn : maySq z i l[i] = false) : maySqs z 0 l = false := by
  cases e : maySqs z 0 l with
  | false => rfl
  | true =>
    have := maySqs_iff.1 e i h
    rw [Nat.zero_add, hn] at this; cases this
theorem maySqs_all {z : Int} {l : List Int} (h : ∀ i (h : i < l.length), maySq z i l[i] = true) : maySqs z 0 l = true :=
  maySqs_iff.2 fun i hi => by rw [Nat.zero_add]; exact h i hi
/-- A file's numbers. -/
def mayFl (n : Nd) : Bool := decide (0 ≤ n.l) && (decide (n.l ≤ 120) && (decide (0 ≤ n.z) && (decide (n.z ≤ 80) && (decide (n.sq.length = 5) && (decide (n.en.length = 0) && maySqs n.z 0 n.sq)))))
def mayNd (n : Nd) : Bool :=
  if n.k = 0 then decide (n.l = 0) && (decide (n.z = 0) && (decide (n.sq.length = 0) && decide (n.en.length = 0)))
  else if n.k = 2 then decide (n.l = 1) && (decide (n.z = 0) && (decide (n.sq.length = 0) && mayEs n.en))
  else if n.k = 1 then mayFl n
  else false
theorem mayNd_file {n : Nd} (h : n.k = 1) : mayNd n = mayFl n := by
  unfold mayNd
  rw [h]; rfl
theorem mayFl_at {n : Nd} (h : mayFl n = true) : 0 ≤ n.l ∧ n.l ≤ 120 ∧ 0 ≤ n.z ∧ n.z ≤ 80 ∧ n.sq.length = 5 ∧ n.en.length = 0 ∧ ∀ i (h : i < n.sq.length), maySq n.z i n.sq[i] = true := by
  simp only [mayFl, Bool.and_eq_true, decide_eq_true_eq] at h
  obtain ⟨h1, h2, h3, h4, h5, h6, h7⟩ := h
  exact ⟨h1, h2, h3, h4, h5, h6, fun i hi => by have := maySqs_iff.1 h7 i hi; rwa [Nat.zero_add] at this⟩
theorem maySq_at {z s : Int} {p : Nat} (h : maySq z p s = true) : 0 ≤ s ∧ s ≤ 1099511627776 ∧ (s ≠ 0 → (p : Int) * 16 < z) := by
  simp only [maySq, Bool.and_eq_true, Bool.or_eq_true, decide_eq_true_eq] at h
  exact ⟨h.1, h.2.1, fun hs => h.2.2.resolve_left hs⟩
theorem maySq_mk {z s : Int} {p : Nat} (h0 : 0 ≤ s) (h1 : s ≤ 1099511627776) (h2 : s ≠ 0 → (p : Int) * 16 < z) : maySq z p s = true := by
  simp only [maySq, Bool.and_eq_true, Bool.or_eq_true, decide_eq_true_eq]
  exact ⟨h0, h1, (Decidable.em (s = 0)).imp id h2⟩
/-- How many are not nought. -/
def cntN : List Int → Nat
  | [] => 0
  | s :: t => (if s = 0 then 0 else 1) + cntN t
theorem cntN_app : ∀ (l m : List Int), cntN (l ++ m) = cntN l + cntN m
  | [], m => by simp [cntN]
  | s :: t, m => by rw [List.cons_append, cntN, cntN, cntN_app t m]; omega
theorem cntN_le : ∀ l : List Int, cntN l ≤ l.length
  | [] => Nat.le_refl _
  | s :: t => by
    have := cntN_le t
    rw [cntN, List.length_cons]
    split <;> omega
theorem cntN_take {l : List Int} {j : Nat} (h : j < l.length) : cntN (l.take (j + 1)) = cntN (l.take j) + (if l[j] = 0 then 0 else 1) := by
  rw [List.take_succ_eq_append_getElem h, cntN_app]
  simp [cntN]
def pagesN (n : Nd) : Nat := if n.k = 1 ∧ mayNd n = true then cntN n.sq else 0
/-- The refs of a file, i its node. -/
def rfsN (i : Int) (p : Nat) : List Int → List (Int × Int)
  | [] => []
  | s :: t => if s = 0 then rfsN i (p + 1) t else (1 + i * 5 + p, s) :: rfsN i (p + 1) t
theorem rfsN_app (i : Int) : ∀ (l m : List Int) (p : Nat), rfsN i p (l ++ m) = rfsN i p l ++ rfsN i (p + l.length) m
  | [], m, p => by simp [rfsN]
  | s :: t, m, p => by
    rw [List.cons_append, rfsN, rfsN, rfsN_app i t m (p + 1), List.length_cons, show p + 1 + t.length = p + (t.length + 1) by omega]
    split <;> simp
theorem rfsN_len (i : Int) : ∀ (l : List Int) (p : Nat), (rfsN i p l).length = cntN l
  | [], p => rfl
  | s :: t, p => by
    rw [rfsN, cntN, ← rfsN_len i t (p + 1)]
    split
    · omega
    · rw [List.length_cons]; omega
theorem rfsN_take {i : Int} {l : List Int} {j : Nat} (h : j < l.length) : rfsN i 0 (l.take (j + 1)) = rfsN i 0 (l.take j) ++ (if l[j] = 0 then [] else [(1 + i * 5 + (j : Int), l[j])]) := by
  rw [List.take_succ_eq_append_getElem h, rfsN_app, List.length_take, Nat.min_eq_left (by omega), Nat.zero_add, rfsN, rfsN]
theorem rfsN_mem {i : Int} : ∀ {l : List Int} {p : Nat} {r : Int × Int}, r ∈ rfsN i p l → ∃ q, ∃ (h : q < l.length), r = (1 + i * 5 + ((p + q : Nat) : Int), l[q]) ∧ l[q] ≠ 0
  | [], p, r, h => by cases h
  | s :: t, p, r, h => by
    have key : r ∈ rfsN i (p + 1) t → ∃ q, ∃ (h : q < (s :: t).length), r = (1 + i * 5 + ((p + q : Nat) : Int), (s :: t)[q]) ∧ (s :: t)[q] ≠ 0 := fun h => by
      obtain ⟨q, hq, e, hn⟩ := rfsN_mem h
      refine ⟨q + 1, by simpa using hq, ?_, by simpa using hn⟩
      rw [e, show p + 1 + q = p + (q + 1) by omega]
      simp
    rw [rfsN] at h
    by_cases hs : s = 0
    · rw [if_pos hs] at h
      exact key h
    · rw [if_neg hs] at h
      rcases List.mem_cons.1 h with rfl | h
      · exact ⟨0, by simp, by simp, by simpa using hs⟩
      · exact key h
/-- They rise. -/
theorem rfsN_rise {i : Int} : ∀ {l : List Int} {p : Nat}, (rfsN i p l).Pairwise fun a b => a.1 < b.1
  | [], p => .nil
  | s :: t, p => by
    rw [rfsN]
    by_cases hs : s = 0
    · rw [if_pos hs]; exact rfsN_rise
    · rw [if_neg hs]
      refine .cons (fun r hr => ?_) rfsN_rise
      obtain ⟨q, hq, e, _⟩ := rfsN_mem hr
      rw [e]
      show 1 + i * 5 + (p : Int) < 1 + i * 5 + ((p + 1 + q : Nat) : Int)
      omega
def refsN (i : Int) (n : Nd) : List (Int × Int) := if n.k = 1 ∧ mayNd n = true ∧ 0 ≤ i ∧ i < 12 then rfsN i 0 n.sq else []
theorem refsN_len {i : Int} {n : Nd} (h : 0 ≤ i ∧ i < 12) : (refsN i n).length = pagesN n := by
  unfold refsN pagesN
  by_cases hk : n.k = 1 ∧ mayNd n = true
  · rw [if_pos ⟨hk.1, hk.2, h.1, h.2⟩, if_pos hk, rfsN_len]
  · rw [if_neg (fun e => hk ⟨e.1, e.2.1⟩), if_neg hk]; rfl
theorem refsN_far {i : Int} {n : Nd} (h : ¬ (0 ≤ i ∧ i < 12)) : refsN i n = [] := by
  unfold refsN
  rw [if_neg (fun e => h e.2.2)]
/-- Where they are: page and node of each, its number, and that it begins ahead of the end. -/
theorem refsN_mem {i : Int} {n : Nd} {r : Int × Int} (h : r ∈ refsN i n) : 0 ≤ i ∧ i < 12 ∧ n.sq.length = 5 ∧ ∃ q, ∃ (h : q < n.sq.length), r = (1 + i * 5 + (q : Int), n.sq[q]) ∧ n.sq[q] ≠ 0 ∧ (q : Int) * 16 < n.z := by
  unfold refsN at h
  split at h
  · next hh =>
    obtain ⟨hk, hm, h0, h1⟩ := hh
    rw [mayNd_file hk] at hm
    obtain ⟨_, _, _, _, h5, _, hq⟩ := mayFl_at hm
    obtain ⟨q, hl, e, hn⟩ := rfsN_mem h
    rw [Nat.zero_add] at e
    exact ⟨h0, h1, h5, q, hl, e, hn, (maySq_at (hq q hl)).2.2 hn⟩
  · cases h
theorem refsN_apart {i j : Int} {n m : Nd} {r s : Int × Int} (hr : r ∈ refsN i n) (hs : s ∈ refsN j m) (hij : i ≠ j) : r.1 ≠ s.1 := by
  obtain ⟨h0, h1, h5, q, hl, rfl, _⟩ := refsN_mem hr
  obtain ⟨k0, k1, k5, p, kl, rfl, _⟩ := refsN_mem hs
  show 1 + i * 5 + (q : Int) ≠ 1 + j * 5 + (p : Int)
  omega
def emptyN (k : Int) : Nd := if k = 1 then ⟨1, 1, 0, [0, 0, 0, 0, 0], []⟩ else if k = 2 then ⟨2, 1, 0, [], []⟩ else ⟨0, 0, 0, [], []⟩
theorem maySqs_set {z s : Int} {q : Nat} (h : q < 5) : maySqs z 0 ([0, 0, 0, 0, 0].set q s) = maySq z q s := by
  have h0 : ∀ p, maySq z p 0 = true := fun p => maySq_mk (by omega) (by omega) (fun e => absurd rfl e)
  rcases (by omega : q = 0 ∨ q = 1 ∨ q = 2 ∨ q = 3 ∨ q = 4) with rfl | rfl | rfl | rfl | rfl <;> simp [maySqs, h0]
/-- A file with one page, anywhere. -/
theorem may_bounds {z s l : Int} {q : Nat} (h : q < 5) : mayNd ⟨1, l, z, [0, 0, 0, 0, 0].set q s, []⟩ = (decide (0 ≤ z) && decide (z ≤ 80) && decide (0 ≤ l) && decide (l ≤ 120) && decide (0 ≤ s) && decide (s ≤ 1099511627776) && (decide (s = 0) || decide ((q : Int) * 16 < z))) := by
  rw [mayNd_file rfl, mayFl]
  simp only [maySqs_set h, List.length_set, maySq]
  generalize decide (0 ≤ z) = a
  generalize decide (z ≤ 80) = b
  generalize decide (0 ≤ l) = c
  generalize decide (l ≤ 120) = d
  generalize decide (0 ≤ s) = e
  generalize decide (s ≤ 1099511627776) = f
  generalize (decide (s = 0) || decide ((q : Int) * 16 < z)) = g
  cases a <;> cases b <;> cases c <;> cases d <;> cases e <;> cases f <;> rfl
theorem may_long {n : Nd} (h : 5 < n.sq.length) : mayNd n = false := by
  unfold mayNd mayFl
  have h0 : decide (n.sq.length = 0) = false := decide_eq_false (by omega)
  have h5 : decide (n.sq.length = 5) = false := decide_eq_false (by omega)
  rw [h0, h5]
  simp
theorem may_named {n : Nd} (hk : n.k = 1) (h : 0 < n.en.length) : mayNd n = false := by
  rw [mayNd_file hk, mayFl]
  have h0 : decide (n.en.length = 0) = false := decide_eq_false (by omega)
  rw [h0]
  simp
theorem may_kind {n : Nd} (h : n.k = 3) : mayNd n = false := by
  unfold mayNd
  rw [h]; rfl
/-- With a byte less at a page's beginning it may not be. -/
theorem may_less {n : Nd} {q : Nat} (hk : n.k = 1) (h : q < n.sq.length) (hn : n.sq[q] ≠ 0) : mayNd { n with z := (q : Int) * 16 } = false := by
  rw [mayNd_file (by exact hk), mayFl]
  have hf : maySqs ((q : Int) * 16) 0 n.sq = false := by
    refine maySqs_one h ?_
    cases e : maySq ((q : Int) * 16) q n.sq[q] with
    | false => rfl
    | true => exact absurd ((maySq_at e).2.2 hn) (by omega)
  show (decide (0 ≤ n.l) && (decide (n.l ≤ 120) && (decide (0 ≤ (q : Int) * 16) && (decide ((q : Int) * 16 ≤ 80) && (decide (n.sq.length = 5) && (decide (n.en.length = 0) && maySqs ((q : Int) * 16) 0 n.sq)))))) = false
  rw [hf]
  simp
theorem split_num {i : Int} {q : Nat} (hq : q < 5) : (1 + i * 5 + (q : Int) - 1) / 5 = i ∧ (1 + i * 5 + (q : Int) - 1) % 5 = q := by
  omega
theorem refsN_file {i : Int} {n : Nd} (hk : n.k = 1) (hm : mayNd n = true) (h0 : 0 ≤ i) (h1 : i < 12) : refsN i n = rfsN i 0 n.sq := by
  unfold refsN
  rw [if_pos ⟨hk, hm, h0, h1⟩]
def sameN (a b : Nd) : Bool := decide (a = b)
theorem sameN_eq (a b : Nd) : sameN a b = (decide (a.k = b.k) && (decide (a.l = b.l) && (decide (a.z = b.z) && (decide (a.sq = b.sq) && decide (a.en = b.en))))) := by
  unfold sameN
  obtain ⟨k, l, z, sq, en⟩ := a
  obtain ⟨k', l', z', sq', en'⟩ := b
  rw [Bool.eq_iff_iff]
  simp only [Bool.and_eq_true, decide_eq_true_eq, Nd.mk.injEq]
end Go.Proofs.YtfboilbmehcgoaaDoor

/- Rows of ints: one cell each; one of the call's own; append to it: of no program but its types. -/
namespace Go.Proofs.YtfboilbmehcgoaaDoor
open Go.RowKit

/-- At A of w these ints lie. -/
def ILies (w : World) (A : Option Addr) (l : List Int) : Prop :=
  0 < l.length → ∃ B o, A = some ⟨B, o, none⟩ ∧ B < w.heap.size ∧ ∀ j (h : j < l.length), w.cell? ⟨B, o + j, none⟩ = some (.int .i64 l[j])
theorem ILies.below {w w' : World} {A : Option Addr} {l : List Int} (h : ILies w A l) (hb : Below w.heap.size w w') : ILies w' A l := fun hn => by
  obtain ⟨B, o, e, hB, hc⟩ := h hn
  exact ⟨B, o, e, Nat.lt_of_lt_of_le hB hb.size, fun j hj => (hb.cell (p := ⟨B, o + j, none⟩) hB).trans (hc j hj)⟩
theorem ILies.nil (w : World) (A : Option Addr) : ILies w A [] := fun h => absurd h (by simp)
def icells (l : List Int) : List Value := l.map (Value.int .i64)
theorem icells_len (l : List Int) : (icells l).length = l.length * 1 := by simp [icells]
theorem icells_app (l m : List Int) : icells (l ++ m) = icells l ++ icells m := by simp [icells]
theorem icells_one {l : List Int} {u : Value} (h : u ∈ icells l) : u.oneCell' = true := by
  obtain ⟨x, _, rfl⟩ := List.mem_map.1 h
  rfl
theorem ILies.cells {w : World} {A : Option Addr} {l : List Int} (h : ILies w A l) {ad : Addr} (e : A = some ad) : ∀ (k : Nat) (u : Value), (icells l)[k]? = some u → w.cell? (ad.add k) = some u := fun k u hu => by
  obtain ⟨hk, e1⟩ := List.getElem?_eq_some_iff.1 hu
  have hk2 : k < l.length := by simpa [icells] using hk
  obtain ⟨B, o, e2, _, hc⟩ := h (by omega)
  obtain rfl : ad = ⟨B, o, none⟩ := by rw [e] at e2; exact Option.some.inj e2
  have ea : (⟨B, o, none⟩ : Addr).add k = ⟨B, o + k, none⟩ := by
    unfold Addr.add
    split
    · next e => subst e; rfl
    · rfl
  rw [ea, hc k hk2, ← e1]
  simp [icells]
/-- Such a row of the call's own. -/
def IOwn (w : World) (base : Nat) (v : Value) (l : List Int) : Prop := w.ownsRow base 3 1 v l.length (icells l)
theorem iown_nil (W : World) (B : Nat) : IOwn W B (.slice none 0 0) [] := World.ownsRow_nil _ _ _ _
theorem iown_empty {W : World} {B g : Nat} (h : W.heap[g]? = some (.cells #[] 3 (0, 0))) (hB : B ≤ g) : IOwn W B (.slice (some ⟨g, 0, none⟩) 0 0) [] :=
  ⟨rfl, .inr ⟨g, 0, #[], rfl, hB, h, Nat.le_refl _, Nat.zero_le _, rfl, rfl⟩⟩
theorem iown_below {w0 w w' : World} {n : Nat} {v : Value} {xs : List Int} (h : IOwn w n v xs) (hb : Below n w0 w) (hg : w.grownBy w' v.ownBlock) (hn : n ≤ w.heap.size) : Below n w0 w' :=
  hb.grown hg hn fun k e => (World.ownsRow.lt h k e).1
theorem IOwn.lies {w : World} {base c : Nat} {q : Option Addr} {l : List Int} {n : Nat} (h : IOwn w base (.slice q n c) l) : ILies w q l ∧ n = l.length ∧ (∀ ad, q = some ad → base ≤ ad.block) ∧ n ≤ c ∧ (q = none → c = 0) := by
  rcases h.2 with ⟨e, e2⟩ | ⟨g, cap, cur, e, hb, hg, hc, _, _, ht⟩
  · simp at e
    obtain ⟨rfl, rfl, rfl⟩ := e
    exact ⟨fun hn => by omega, by omega, fun ad e => (by cases e), Nat.le_refl _, fun _ => rfl⟩
  · simp at e
    obtain ⟨rfl, rfl, rfl⟩ := e
    refine ⟨fun hn => ⟨g, 0, rfl, lt_size hg, fun j hj => ?_⟩, rfl, fun ad e => (by cases e; exact hb), hc, fun e => by cases e⟩
    have hf : (icells l)[j]? = some (.int .i64 l[j]) := by simp [icells, hj]
    rw [← ht, List.getElem?_take_of_lt (by omega)] at hf
    rw [← hf, Nat.zero_add]
    simp [World.cell?, hg]
theorem info_intI : (Tryd.prog.info? 3).map (fun i => (i.zero, i.size, i.bytes)) = some (some (.int .i64 0), 1, 8) := by kernel_rfl
theorem int_partsI : ∃ i, Tryd.prog.info? 3 = some i ∧ i.zero = some (.int .i64 0) ∧ i.size = 1 ∧ i.bytes = 8 := by
  have h := info_intI
  cases e : Tryd.prog.info? 3 with
  | none => rw [e] at h; cases h
  | some i =>
    rw [e] at h
    simp only [Option.map_some, Option.some.injEq, Prod.mk.injEq] at h
    exact ⟨i, rfl, h.1, h.2.1, h.2.2⟩
theorem run_iapp {w : World} {base : Nat} {v : Value} {xs l : List Int} {A : Option Addr} {c : Nat} (ty : TypeId) (hown : IOwn w base v xs) (hl : ILies w A l) (hA : A = none → l = [] ∧ c = 0) (h63 : xs.length + l.length ≤ 100000) (hbase : base ≤ w.heap.size) :
    ∃ q cap w', (Builtin.append_ #[29, 29] ty #[v, .slice A l.length c]).run Tryd.prog w = .ok (.slice q (xs.length + l.length) cap) w' ∧ IOwn w' base (.slice q (xs.length + l.length) cap) (xs ++ l) ∧ w.grownBy w' v.ownBlock := by
  obtain ⟨i, hi, hz, hs, hb⟩ := int_partsI
  cases A with
  | some ad =>
    obtain ⟨v', w', hr, h2, h3, _⟩ := run_append_own (P := Tryd.prog) (w := w) base 29 ty 3 i _ 1 8 Tryd.underlying29 hi hz hs hb rfl (by omega) v xs.length (icells xs) hown ad l.length c (icells l) (icells_len l) (hl.cells rfl) (fun u hu => icells_one hu) (by unfold maxLen; omega) (by omega) hbase
    obtain ⟨q, cap, rfl, _⟩ := own_slice h2
    exact ⟨q, cap, w', hr, by unfold IOwn; rw [List.length_append, icells_app]; exact h2, h3⟩
  | none =>
    obtain ⟨rfl, rfl⟩ := hA rfl
    have hr := run_append_owned_none (P := Tryd.prog) (w := w) base 29 ty 3 i 1 Tryd.underlying29 hi v xs.length (icells xs) hown
    obtain ⟨q, cap, rfl, _⟩ := own_slice hown
    exact ⟨q, cap, w, hr, by simpa using hown, ⟨rfl, rfl, rfl, Nat.le_refl _, fun _ _ _ => rfl⟩⟩
theorem oper_iapp {w : World} {o : Oper} {a : Act} {K : Act → World → Prop} {Q : Exit → Act → World → Prop} (s x : Operand) (ho : o.op = .call { callee := .builtin .append, args := #[s, x], argTypes := #[29, 29] })
    {base : Nat} {v : Value} {xs l : List Int} {A : Option Addr} {c : Nat} (hs : a.eval s = v) (hx : a.eval x = .slice A l.length c) (hown : IOwn w base v xs) (hl : ILies w A l) (hA : A = none → l = [] ∧ c = 0) (h63 : xs.length + l.length ≤ 100000) (hbase : base ≤ w.heap.size)
    (h : ∀ q cap w', IOwn w' base (.slice q (xs.length + l.length) cap) (xs ++ l) → w.grownBy w' v.ownBlock → K (a.put o.dst (.slice q (xs.length + l.length) cap)) w') : Oper.wp Tryd.prog o a w K Q := by
  obtain ⟨q, cap, w', hr, h2, h3⟩ := run_iapp o.type hown hl hA h63 hbase
  unfold Oper.wp execOp
  simp only [ho, resolve, invoke, builtin, Sem.run_bind, Sem.run_pure, Result.andThen_ok, List.map_toArray, List.map_cons, List.map_nil, hs, hx, hr]
  exact h q cap w' h2 h3
theorem wpList_iapp {w : World} {ops : Array Oper} {rest : List Oper} {o : Oper} {a : Act} {Q : Exit → Act → World → Prop} (hgd : o.guard = none) (s x : Operand) (ho : o.op = .call { callee := .builtin .append, args := #[s, x], argTypes := #[29, 29] })
    (base : Nat) (v : Value) (xs l : List Int) (A : Option Addr) (c : Nat) (hs : a.eval s = v) (hx : a.eval x = .slice A l.length c) (hown : IOwn w base v xs) (hl : ILies w A l) (hA : A = none → l = [] ∧ c = 0) (h63 : xs.length + l.length ≤ 100000) (hbase : base ≤ w.heap.size)
    (h : ∀ q cap w', IOwn w' base (.slice q (xs.length + l.length) cap) (xs ++ l) → w.grownBy w' v.ownBlock → wpList Tryd.prog ops Q rest (a.put o.dst (.slice q (xs.length + l.length) cap)) w') : wpList Tryd.prog ops Q (o :: rest) a w :=
  wpList_plain hgd fun _ hK => oper_iapp s x ho hs hx hown hl hA h63 hbase fun q cap w' h2 h3 => hK _ _ (h q cap w' h2 h3)
theorem step_iapp {w : World} {ops : Array Oper} {o : Oper} {a : Act} {K : Act → World → Prop} {Q : Exit → Act → World → Prop} {E : Prop} (hgd : o.guard = none) (s x : Operand) (ho : o.op = .call { callee := .builtin .append, args := #[s, x], argTypes := #[29, 29] })
    (base : Nat) (v : Value) (n : Nat) (xs : List Int) (m : Nat) (l : List Int) (A : Option Addr) (c t : Nat) (ht : n + m = t) (hs : a.eval s = v) (hx : a.eval x = .slice A m c) (hn : xs.length = n) (hm : l.length = m) (hown : IOwn w base v xs) (hl : ILies w A l) (hA : A = none → l = [] ∧ c = 0) (h63 : t ≤ 100000) (hbase : base ≤ w.heap.size)
    (h : ∀ q cap w', IOwn w' base (.slice q t cap) (xs ++ l) → w.grownBy w' v.ownBlock → K (a.put o.dst (.slice q t cap)) w') :
    if Region.wanted o (yielded ops a.tmps) = true then Oper.wp Tryd.prog o a w K Q else E := by
  subst ht
  subst hn
  subst hm
  rw [if_pos (by simp [Region.wanted, hgd])]
  exact oper_iapp s x ho hs hx hown hl hA h63 hbase h
theorem ilies_grown {w w' : World} {A : Option Addr} {l : List Int} {row : Option Nat} (h : ILies w A l) (hg : w.grownBy w' row) (hn : ∀ ad, A = some ad → some ad.block ≠ row) : ILies w' A l := fun hp => by
  obtain ⟨B, o, rfl, hB, hc⟩ := h hp
  have hk := hg.block B hB (hn _ rfl)
  exact ⟨B, o, rfl, Nat.lt_of_lt_of_le hB hg.size, fun j hj => (World.cell?_of_block (a := ⟨B, o + j, none⟩) hk).trans (hc j hj)⟩

/-- A node's two rows lie there. -/
structure NLies (w : World) (n : Nd) (A B : Option Addr) (c d : Nat) : Prop where
  sq : ILies w A n.sq
  en : ELies w B n.en
  sn : A = none → n.sq = [] ∧ c = 0
  nn : B = none → n.en = [] ∧ d = 0
  sc : n.sq.length ≤ c
  ec : n.en.length ≤ d
  sm : n.sq.length ≤ maxLen
  em : n.en.length ≤ maxLen
abbrev ndV (n : Nd) (A B : Option Addr) (c d : Nat) : Value := .agg #[.int .i64 n.k, .int .i64 n.l, .int .i64 n.z, .slice A n.sq.length c, .slice B n.en.length d]
structure NWf (n : Nd) : Prop where
  k : (Lit.int .i64 n.k).wf = true
  l : (Lit.int .i64 n.l).wf = true
  z : (Lit.int .i64 n.z).wf = true
  sq : ∀ x ∈ n.sq, (Lit.int .i64 x).wf = true
theorem NLies.below {w w' : World} {n : Nd} {A B : Option Addr} {c d : Nat} (h : NLies w n A B c d) (hb : Below w.heap.size w w') : NLies w' n A B c d :=
  ⟨h.sq.below hb, h.en.below hb, h.sn, h.nn, h.sc, h.ec, h.sm, h.em⟩
end Go.Proofs.YtfboilbmehcgoaaDoor

/- Numbers of pages: sheet's Number, the reference's PageOf, SplitPage; ints brought within bounds. -/
namespace Go.Proofs.YtfboilbmehcgoaaDoor
open Go.RowKit

theorem u64_nat (x : Int) (m : Nat) (hm : 0 < m) (h : m ≤ 9223372036854775807) : ∃ N : Nat, IntKind.u64.wrap x % (m : Int) = (N : Int) ∧ N < m := by
  have e : IntKind.u64.wrap x = x % 18446744073709551616 := by unfold IntKind.wrap; rfl
  have h0 : 0 ≤ IntKind.u64.wrap x := by rw [e]; omega
  have h1 := Int.emod_nonneg (IntKind.u64.wrap x) (show (m : Int) ≠ 0 by omega)
  have h2 := Int.emod_lt_of_pos (IntKind.u64.wrap x) (show (0 : Int) < m by omega)
  exact ⟨(IntKind.u64.wrap x % (m : Int)).toNat, by omega, by omega⟩
theorem u64_tmod (x : Int) (m : Nat) (hm : 0 < m) (h : m ≤ 9223372036854775807) : ∃ N : Nat, (IntKind.u64.wrap x).tmod (m : Int) = (N : Int) ∧ N < m := by
  obtain ⟨N, h1, h2⟩ := u64_nat x m hm h
  have e : IntKind.u64.wrap x = x % 18446744073709551616 := by unfold IntKind.wrap; rfl
  exact ⟨N, by rw [Int.tmod_eq_emod_of_nonneg (by rw [e]; omega)]; exact h1, h2⟩
theorem u64_rng (x : Int) : 0 ≤ IntKind.u64.wrap x ∧ IntKind.u64.wrap x ≤ 18446744073709551615 := by
  have e : IntKind.u64.wrap x = x % 18446744073709551616 := by unfold IntKind.wrap; rfl
  rw [e]; omega
theorem small12 (x : Int) : ∃ N : Nat, (IntKind.u64.wrap x).tmod 12 = (N : Int) ∧ N < 12 := by
  have := u64_tmod x 12 (by decide) (by decide); simpa using this
theorem small5 (x : Int) : ∃ N : Nat, (IntKind.u64.wrap x).tmod 5 = (N : Int) ∧ N < 5 := by
  have := u64_tmod x 5 (by decide) (by decide); simpa using this
def numS (a b : Int) : Int := if (0 ≤ a ∧ a ≤ 11) ∧ 0 ≤ b ∧ b ≤ 4 then 1 + a * 5 + b else 0
def splitS (n : Int) : Int × Int := if 1 ≤ n ∧ n ≤ 60 then ((n - 1) / 5, (n - 1) % 5) else (-1, -1)
theorem numS_in {a : Int} {q : Nat} (h0 : 0 ≤ a) (h1 : a < 12) (hq : q < 5) : numS a (q : Int) = 1 + a * 5 + q := by
  unfold numS
  rw [if_pos (by omega)]
theorem splitS_in {a : Int} {q : Nat} (h0 : 0 ≤ a) (h1 : a < 12) (hq : q < 5) : splitS (1 + a * 5 + (q : Int)) = (a, (q : Int)) := by
  unfold splitS
  rw [if_pos (by omega), (split_num hq).1, (split_num hq).2]
end Go.Proofs.YtfboilbmehcgoaaDoor

/- Rows of refs: two cells each; one of the call's own; append to it (written by mkrefs.py). -/
namespace Go.Proofs.YtfboilbmehcgoaaDoor
open Go.RowKit

abbrev P2 := Int × Int
/-- At A of w these refs lie. -/
def RLies (w : World) (A : Option Addr) (l : List P2) : Prop :=
  0 < l.length → ∃ B o, A = some ⟨B, o, none⟩ ∧ B < w.heap.size ∧ ∀ j (h : j < l.length),
    w.cell? ⟨B, o + j * 2, none⟩ = some (.int .i64 l[j].1) ∧ w.cell? ⟨B, o + j * 2 + 1, none⟩ = some (.int .i64 l[j].2)
theorem RLies.below {w w' : World} {A : Option Addr} {l : List P2} (h : RLies w A l) (hb : Below w.heap.size w w') : RLies w' A l := fun hn => by
  obtain ⟨B, o, e, hB, hc⟩ := h hn
  refine ⟨B, o, e, Nat.lt_of_lt_of_le hB hb.size, fun j hj => ?_⟩
  obtain ⟨h0, h1⟩ := hc j hj
  exact ⟨(hb.cell (p := ⟨B, o + j * 2, none⟩) hB).trans h0, (hb.cell (p := ⟨B, o + j * 2 + 1, none⟩) hB).trans h1⟩
theorem RLies.nil (w : World) (A : Option Addr) : RLies w A [] := fun h => absurd h (by simp)
def renc (f : P2) : List Value := [.int .i64 f.1, .int .i64 f.2]
def rcells (l : List P2) : List Value := l.flatMap renc
theorem rcells_cons (f : P2) (l : List P2) : rcells (f :: l) = renc f ++ rcells l := rfl
theorem rcells_app (l m : List P2) : rcells (l ++ m) = rcells l ++ rcells m := by simp [rcells]
theorem rcells_len (l : List P2) : (rcells l).length = l.length * 2 := by
  induction l with
  | nil => rfl
  | cons f l ih => rw [rcells_cons, List.length_append, ih, List.length_cons]; simp [renc]; omega
theorem rcells_at : ∀ (l : List P2) (j : Nat) (h : j < l.length) (r : Nat), r < 2 → (rcells l)[j * 2 + r]? = (renc l[j])[r]?
  | [], _, h, _, _ => by cases h
  | f :: l, 0, _, r, hr => by
    rw [rcells_cons, List.getElem?_append_left (by simp [renc]; omega)]
    simp
  | f :: l, j + 1, h, r, hr => by
    rw [rcells_cons, List.getElem?_append_right (by simp [renc]; omega)]
    have e : (j + 1) * 2 + r - (renc f).length = j * 2 + r := by simp [renc]; omega
    rw [e, rcells_at l j (by simpa using h) r hr]
    rfl
theorem rcells_one {l : List P2} {u : Value} (h : u ∈ rcells l) : u.oneCell' = true := by
  obtain ⟨f, _, hu⟩ := List.mem_flatMap.1 h
  simp [renc] at hu
  rcases hu with rfl | rfl <;> rfl
theorem RLies.cells {w : World} {A : Option Addr} {l : List P2} (h : RLies w A l) {ad : Addr} (e : A = some ad) : ∀ (k : Nat) (u : Value), (rcells l)[k]? = some u → w.cell? (ad.add k) = some u := fun k u hu => by
  have hk : k < l.length * 2 := by
    rcases Nat.lt_or_ge k (l.length * 2) with h' | h'
    · exact h'
    · rw [List.getElem?_eq_none (by rw [rcells_len]; exact h')] at hu; cases hu
  obtain ⟨B, o, e2, _, hc⟩ := h (by omega)
  obtain rfl : ad = ⟨B, o, none⟩ := by rw [e] at e2; exact Option.some.inj e2
  have ea : (⟨B, o, none⟩ : Addr).add k = ⟨B, o + k, none⟩ := by
    unfold Addr.add
    split
    · next e => subst e; rfl
    · rfl
  have hj : k / 2 < l.length := by omega
  have hr : k % 2 < 2 := Nat.mod_lt _ (by omega)
  have hkk : k = k / 2 * 2 + k % 2 := by omega
  obtain ⟨c0, c1⟩ := hc (k / 2) hj
  have hf := rcells_at l (k / 2) hj (k % 2) hr
  rw [← hkk, hu] at hf
  rw [ea, show o + k = o + k / 2 * 2 + k % 2 by omega]
  generalize k / 2 = j at *
  generalize k % 2 = r at *
  rcases (by omega : r = 0 ∨ r = 1) with rfl | rfl
  · rw [Nat.add_zero, c0, hf]; rfl
  · rw [c1, hf]; rfl
/-- The first of a row. -/
theorem RLies.take {w : World} {A : Option Addr} {l : List P2} (h : RLies w A l) (k : Nat) : RLies w A (l.take k) := fun hn => by
  obtain ⟨B, o, e, hB, hc⟩ := h (by rw [List.length_take] at hn; omega)
  exact ⟨B, o, e, hB, fun j hj => by
    have hj2 : j < l.length := by rw [List.length_take] at hj; omega
    have e : (l.take k)[j] = l[j] := List.getElem_take
    rw [e]
    exact hc j hj2⟩
theorem RLies.map_add {w : World} {A : Option Addr} {l : List P2} (h : RLies w A l) (k c : Nat) (hc : l.length ≤ c) : RLies w (if c = k then A else A.map (·.add (k * 2))) (l.drop k) := fun hn => by
  rw [List.length_drop] at hn
  obtain ⟨B, o, e, hB, hx⟩ := h (by omega)
  rw [if_neg (by omega), e]
  refine ⟨B, o + k * 2, ?_, hB, fun j hj => ?_⟩
  · show some _ = _
    congr 1
    unfold Addr.add
    split
    · next h0 => rw [h0]; rfl
    · rfl
  · rw [List.length_drop] at hj
    rw [List.getElem_drop]
    obtain ⟨h0, h1⟩ := hx (k + j) (by omega)
    rw [Nat.add_mul, ← Nat.add_assoc] at h0 h1
    exact ⟨h0, h1⟩
theorem rlies_grown {w w' : World} {A : Option Addr} {l : List P2} {row : Option Nat} (h : RLies w A l) (hg : w.grownBy w' row) (hn : ∀ ad, A = some ad → some ad.block ≠ row) : RLies w' A l := fun hp => by
  obtain ⟨B, o, rfl, hB, hc⟩ := h hp
  have hk := hg.block B hB (hn _ rfl)
  refine ⟨B, o, rfl, Nat.lt_of_lt_of_le hB hg.size, fun j hj => ?_⟩
  obtain ⟨h0, h1⟩ := hc j hj
  exact ⟨(World.cell?_of_block (a := ⟨B, o + j * 2, none⟩) hk).trans h0, (World.cell?_of_block (a := ⟨B, o + j * 2 + 1, none⟩) hk).trans h1⟩
end Go.Proofs.YtfboilbmehcgoaaDoor

/- A node as an argument, opened: three ints, a row of ints, a row of entries. -/
namespace Go.Proofs.YtfboilbmehcgoaaDoor
open Go.RowKit Go.ChangeShapes Go.WideShapes

theorem cells_ent : Tryd.prog.cellsOf 34 = 2 := by kernel_rfl
theorem cells_str : Tryd.prog.cellsOf 9 = 1 := by kernel_rfl
theorem cells_int : Tryd.prog.cellsOf 3 = 1 := by kernel_rfl
theorem addr_plainE {w : World} {ad : Addr} {v : Value} (h : w.cell? ad = some v) : ad = ⟨ad.block, ad.off, none⟩ ∧ ad.block < w.heap.size := by
  refine ⟨?_, World.block_lt_of_cell? w _ h⟩
  obtain ⟨b, o, s⟩ := ad
  cases s with
  | none => rfl
  | some x =>
    exfalso
    unfold World.cell? at h
    simp only [Option.isSome_some, if_true] at h
    split at h <;> cases h
theorem cells_node : Tryd.prog.cellsOf 32 = 5 := by kernel_rfl
theorem cells_lint : Tryd.prog.cellsOf 29 = 1 := by kernel_rfl
theorem cells_lent : Tryd.prog.cellsOf 30 = 1 := by kernel_rfl
set_option maxRecDepth 100000 in
theorem trod_lent {H : Type} {enc : TypeId × Value → H} {W : World} {fuel : Nat} {cs : List Value} {x : DataW H × List MemPlace} (hf : DataW.trod enc Tryd.prog W 0 (fun _ => true) true fuel 30 cs = some x) :
    ∃ (A : Option Addr) (cap : Nat) (l : List Ent), cs = [.slice A l.length cap] ∧ l.length ≤ maxLen ∧ l.length ≤ cap ∧ (A = none → l = [] ∧ cap = 0) ∧ ELies W A l := by
  rcases Deep.open_slice Tryd.underlying30 hf with ⟨hcs, _⟩ | ⟨a, len, cap, m, k, D, Pl, hcs, _, hl, hm, hmm, _, hx⟩
  · subst hcs
    exact ⟨none, 0, [], rfl, by simp, by simp, fun _ => ⟨rfl, rfl⟩, .nil _ _⟩
  · subst hcs
    have hml : len ≤ m := by simp at hmm; omega
    have hplain : 0 < len → ∃ ab ao, a = ⟨ab, ao, none⟩ ∧ ab < W.heap.size := fun h0 => by
      obtain ⟨cs', h1, _⟩ := hx 0 (by omega)
      rw [cells_ent] at h1
      obtain ⟨_, hlen, hcell⟩ := World.cells?_some h1
      have h9 := hcell 0 (by omega)
      rw [Nat.zero_mul, show (a.add 0).add 0 = a from rfl] at h9
      match cs', hlen with
      | [v0, v1], _ =>
        have hp := addr_plainE (w := W) (v := v0) (by simpa using h9)
        exact ⟨a.block, a.off, hp.1, hp.2⟩
    have each : ∀ i, i < len → ∃ q : Ent, W.cell? (a.add (i * 2)) = some (.string q.1) ∧ W.cell? (a.add (i * 2 + 1)) = some (.int .i64 q.2) := fun i hi => by
      obtain ⟨cs', h1, h2⟩ := hx i (by omega)
      rw [cells_ent] at h1
      obtain ⟨_, hlen, hcell⟩ := World.cells?_some h1
      obtain ⟨xs, n, _, _, _, hxl, hfl⟩ := DataW.trod_struct Tryd.underlying34 h2
      match cs', hlen with
      | [v0, v1], _ =>
        have get : ∀ i, i < 2 → ∃ y, xs[i]? = some y := fun i hi => ⟨xs[i]'(by rw [hxl]; exact hi), List.getElem?_eq_getElem _⟩
        have h0 := hfl 0 _ rfl
        have h1 := hfl 1 _ rfl
        obtain ⟨y0, g0⟩ := get 0 (by omega)
        obtain ⟨y1, g1⟩ := get 1 (by omega)
        rw [g0] at h0
        rw [g1] at h1
        obtain ⟨s0, e0, _, w0⟩ := DataW.trod_string Tryd.underlying9 h0
        obtain ⟨x1, e1, _, w1⟩ := DataW.trod_int Tryd.underlying3 h1
        simp [cells_int, cells_str] at e0 e1
        subst e0 e1
        have c0 := hcell 0 (by omega)
        have c1 := hcell 1 (by omega)
        rw [add_add] at c0 c1
        simp only [List.getElem?_cons_zero, List.getElem?_cons_succ, Nat.add_zero] at c0 c1
        exact ⟨(s0, x1), c0, c1⟩
    obtain ⟨q, hq⟩ := Deep.choose_lt each
    refine ⟨some a, cap, (List.range len).map q, by simp, by simp; omega, by simp; omega, fun e => (by cases e), fun hn => ?_⟩
    simp only [List.length_map, List.length_range] at hn
    obtain ⟨ab, ao, rfl, hab⟩ := hplain hn
    refine ⟨ab, ao, rfl, hab, fun j hj => ?_⟩
    simp only [List.length_map, List.length_range] at hj
    simp only [List.getElem_map, List.getElem_range]
    have hadd : ∀ j, (⟨ab, ao, none⟩ : Addr).add j = ⟨ab, ao + j, none⟩ := fun j => by
      unfold Addr.add; split
      · next e => rw [e]; rfl
      · rfl
    have := hq j hj
    rw [hadd, hadd] at this
    exact this
set_option maxRecDepth 100000 in
theorem trod_lint {H : Type} {enc : TypeId × Value → H} {W : World} {fuel : Nat} {cs : List Value} {x : DataW H × List MemPlace} (hf : DataW.trod enc Tryd.prog W 0 (fun _ => true) true fuel 29 cs = some x) :
    ∃ (A : Option Addr) (cap : Nat) (l : List Int), cs = [.slice A l.length cap] ∧ l.length ≤ maxLen ∧ l.length ≤ cap ∧ (A = none → l = [] ∧ cap = 0) ∧ ILies W A l ∧ ∀ z ∈ l, (Lit.int .i64 z).wf = true := by
  rcases open_ints Tryd.underlying29 Tryd.underlying3 cells_int hf with ⟨hcs, _⟩ | ⟨a, len, cap, zs, hcs, _, hl, hm, hz, _, hcell, hw⟩
  · subst hcs
    exact ⟨none, 0, [], rfl, by simp, by simp, fun _ => ⟨rfl, rfl⟩, .nil _ _, by simp⟩
  · subst hcs
    have hml : len ≤ zs.length := by simp at hz; omega
    have hlen : (zs.take len).length = len := by rw [List.length_take]; omega
    refine ⟨some a, cap, zs.take len, by rw [hlen], by rw [hlen]; omega, by rw [hlen]; omega, fun e => (by cases e), fun hn => ?_, fun z hz => hw z (List.mem_of_mem_take hz)⟩
    rw [hlen] at hn
    have h9 := hcell 0 (by omega)
    obtain ⟨hp, hlt⟩ := addr_plainE h9
    have ha : a.spot = none := by
      have : (a.add 0) = a := rfl
      rw [this] at hp
      rw [hp]
    obtain ⟨ab, ao, sp⟩ := a
    obtain rfl : sp = none := ha
    refine ⟨ab, ao, rfl, hlt, fun j hj => ?_⟩
    rw [hlen] at hj
    have h8 := hcell j (by omega)
    have hadd : (⟨ab, ao, none⟩ : Addr).add j = ⟨ab, ao + j, none⟩ := by
      unfold Addr.add; split
      · next e => rw [e]; rfl
      · rfl
    rw [hadd] at h8
    rw [h8, List.getElem_take]
    simp [List.getD, List.getElem?_eq_getElem (show j < zs.length by omega)]
set_option maxRecDepth 100000 in
theorem open_node {H : Type} {enc : TypeId × Value → H} {W : World} {r : Reach} {b0 : Nat} {v : Value} {d : DataW H} {p : List MemPlace} (hv : Value.okWide Tryd.prog W r b0 32 v) (h : DataW.Trod enc Tryd.prog W 0 (fun _ => true) true 32 v d p) :
    ∃ (n : Nd) (A B : Option Addr) (c e : Nat), v = ndV n A B c e ∧ NLies W n A B c e ∧ NWf n := by
  obtain ⟨cs, rfl, hsz⟩ := okWide_struct Tryd.underlying32 hv
  rw [cells_node] at hsz
  obtain ⟨fuel, hf⟩ := h
  obtain ⟨l, rfl⟩ : ∃ l : List Value, cs = l.toArray := ⟨cs.toList, by simp⟩
  match l, hsz with
  | [a, b, c, s, t], _ =>
    obtain ⟨xs, n, _, _, _, hlen, hx⟩ := DataW.trod_struct Tryd.underlying32 hf
    have get : ∀ i, i < 5 → ∃ y, xs[i]? = some y := fun i hi => ⟨xs[i]'(by rw [hlen]; exact hi), List.getElem?_eq_getElem _⟩
    have h0 := hx 0 _ rfl
    have h1 := hx 1 _ rfl
    have h2 := hx 2 _ rfl
    have h3 := hx 3 _ rfl
    have h4 := hx 4 _ rfl
    obtain ⟨y0, g0⟩ := get 0 (by omega)
    obtain ⟨y1, g1⟩ := get 1 (by omega)
    obtain ⟨y2, g2⟩ := get 2 (by omega)
    obtain ⟨y3, g3⟩ := get 3 (by omega)
    obtain ⟨y4, g4⟩ := get 4 (by omega)
    rw [g0] at h0
    rw [g1] at h1
    rw [g2] at h2
    rw [g3] at h3
    rw [g4] at h4
    obtain ⟨x0, e0, _, w0⟩ := DataW.trod_int Tryd.underlying3 h0
    obtain ⟨x1, e1, _, w1⟩ := DataW.trod_int Tryd.underlying3 h1
    obtain ⟨x2, e2, _, w2⟩ := DataW.trod_int Tryd.underlying3 h2
    obtain ⟨A, ca, ls, e3, s1, s2, s3, s4, s5⟩ := trod_lint h3
    obtain ⟨B, cb, le, e4, t1, t2, t3, t4⟩ := trod_lent h4
    simp [cells_int, cells_lint, cells_lent, Value.cells] at e0 e1 e2 e3 e4
    subst e0 e1 e2 e3 e4
    exact ⟨⟨x0, x1, x2, ls, le⟩, A, B, ca, cb, rfl, ⟨s4, t4, s3, t3, s2, t2, s1, t1⟩, ⟨w0, w1, w2, s5⟩⟩
end Go.Proofs.YtfboilbmehcgoaaDoor

/- The reference's Ints; the law's Light of nodes. -/
namespace Go.Proofs.YtfboilbmehcgoaaDoor
open Go.RowKit Go.Lib

set_option maxRecDepth 100000 in
set_option maxHeartbeats 2000000 in
theorem ints_any (A1 A2 : Option Addr) (c1 c2 : Nat) (l m : List Int) (w : World) (h1 : ILies w A1 l) (h2 : ILies w A2 m) (hl : l.length ≤ maxLen) (hm : m.length ≤ maxLen) : Calls Tryd.prog 50 #[.slice A1 l.length c1, .slice A2 m.length c2] w fun x w' => x = .returned (.bool (decide (l = m))) ∧ Below w.heap.size w w' := by
  have hmx : maxLen = 9223372036854775807 := rfl
  by_cases hlm : l.length = m.length
  case neg =>
    rw [decide_eq_false (fun e => hlm (by rw [e]))]
    have d1 : ((l.length : Int) != (m.length : Int)) = true := by rw [bne_iff_ne]; omega
    go_enter Tryd.func50, Tryd.ntmps50
    go_wp2_with fail
    go_ret
    exact ⟨rfl, Below.refl _ _⟩
  have d1 : ((l.length : Int) != (m.length : Int)) = false := by rw [bne_eq_false_iff_eq]; omega
  have HLM := Lib.hid hlm
  clear hlm
  have H1 := Lib.hid h1
  have H2 := Lib.hid h2
  obtain ⟨R, hR⟩ : ∃ R, decide (l = m) = R := ⟨_, rfl⟩
  rw [hR]
  replace hR := Lib.hid hR
  clear h1 h2
  go_enter Tryd.func50, Tryd.ntmps50
  go_wp2_with fail
  go_loopw [5, 13] (fun _ v13 wr => ∃ j : Nat, j ≤ l.length ∧ v13 = .int .i64 j ∧ Hid (∀ i (h : i < l.length) (h' : i < m.length), i < j → l[i] = m[i]) ∧ Below w.heap.size w wr) (fun _ v13 _ => l.length - (RowKit.intOf v13).toNat)
  case atStart => exact ⟨0, Nat.zero_le _, rfl, Lib.hid fun i _ _ h => absurd h (Nat.not_lt_zero i), Below.refl _ _⟩
  case round =>
    obtain ⟨j, hj, rfl, HI, hB⟩ := hrel
    have HB := Lib.hid hB
    clear hB
    by_cases hj1 : j < l.length
    · have hj2 : j < m.length := by have := HLM.out; omega
      obtain ⟨B, o, rfl, hBs, hc⟩ := (H1.out.below HB.out) (by omega)
      obtain ⟨B', o', rfl, hBs', hc'⟩ := (H2.out.below HB.out) (by omega)
      have d2 : decide ((j : Int) < (l.length : Int)) = true := decide_eq_true (by omega)
      have k0 := hc j hj1
      have p0 := hc' j hj2
      obtain ⟨x, hx⟩ : ∃ x, l[j] = x := ⟨_, rfl⟩
      obtain ⟨y, hy⟩ : ∃ y, m[j] = y := ⟨_, rfl⟩
      rw [hx] at k0
      rw [hy] at p0
      have HX := Lib.hid hx
      have HY := Lib.hid hy
      clear hc hc' hx hy
      by_cases e : x = y
      · have HE := Lib.hid e
        have hne : (x != y) = false := by simp [e]
        clear e
        go_wp2_with fail
        go_quiet (fail)
        go_wp2_with fail
        go_roundw
        case rel =>
          refine ⟨j + 1, by omega, by go_num, Lib.hid fun i h h' hi => ?_, by first | exact HB.out | exact HB.out.drew | exact drewN_below HB.out _⟩
          by_cases e : i = j
          · subst e; rw [HX.out, HY.out]; exact HE.out
          · exact HI.out i h h' (by omega)
        case measure => simp [RowKit.intOf]; omega
      · have HE : Hid (R = false) := Lib.hid (by
          rw [← hR.out]
          refine decide_eq_false fun hh => e ?_
          have h3 := HX.out
          have h4 := HY.out
          subst hh
          rw [← h3, ← h4])
        have hne : (x != y) = true := by simp [e]
        clear e
        go_wp2_with fail
        go_quiet (fail)
        go_wp2_with fail
        go_ret
        exact ⟨by rw [HE.out]; rfl, by first | exact HB.out | exact HB.out.drew | exact drewN_below HB.out _⟩
    · have d2 : decide ((j : Int) < (l.length : Int)) = false := decide_eq_false (by omega)
      have HR2 : Hid (R = true) := Lib.hid (by
        rw [← hR.out]
        exact decide_eq_true (List.ext_getElem HLM.out fun i h h' => HI.out i h h' (by omega)))
      go_wp2_with fail
      go_ret
      exact ⟨by rw [HR2.out]; rfl, HB.out⟩
/-- What the law's Light says of a node. -/
def lightN (n : Nd) : Int := if 60 < n.sq.length then 1 else lightV n.en
theorem box_node (w : World) (a b c d e : Value) (t : TypeId) : (w.alloc (.cells #[a, b, c, d, e] t)).heap[w.heap.size]? = some (.cells #[a, b, c, d, e] t (0, 0)) := heap_alloc_new w _
set_option maxRecDepth 100000 in
set_option maxHeartbeats 2000000 in
theorem lightN_any (n : Nd) (A B : Option Addr) (c d : Nat) (w : World) (h : NLies w n A B c d) : Calls Tryd.prog 25 #[ndV n A B c d] w fun x w' => x = .returned (.int .i64 (lightN n)) ∧ Below w.heap.size w w' := by
  have hmx : maxLen = 9223372036854775807 := rfl
  have hsm := h.sm
  have HH := Lib.hid h
  have HBA := Lib.hid ((Below.refl w.heap.size w).alloc (Nat.le_refl _) (.cells #[.int .i64 n.k, .int .i64 n.l, .int .i64 n.z, .slice A n.sq.length c, .slice B n.en.length d] 32))
  clear h
  by_cases h60 : 60 < n.sq.length
  · have d1 : decide ((60 : Int) < (n.sq.length : Int)) = true := decide_eq_true (by omega)
    have HL : Hid (lightN n = 1) := Lib.hid (if_pos h60)
    go_enter Tryd.func25, Tryd.ntmps25
    go_wp2_with fail
    go_ret
    exact ⟨by rw [HL.out]; rfl, HBA.out⟩
  · have d1 : decide ((60 : Int) < (n.sq.length : Int)) = false := decide_eq_false (by omega)
    have HL : Hid (lightN n = lightV n.en) := Lib.hid (if_neg h60)
    go_enter Tryd.func25, Tryd.ntmps25
    go_wp2_with (go_at_call 46; refine (light_any B d n.en _ (HH.out.below HBA.out).en HH.out.em).mono ?_; rintro e w' ⟨rfl, hb⟩)
    go_ret
    exact ⟨by rw [HL.out]; rfl, HBA.out.trans (hb.mono HBA.out.size)⟩
end Go.Proofs.YtfboilbmehcgoaaDoor

/- The reference's MayNode. -/
namespace Go.Proofs.YtfboilbmehcgoaaDoor
open Go.RowKit Go.Lib

set_option maxRecDepth 100000 in
set_option maxHeartbeats 4000000 in
theorem maynr_any (n : Nd) (A B : Option Addr) (c d : Nat) (w : World) (h : NLies w n A B c d) : Calls Tryd.prog 35 #[ndV n A B c d] w fun x w' => x = .returned (.bool (mayNd n)) ∧ Below w.heap.size w w' := by
  have hmx : maxLen = 9223372036854775807 := rfl
  obtain ⟨k, l, z, sq, en⟩ := n
  have hsm : sq.length ≤ maxLen := h.sm
  have hem : en.length ≤ maxLen := h.em
  have HH := Lib.hid h
  have HBA := Lib.hid ((Below.refl w.heap.size w).alloc (Nat.le_refl _) (.cells #[.int .i64 k, .int .i64 l, .int .i64 z, .slice A sq.length c, .slice B en.length d] 32))
  clear h
  by_cases h0 : k = 0
  · subst h0
    have a1 : (l == 0) = decide (l = 0) := rfl
    have a2 : (z == 0) = decide (z = 0) := rfl
    have a3 : ((sq.length : Int) == 0) = decide (sq.length = 0) := by rw [Bool.eq_iff_iff]; simp
    have a4 : ((en.length : Int) == 0) = decide (en.length = 0) := by rw [Bool.eq_iff_iff]; simp
    obtain ⟨R, hR⟩ : ∃ R, mayNd ⟨0, l, z, sq, en⟩ = R := ⟨_, rfl⟩
    rw [hR]
    have hR2 : (decide (l = 0) && (decide (z = 0) && (decide (sq.length = 0) && decide (en.length = 0)))) = R := hR
    clear hR
    generalize decide (l = 0) = x1 at a1 hR2
    generalize decide (z = 0) = x2 at a2 hR2
    generalize decide (sq.length = 0) = x3 at a3 hR2
    generalize decide (en.length = 0) = x4 at a4 hR2
    subst hR2
    cases x1 <;> cases x2 <;> cases x3 <;> cases x4
    all_goals
      go_enter Tryd.func35, Tryd.ntmps35
      go_wp2_with fail
      go_ret
      exact ⟨rfl, HBA.out⟩
  by_cases h2 : k = 2
  · subst h2
    have a1 : (l == 1) = decide (l = 1) := rfl
    have a2 : (z == 0) = decide (z = 0) := rfl
    have a3 : ((sq.length : Int) == 0) = decide (sq.length = 0) := by rw [Bool.eq_iff_iff]; simp
    obtain ⟨R, hR⟩ : ∃ R, mayNd ⟨2, l, z, sq, en⟩ = R := ⟨_, rfl⟩
    rw [hR]
    have hR2 : (decide (l = 1) && (decide (z = 0) && (decide (sq.length = 0) && mayEs en))) = R := hR
    clear hR
    obtain ⟨x4, hx4⟩ : ∃ x, mayEs en = x := ⟨_, rfl⟩
    rw [hx4] at hR2
    have HC := Lib.hid (fun w1 (hw : ELies w1 B en) => (mayr_any B d en w1 hw))
    rw [hx4] at HC
    clear hx4
    generalize decide (l = 1) = x1 at a1 hR2
    generalize decide (z = 0) = x2 at a2 hR2
    generalize decide (sq.length = 0) = x3 at a3 hR2
    subst hR2
    cases x1 <;> cases x2 <;> cases x3
    all_goals
      go_enter Tryd.func35, Tryd.ntmps35
      go_wp2_with (go_at_call 56; refine (HC.out _ (HH.out.below HBA.out).en).mono ?_; rintro e w' ⟨rfl, hb⟩)
      go_ret
      first
        | exact ⟨rfl, HBA.out⟩
        | exact ⟨by simp, HBA.out.trans (hb.mono HBA.out.size)⟩
  have e0 : (k == 0) = false := by simpa using h0
  have e2 : (k == 2) = false := by simpa using h2
  by_cases h1 : k = 1
  case neg =>
    have e1 : (k == 1) = false := by simpa using h1
    have HM : Hid (mayNd ⟨k, l, z, sq, en⟩ = false) := Lib.hid (by unfold mayNd; rw [if_neg h0, if_neg h2, if_neg h1])
    clear h0 h2 h1
    go_enter Tryd.func35, Tryd.ntmps35
    go_wp2_with fail
    go_ret
    exact ⟨by rw [HM.out]; rfl, HBA.out⟩
  subst h1
  clear e0 e2 h0 h2
  obtain ⟨R, hR⟩ : ∃ R, mayNd ⟨1, l, z, sq, en⟩ = R := ⟨_, rfl⟩
  rw [hR]
  have hR2 : (decide (0 ≤ l) && (decide (l ≤ 120) && (decide (0 ≤ z) && (decide (z ≤ 80) && (decide (sq.length = 5) && (decide (en.length = 0) && maySqs z 0 sq)))))) = R := hR
  clear hR
  by_cases hf : 0 ≤ l ∧ l ≤ 120 ∧ 0 ≤ z ∧ z ≤ 80 ∧ sq.length = 5 ∧ en.length = 0
  case neg =>
    have HR : Hid (R = false) := Lib.hid (by
      rw [← hR2]
      cases e : (decide (0 ≤ l) && (decide (l ≤ 120) && (decide (0 ≤ z) && (decide (z ≤ 80) && (decide (sq.length = 5) && (decide (en.length = 0) && maySqs z 0 sq)))))) with
      | false => rfl
      | true =>
        simp only [Bool.and_eq_true, decide_eq_true_eq] at e
        exact absurd ⟨e.1, e.2.1, e.2.2.1, e.2.2.2.1, e.2.2.2.2.1, e.2.2.2.2.2.1⟩ hf)
    clear hR2
    have a1 : decide (l < 0) = !decide (0 ≤ l) := by rw [Bool.eq_iff_iff]; simp
    have a2 : decide (120 < l) = !decide (l ≤ 120) := by rw [Bool.eq_iff_iff]; simp
    have a3 : decide (z < 0) = !decide (0 ≤ z) := by rw [Bool.eq_iff_iff]; simp
    have a4 : decide (80 < z) = !decide (z ≤ 80) := by rw [Bool.eq_iff_iff]; simp
    have a5 : ((sq.length : Int) != 5) = !decide (sq.length = 5) := by rw [Bool.eq_iff_iff]; simp; omega
    have a6 : ((en.length : Int) != 0) = !decide (en.length = 0) := by rw [Bool.eq_iff_iff]; simp
    by_cases x1 : 0 ≤ l
    · rw [decide_eq_true x1] at a1
      by_cases x2 : l ≤ 120
      · rw [decide_eq_true x2] at a2
        by_cases x3 : 0 ≤ z
        · rw [decide_eq_true x3] at a3
          by_cases x4 : z ≤ 80
          · rw [decide_eq_true x4] at a4
            by_cases x5 : sq.length = 5
            · rw [decide_eq_true x5] at a5
              rw [decide_eq_false (fun x6 => hf ⟨x1, x2, x3, x4, x5, x6⟩)] at a6
              clear hf x1 x2 x3 x4 x5
              go_enter Tryd.func35, Tryd.ntmps35
              go_wp2_with fail
              go_ret
              exact ⟨by rw [HR.out]; rfl, HBA.out⟩
            · rw [decide_eq_false x5] at a5
              clear hf x1 x2 x3 x4 x5
              go_enter Tryd.func35, Tryd.ntmps35
              go_wp2_with fail
              go_ret
              exact ⟨by rw [HR.out]; rfl, HBA.out⟩
          · rw [decide_eq_false x4] at a4
            clear hf x1 x2 x3 x4
            go_enter Tryd.func35, Tryd.ntmps35
            go_wp2_with fail
            go_ret
            exact ⟨by rw [HR.out]; rfl, HBA.out⟩
        · rw [decide_eq_false x3] at a3
          clear hf x1 x2 x3
          go_enter Tryd.func35, Tryd.ntmps35
          go_wp2_with fail
          go_ret
          exact ⟨by rw [HR.out]; rfl, HBA.out⟩
      · rw [decide_eq_false x2] at a2
        clear hf x1 x2
        go_enter Tryd.func35, Tryd.ntmps35
        go_wp2_with fail
        go_ret
        exact ⟨by rw [HR.out]; rfl, HBA.out⟩
    · rw [decide_eq_false x1] at a1
      clear hf x1
      go_enter Tryd.func35, Tryd.ntmps35
      go_wp2_with fail
      go_ret
      exact ⟨by rw [HR.out]; rfl, HBA.out⟩
  obtain ⟨f1, f2, f3, f4, f5, f6⟩ := hf
  have HR : Hid (maySqs z 0 sq = R) := Lib.hid (by
    rw [decide_eq_true f1, decide_eq_true f2, decide_eq_true f3, decide_eq_true f4, decide_eq_true f5, decide_eq_true f6] at hR2
    simpa using hR2)
  have a1 : decide (l < 0) = false := decide_eq_false (by omega)
  have a2 : decide (120 < l) = false := decide_eq_false (by omega)
  have a3 : decide (z < 0) = false := decide_eq_false (by omega)
  have a4 : decide (80 < z) = false := decide_eq_false (by omega)
  have a5 : ((sq.length : Int) != 5) = false := by rw [f5]; rfl
  have a6 : ((en.length : Int) != 0) = false := by rw [f6]; rfl
  have F5 := Lib.hid f5
  clear hR2 f1 f2 f5 f6
  have HX := Lib.hid (box_node w (.int .i64 1) (.int .i64 l) (.int .i64 z) (.slice A sq.length c) (.slice B en.length d) 32)
  go_enter Tryd.func35, Tryd.ntmps35
  go_wp2_with fail
  generalize w.alloc _ = W at HX HBA ⊢
  have hz : W.cell? ⟨w.heap.size, 2, none⟩ = some (.int .i64 z) := by have := HX.out; simp [World.cell?, this]
  go_loopw [3, 4, 85] (fun _ _ v85 wr => ∃ jx : Nat, jx ≤ sq.length ∧ v85 = .int .i64 jx ∧ Hid (∀ i (h : i < sq.length), i < jx → maySq z i sq[i] = true) ∧ wr = W) (fun _ _ v85 _ => sq.length - (RowKit.intOf v85).toNat)
  case atStart => exact ⟨0, Nat.zero_le _, rfl, Lib.hid fun i _ h => absurd h (Nat.not_lt_zero i), rfl⟩
  case round =>
    obtain ⟨jx, hj, rfl, HI, rfl⟩ := hrel
    by_cases hj1 : jx < sq.length
    · obtain ⟨B1, o, rfl, hBs, hc⟩ := (HH.out.below HBA.out).sq (show 0 < sq.length by omega)
      have d2 : decide ((jx : Int) < (sq.length : Int)) = true := decide_eq_true (by omega)
      have k0 := hc jx hj1
      dsimp only at k0
      obtain ⟨s, hs⟩ : ∃ s, sq[jx] = s := ⟨_, rfl⟩
      rw [hs] at k0
      have HS := Lib.hid hs
      clear hc hs
      have hj5 : jx < 5 := by have := F5.out; omega
      by_cases g1 : s < 0
      · have b1 : decide (s < 0) = true := decide_eq_true g1
        have HF : Hid (R = false) := Lib.hid (by rw [← HR.out]; exact maySqs_one hj1 (by rw [HS.out]; cases e : maySq z jx s with | false => rfl | true => exact absurd (maySq_at e).1 (by omega)))
        clear g1
        go_wp2_with fail
        go_ret
        exact ⟨by rw [HF.out]; rfl, HBA.out⟩
      · have b1 : decide (s < 0) = false := decide_eq_false g1
        by_cases g2 : 1099511627776 < s
        · have b2 : decide (1099511627776 < s) = true := decide_eq_true g2
          have HF : Hid (R = false) := Lib.hid (by rw [← HR.out]; exact maySqs_one hj1 (by rw [HS.out]; cases e : maySq z jx s with | false => rfl | true => exact absurd (maySq_at e).2.1 (by omega)))
          clear g1 g2
          go_wp2_with fail
          go_ret
          exact ⟨by rw [HF.out]; rfl, HBA.out⟩
        · have b2 : decide (1099511627776 < s) = false := decide_eq_false g2
          have hw : IntKind.i64.wrap ((jx : Int) * 16) = (jx : Int) * 16 := i64w_idE _ (by omega)
          by_cases g3 : s = 0
          · subst g3
            clear b1 b2 g1 g2
            go_wp2_with fail
            go_roundw
            case rel =>
              refine ⟨jx + 1, by omega, by go_num, Lib.hid fun i h hi => ?_, by trivial⟩
              by_cases e : i = jx
              · subst e; rw [HS.out]; exact maySq_mk (by omega) (by omega) (fun e => absurd rfl e)
              · exact HI.out i h (by omega)
            case measure => simp [RowKit.intOf]; omega
          · have b3 : (s != 0) = true := by simpa using g3
            by_cases g4 : (jx : Int) * 16 < z
            · have b4 : decide (z ≤ (jx : Int) * 16) = false := decide_eq_false (by omega)
              have G := Lib.hid (And.intro g1 (And.intro g2 g4))
              clear g1 g2 g3 g4
              go_wp2_with fail
              go_roundw
              case rel =>
                refine ⟨jx + 1, by omega, by go_num, Lib.hid fun i h hi => ?_, by trivial⟩
                by_cases e : i = jx
                · subst e; rw [HS.out]; have g := G.out; exact maySq_mk (by omega) (by omega) (fun _ => g.2.2)
                · exact HI.out i h (by omega)
              case measure => simp [RowKit.intOf]; omega
            · have b4 : decide (z ≤ (jx : Int) * 16) = true := decide_eq_true (by omega)
              have HF : Hid (R = false) := Lib.hid (by rw [← HR.out]; exact maySqs_one hj1 (by rw [HS.out]; cases e : maySq z jx s with | false => rfl | true => exact absurd ((maySq_at e).2.2 g3) (by omega)))
              clear g1 g2 g3 g4
              go_wp2_with fail
              go_ret
              exact ⟨by rw [HF.out]; rfl, HBA.out⟩
    · have d2 : decide ((jx : Int) < (sq.length : Int)) = false := decide_eq_false (by omega)
      have HF : Hid (R = true) := Lib.hid (by rw [← HR.out]; exact maySqs_all fun i h => HI.out i h (by omega))
      go_wp2_with fail
      go_ret
      exact ⟨by rw [HF.out]; rfl, HBA.out⟩
end Go.Proofs.YtfboilbmehcgoaaDoor

/- The reference's SameNode, EmptyNode, Pages. -/
namespace Go.Proofs.YtfboilbmehcgoaaDoor
open Go.RowKit Go.Lib

theorem node_cell (w : World) (cs : Array Value) (t : TypeId) (k : Nat) (hk : k < cs.size) : (w.alloc (.cells cs t)).cell? ⟨w.heap.size, k, none⟩ = some cs[k] := by
  have hn := heap_alloc_new w (.cells cs t)
  generalize w.alloc _ = W at hn ⊢
  simp [World.cell?, hn, hk]
set_option maxRecDepth 100000 in
set_option maxHeartbeats 4000000 in
theorem samenr_any (n m : Nd) (A B A' B' : Option Addr) (c d c' d' : Nat) (w : World) (h : NLies w n A B c d) (h' : NLies w m A' B' c' d') : Calls Tryd.prog 30 #[ndV n A B c d, ndV m A' B' c' d'] w fun x w' => x = .returned (.bool (sameN n m)) ∧ Below w.heap.size w w' := by
  rw [sameN_eq]
  have HN := Lib.hid h
  have HM := Lib.hid h'
  clear h h'
  obtain ⟨k, l, z, sq, en⟩ := n
  obtain ⟨k', l', z', sq', en'⟩ := m
  dsimp only
  have HBA := Lib.hid (((Below.refl w.heap.size w).alloc (Nat.le_refl _) (.cells #[.int .i64 k, .int .i64 l, .int .i64 z, .slice A sq.length c, .slice B en.length d] 32)).alloc (by simp) (.cells #[.int .i64 k', .int .i64 l', .int .i64 z', .slice A' sq'.length c', .slice B' en'.length d'] 32))
  have HQ : Hid (∀ w1, Below ((w.alloc (.cells #[.int .i64 k, .int .i64 l, .int .i64 z, .slice A sq.length c, .slice B en.length d] 32)).alloc (.cells #[.int .i64 k', .int .i64 l', .int .i64 z', .slice A' sq'.length c', .slice B' en'.length d'] 32)).heap.size ((w.alloc (.cells #[.int .i64 k, .int .i64 l, .int .i64 z, .slice A sq.length c, .slice B en.length d] 32)).alloc (.cells #[.int .i64 k', .int .i64 l', .int .i64 z', .slice A' sq'.length c', .slice B' en'.length d'] 32)) w1 → w1.cell? ⟨w.heap.size, 4, none⟩ = some (.slice B en.length d) ∧ w1.cell? ⟨w.heap.size + 1, 4, none⟩ = some (.slice B' en'.length d')) := Lib.hid fun w1 hb => by
    have e1 := node_cell w (#[.int .i64 k, .int .i64 l, .int .i64 z, .slice A sq.length c, .slice B en.length d]) 32 4 (by simp)
    have b2 := (Below.refl (w.alloc (.cells #[.int .i64 k, .int .i64 l, .int .i64 z, .slice A sq.length c, .slice B en.length d] 32)).heap.size (w.alloc (.cells #[.int .i64 k, .int .i64 l, .int .i64 z, .slice A sq.length c, .slice B en.length d] 32))).alloc (Nat.le_refl _) (.cells #[.int .i64 k', .int .i64 l', .int .i64 z', .slice A' sq'.length c', .slice B' en'.length d'] 32)
    have e1' := (b2.cell (p := ⟨w.heap.size, 4, none⟩) (by simp)).trans e1
    have e2 := node_cell (w.alloc (.cells #[.int .i64 k, .int .i64 l, .int .i64 z, .slice A sq.length c, .slice B en.length d] 32)) (#[.int .i64 k', .int .i64 l', .int .i64 z', .slice A' sq'.length c', .slice B' en'.length d']) 32 4 (by simp)
    have hs : (w.alloc (.cells #[.int .i64 k, .int .i64 l, .int .i64 z, .slice A sq.length c, .slice B en.length d] 32)).heap.size = w.heap.size + 1 := by simp
    rw [hs] at e2
    exact ⟨(hb.cell (p := ⟨w.heap.size, 4, none⟩) (by simp; omega)).trans e1', (hb.cell (p := ⟨w.heap.size + 1, 4, none⟩) (by simp)).trans e2⟩
  have a1 : (k == k') = decide (k = k') := rfl
  have a2 : (l == l') = decide (l = l') := rfl
  have a3 : (z == z') = decide (z = z') := rfl
  have HC1 := Lib.hid (fun w1 (hb : Below w.heap.size w w1) => ints_any A A' c c' sq sq' w1 (HN.out.below hb).sq (HM.out.below hb).sq HN.out.sm HM.out.sm)
  have HC2 := Lib.hid (fun w1 (hb : Below w.heap.size w w1) => same_any B B' d d' en en' w1 (HN.out.below hb).en (HM.out.below hb).en HN.out.em HM.out.em)
  generalize decide (sq = sq') = x4 at HC1 ⊢
  generalize decide (en = en') = x5 at HC2 ⊢
  generalize decide (k = k') = x1 at a1 ⊢
  generalize decide (l = l') = x2 at a2 ⊢
  generalize decide (z = z') = x3 at a3 ⊢
  cases x1 <;> cases x2 <;> cases x3 <;> cases x4
  all_goals
    go_enter Tryd.func30, Tryd.ntmps30
    go_wp2_with (first
      | (go_at_call 50; refine (HC1.out _ HBA.out).mono ?_; rintro e w1 ⟨rfl, hb1⟩; have HB1 := Lib.hid (HBA.out.trans (hb1.mono HBA.out.size)); obtain ⟨q4, q5⟩ := HQ.out _ hb1; clear hb1)
      | (go_at_call 51; refine (HC2.out _ HB1.out).mono ?_; rintro e w2 ⟨rfl, hb2⟩; have HB2 := Lib.hid (HB1.out.trans (hb2.mono HB1.out.size)); clear hb2))
    go_ret
    first
      | exact ⟨rfl, HBA.out⟩
      | exact ⟨by simp, HB1.out⟩
      | exact ⟨by simp, HB2.out⟩
end Go.Proofs.YtfboilbmehcgoaaDoor

/- The reference's NodeRefs, EmptyNode. -/
namespace Go.Proofs.YtfboilbmehcgoaaDoor
open Go.RowKit Go.Lib

/-- What a call that tells refs answers. -/
def RPost (w : World) (L : List P2) (e : Ending) (w' : World) : Prop :=
  ∃ A c, e = .returned (.slice A L.length c) ∧ RLies w' A L ∧ (∀ ad, A = some ad → w.heap.size ≤ ad.block) ∧ (A = none → c = 0) ∧ L.length ≤ c ∧ Below w.heap.size w w'
theorem RPost.nil {w w' : World} {L : List P2} (hL : L = []) (hb : Below w.heap.size w w') : RPost w L (.returned (.slice none 0 0)) w' := by
  subst hL
  exact ⟨none, 0, rfl, .nil _ _, fun _ e => (by cases e), fun _ => rfl, Nat.le_refl _, hb⟩
theorem made_ints5 : madeCells #[Value.int .i64 0] 5 = #[.int .i64 0, .int .i64 0, .int .i64 0, .int .i64 0, .int .i64 0] := by
  apply Array.ext
  · simp [madeCells]
  · intro i h1 h2
    rcases (by simp at h2; omega : i = 0 ∨ i = 1 ∨ i = 2 ∨ i = 3 ∨ i = 4) with rfl | rfl | rfl | rfl | rfl <;> simp [madeCells]
/-- What a call that tells a node of a kind answers. -/
def EmptyPost (w : World) (k : Int) (e : Ending) (w' : World) : Prop :=
  ∃ A c, e = .returned (ndV (emptyN k) A none c 0) ∧ IOwn w' w.heap.size (.slice A (emptyN k).sq.length c) (emptyN k).sq ∧ Below w.heap.size w w'
theorem make_ints5 (w : World) : (Instr.makeSlice 29 (.int .i64 5) (.int .i64 5)).run Tryd.prog w = .ok (.slice (some ⟨w.heap.size, 0, none⟩) 5 5) (w.alloc (.cells (madeCells #[Value.int .i64 0] 5) 3)) :=
  run_make_row' 29 3 (.int .i64 0) 8 Tryd.underlying29 info_intI rfl .i64 .i64 5 (by omega) (by omega) w
theorem iown_five {W : World} {B g : Nat} (h : W.heap[g]? = some (.cells (madeCells #[Value.int .i64 0] 5) 3 (0, 0))) (hB : B ≤ g) : IOwn W B (.slice (some ⟨g, 0, none⟩) 5 5) [0, 0, 0, 0, 0] := by
  rw [made_ints5] at h
  exact ⟨rfl, .inr ⟨g, 5, _, rfl, hB, h, Nat.le_refl _, by unfold maxLen; omega, rfl, rfl⟩⟩
end Go.Proofs.YtfboilbmehcgoaaDoor

/- The reference's CopyNode. -/
namespace Go.Proofs.YtfboilbmehcgoaaDoor
open Go.RowKit Go.Lib

/-- What a call that copies a node answers: rows of its own. -/
def CopyPost (w : World) (n : Nd) (e : Ending) (w' : World) : Prop :=
  ∃ A B c d, e = .returned (ndV n A B c d) ∧ IOwn w' w.heap.size (.slice A n.sq.length c) n.sq ∧ EOwn w' w.heap.size (.slice B n.en.length d) n.en ∧ Below w.heap.size w w'
theorem own_base {w : World} {b b' n size : Nat} {e : TypeId} {v : Value} {xs : List Value} (h : w.ownsRow b e size v n xs) (hb : b' ≤ b) : w.ownsRow b' e size v n xs := by
  refine ⟨h.1, ?_⟩
  rcases h.2 with h0 | ⟨g, cap, cur, hv, hg, h1⟩
  · exact .inl h0
  · exact .inr ⟨g, cap, cur, hv, Nat.le_trans hb hg, h1⟩
set_option maxRecDepth 100000 in
set_option maxHeartbeats 8000000 in
theorem copyr_raw (k l z : Int) (sq : List Int) (en : List Ent) (s t : Nat) (A B : Option Addr) (c d : Nat) (w : World) (HS : Hid (sq.length = s)) (HT : Hid (en.length = t)) (h6 : s ≤ 60) (h7 : t ≤ 60)
    (HQ : Hid (ILies w A sq)) (HE : Hid (ELies w B en)) (HQN : Hid (A = none → sq = [] ∧ c = 0)) (HEN : Hid (B = none → en = [] ∧ d = 0)) :
    Calls Tryd.prog 29 #[.agg #[.int .i64 k, .int .i64 l, .int .i64 z, .slice A s c, .slice B t d]] w fun e w' =>
      ∃ A' B' c' d', e = .returned (.agg #[.int .i64 k, .int .i64 l, .int .i64 z, .slice A' s c', .slice B' t d']) ∧ IOwn w' w.heap.size (.slice A' s c') sq ∧ EOwn w' w.heap.size (.slice B' t d') en ∧ Below w.heap.size w w' := by
  obtain ⟨P, hP⟩ : ∃ P, P = w.heap.size := ⟨_, rfl⟩
  have HPw := Lib.hid hP
  go_enter Tryd.func29, Tryd.ntmps29
  go_wp2_with fail
  obtain ⟨W0, hW0⟩ : ∃ W, W = (w.alloc (.cells #[.int .i64 k, .int .i64 l, .int .i64 z, .slice A s c, .slice B t d] 32)).alloc (.cells #[.int .i64 0, .int .i64 0, .int .i64 0, .slice none 0 0, .slice none 0 0] 32) := ⟨_, rfl⟩
  rw [← hW0]
  have HX : Hid (W0.heap[P]? = some (.cells #[.int .i64 k, .int .i64 l, .int .i64 z, .slice A s c, .slice B t d] 32 (0, 0))) := Lib.hid (by rw [hW0, hP]; exact (((Below.refl _ _).alloc (Nat.le_refl _) _).block w.heap.size (by simp)).trans (heap_alloc_new _ _))
  have HY : Hid (W0.heap[P + 1]? = some (.cells #[.int .i64 0, .int .i64 0, .int .i64 0, .slice none 0 0, .slice none 0 0] 32 (0, 0))) := Lib.hid (by
    have := heap_alloc_new (w.alloc (.cells #[.int .i64 k, .int .i64 l, .int .i64 z, .slice A s c, .slice B t d] 32)) (.cells #[.int .i64 0, .int .i64 0, .int .i64 0, .slice none 0 0, .slice none 0 0] 32)
    rw [← hW0, show (w.alloc (.cells #[.int .i64 k, .int .i64 l, .int .i64 z, .slice A s c, .slice B t d] 32)).heap.size = P + 1 by rw [hP]; simp] at this
    exact this)
  have HB0 : Hid (Below w.heap.size w W0) := Lib.hid (by rw [hW0]; exact ((Below.refl _ _).alloc (Nat.le_refl _) _).alloc (by simp) _)
  have hP0 : P + 1 < W0.heap.size := by rw [hW0, hP]; simp
  clear hW0
  rw [← hP]
  have q3 : W0.cell? ⟨P, 3, none⟩ = some (.slice A s c) := by have := HX.out; simp [World.cell?, this]
  have q4 : W0.cell? ⟨P, 4, none⟩ = some (.slice B t d) := by have := HX.out; simp [World.cell?, this]
  have HX4 := Lib.hid q4
  clear hP
  go_region_law (first
    | (refine step_iapp (by rfl) (.const (.slice none 0 0)) (.tmp 4) (by rfl) W0.heap.size (.slice none 0 0) 0 [] s sq A c s (Nat.zero_add _) (by rfl) (by rfl) rfl HS.out (iown_nil _ _) (HQ.out.below HB0.out.drew) HQN.out (by omega) (by simp) ?_; intro q1 c1 w1 hown hgr; have HO1 : Hid (IOwn w1 W0.heap.size (.slice q1 s c1) sq) := Lib.hid (by simpa using hown); have HB1 : Hid (Below W0.heap.size W0 w1) := Lib.hid ((Below.refl _ _).drew.grown hgr (by simp) (by intro k e; cases e)); have hs1 := HB1.out.size; have q5 : w1.cell? ⟨P, 4, none⟩ = some (.slice B t d) := (HB1.out.cell (p := ⟨P, 4, none⟩) (by show P < _; omega)).trans HX4.out; clear hown hgr)
    | (have h9 := HO1.out; clear h9; refine step_eappT (by rfl) (.const (.slice none 0 0)) (.tmp 7) (by rfl) W0.heap.size (.slice none 0 0) 0 [] t en B d t (Nat.zero_add _) (by rfl) (by rfl) rfl HT.out (eown_nil _ _) (HE.out.below (HB0.out.trans (HB1.out.mono HB0.out.size))) HEN.out (by omega) hs1 ?_; intro q2 c2 w2 hown hgr; have HO2 : Hid (EOwn w2 W0.heap.size (.slice q2 t c2) en) := Lib.hid (by simpa using hown); have HB2 : Hid (Below W0.heap.size W0 w2) := Lib.hid (HB1.out.grown hgr hs1 (by intro k e; cases e)); have HO3 : Hid (IOwn w2 W0.heap.size (.slice q1 s c1) sq) := Lib.hid (own_keep HO1.out fun g e => hgr.block g (HO1.out.lt g e).2 (by intro e; cases e)); have hs2 := HB2.out.size; have HX2 : Hid (w2.heap[P]? = some (.cells #[.int .i64 k, .int .i64 l, .int .i64 z, .slice A s c, .slice B t d] 32 (0, 0))) := Lib.hid ((HB2.out.block P (by omega)).trans HX.out); have f3 : w2.frozen? ⟨P, 3, none⟩ = false := (by have := HX2.out; simp [World.frozen?, this]); have f4 : w2.frozen? ⟨P, 4, none⟩ = false := (by have := HX2.out; simp [World.frozen?, this]); have e3 : w2.cell? ⟨P, 3, none⟩ = some (.slice A s c) := (by have := HX2.out; simp [World.cell?, this]); have e4 : w2.cell? ⟨P, 4, none⟩ = some (.slice B t d) := (by have := HX2.out; simp [World.cell?, this]); clear hown hgr)
    | fail)
  all_goals
    obtain ⟨w3, hw3⟩ : ∃ W, W = (w2.setCell ⟨P, 3, none⟩ (.slice q1 s c1)).setCell ⟨P, 4, none⟩ (.slice q2 t c2) := ⟨_, rfl⟩
    rw [← hw3]
    have HX3 : Hid (w3.heap[P]? = some (.cells #[.int .i64 k, .int .i64 l, .int .i64 z, .slice q1 s c1, .slice q2 t c2] 32 (0, 0))) := Lib.hid (by
      rw [hw3, heap_setCell_same _ P 4 _ _ _ (heap_setCell_same w2 P 3 _ _ _ HX2.out)]; rfl)
    have hk : ∀ b, b ≠ P → w3.heap[b]? = w2.heap[b]? := fun b hb => by rw [hw3, Below.heap_setCell _ _ _ _ hb, Below.heap_setCell _ _ _ _ hb]
    have HO4 : Hid (IOwn w3 W0.heap.size (.slice q1 s c1) sq) := Lib.hid (own_keep HO3.out fun g e => hk g (by have := (HO3.out.lt g e).1; omega))
    have HO5 : Hid (EOwn w3 W0.heap.size (.slice q2 t c2) en) := Lib.hid (own_keep HO2.out fun g e => hk g (by have := (HO2.out.lt g e).1; omega))
    have HY3 : Hid (w3.heap[P + 1]? = some (.cells #[.int .i64 0, .int .i64 0, .int .i64 0, .slice none 0 0, .slice none 0 0] 32 (0, 0))) := Lib.hid ((hk (P + 1) (by omega)).trans ((HB2.out.block (P + 1) (by omega)).trans HY.out))
    have HB3 : Hid (Below w.heap.size w w3) := Lib.hid (by
      have h1 := HB0.out.trans (HB2.out.mono HB0.out.size)
      have hsz : w3.heap.size = w2.heap.size := by rw [hw3]; simp
      exact ⟨by rw [hw3]; exact h1.os, by rw [hw3]; exact h1.tape, by rw [hw3]; exact h1.output, by rw [hsz]; exact h1.size, fun b hb => (hk b (by have := HPw.out; omega)).trans (h1.block b hb)⟩)
    clear hw3 hk e3 e4 f3 f4 q3 q4 q5
    have r0 : w3.cell? ⟨P, 0, none⟩ = some (.int .i64 k) := by have := HX3.out; simp [World.cell?, this]
    have r1 : w3.cell? ⟨P, 1, none⟩ = some (.int .i64 l) := by have := HX3.out; simp [World.cell?, this]
    have r2 : w3.cell? ⟨P, 2, none⟩ = some (.int .i64 z) := by have := HX3.out; simp [World.cell?, this]
    have r3 : w3.cell? ⟨P, 3, none⟩ = some (.slice q1 s c1) := by have := HX3.out; simp [World.cell?, this]
    have r4 : w3.cell? ⟨P, 4, none⟩ = some (.slice q2 t c2) := by have := HX3.out; simp [World.cell?, this]
    have y0 : w3.cell? ⟨P + 1, 0, none⟩ = some (.int .i64 0) := by have := HY3.out; simp [World.cell?, this]
    have z0 : w3.frozen? ⟨P + 1, 0, none⟩ = false := by have := HY3.out; simp [World.frozen?, this]
    have y1 : w3.cell? ⟨P + 1, 1, none⟩ = some (.int .i64 0) := by have := HY3.out; simp [World.cell?, this]
    have z1 : w3.frozen? ⟨P + 1, 1, none⟩ = false := by have := HY3.out; simp [World.frozen?, this]
    have y2 : w3.cell? ⟨P + 1, 2, none⟩ = some (.int .i64 0) := by have := HY3.out; simp [World.cell?, this]
    have z2 : w3.frozen? ⟨P + 1, 2, none⟩ = false := by have := HY3.out; simp [World.frozen?, this]
    have y3 : w3.cell? ⟨P + 1, 3, none⟩ = some (.slice none 0 0) := by have := HY3.out; simp [World.cell?, this]
    have z3 : w3.frozen? ⟨P + 1, 3, none⟩ = false := by have := HY3.out; simp [World.frozen?, this]
    have y4 : w3.cell? ⟨P + 1, 4, none⟩ = some (.slice none 0 0) := by have := HY3.out; simp [World.cell?, this]
    have z4 : w3.frozen? ⟨P + 1, 4, none⟩ = false := by have := HY3.out; simp [World.frozen?, this]
    go_wp2_with fail
    obtain ⟨w4, hw4⟩ : ∃ W, W = ((((w3.setCell ⟨P + 1, 0, none⟩ (.int .i64 k)).setCell ⟨P + 1, 1, none⟩ (.int .i64 l)).setCell ⟨P + 1, 2, none⟩ (.int .i64 z)).setCell ⟨P + 1, 3, none⟩ (.slice q1 s c1)).setCell ⟨P + 1, 4, none⟩ (.slice q2 t c2) := ⟨_, rfl⟩
    rw [← hw4]
    have hz : w4.heap[P + 1]? = some (.cells #[.int .i64 k, .int .i64 l, .int .i64 z, .slice q1 s c1, .slice q2 t c2] 32 (0, 0)) := by
      rw [hw4, heap_setCell_same _ (P + 1) 4 _ _ _ (heap_setCell_same _ (P + 1) 3 _ _ _ (heap_setCell_same _ (P + 1) 2 _ _ _ (heap_setCell_same _ (P + 1) 1 _ _ _ (heap_setCell_same _ (P + 1) 0 _ _ _ HY3.out))))]; rfl
    have hk : ∀ b, b ≠ P + 1 → w4.heap[b]? = w3.heap[b]? := fun b hb => by rw [hw4, Below.heap_setCell _ _ _ _ hb, Below.heap_setCell _ _ _ _ hb, Below.heap_setCell _ _ _ _ hb, Below.heap_setCell _ _ _ _ hb, Below.heap_setCell _ _ _ _ hb]
    have hB4 : Below w.heap.size w w4 := by
      have hp : w.heap.size ≤ P + 1 := by have := HPw.out; omega
      rw [hw4]
      exact ((((HB3.out.setCell hp _).setCell hp _).setCell hp _).setCell hp _).setCell hp _
    clear hw4
    refine bodyPost_ret (results_cell_row rfl _ _ (P + 1) _ _ _ _ rfl hz Tryd.underlying32 rfl (by kernel_rfl)) rfl ?_
    exact ⟨q1, q2, c1, c2, rfl, own_base (own_keep HO4.out fun g e => hk g (by have := (HO4.out.lt g e).1; omega)) HB0.out.size, own_base (own_keep HO5.out fun g e => hk g (by have := (HO5.out.lt g e).1; omega)) HB0.out.size, hB4⟩
theorem copyr_any (n : Nd) (A B : Option Addr) (c d : Nat) (w : World) (h : NLies w n A B c d) (h6 : n.sq.length ≤ 60) (h7 : n.en.length ≤ 60) : Calls Tryd.prog 29 #[ndV n A B c d] w (CopyPost w n) :=
  (copyr_raw n.k n.l n.z n.sq n.en _ _ A B c d w (Lib.hid rfl) (Lib.hid rfl) h6 h7 (Lib.hid h.sq) (Lib.hid h.en) (Lib.hid h.sn) (Lib.hid h.nn)).mono fun _ _ ⟨A', B', c', d', h1, h2, h3, h4⟩ => ⟨A', B', c', d', h1, h2, h3, h4⟩
end Go.Proofs.YtfboilbmehcgoaaDoor

/- Boxes that nodes lie in, owned rows, light nodes, a copy's rows, a node stored into a box (written by mkbx.py). -/
namespace Go.Proofs.YtfboilbmehcgoaaDoor
open Go.RowKit Go.Lib

theorem nlies_own {w : World} {base base' : Nat} {n : Nd} {A B : Option Addr} {c d : Nat} (hI : IOwn w base (.slice A n.sq.length c) n.sq) (hE : EOwn w base' (.slice B n.en.length d) n.en) (hs : n.sq.length ≤ maxLen) (he : n.en.length ≤ maxLen) : NLies w n A B c d := by
  obtain ⟨i1, -, -, i4, i5⟩ := hI.lies
  obtain ⟨e1, -, -, e4⟩ := hE.lies
  refine ⟨i1, e1, fun h => ?_, fun h => ?_, i4, e4, hs, he⟩
  · have := i5 h
    exact ⟨List.eq_nil_of_length_eq_zero (by omega), this⟩
  · have := own_none hE h
    exact ⟨List.eq_nil_of_length_eq_zero (by omega), this⟩
theorem IOwn.set {w : World} {base g n c : Nat} {l : List Int} (h : IOwn w base (.slice (some ⟨g, 0, none⟩) n c) l) (j : Nat) (x : Int) : IOwn (w.setCell ⟨g, j, none⟩ (.int .i64 x)) base (.slice (some ⟨g, 0, none⟩) n c) (l.set j x) := by
  obtain rfl := h.lies.2.1
  have := (World.ownsRow.stored h j (.int .i64 x)).1
  unfold IOwn icells
  rw [List.length_set, List.map_set]
  exact this
theorem IOwn.at {w : World} {base g n c : Nat} {l : List Int} (h : IOwn w base (.slice (some ⟨g, 0, none⟩) n c) l) (j : Nat) (hj : j < l.length) : w.cell? ⟨g, j, none⟩ = some (.int .i64 l[j]) ∧ w.frozen? ⟨g, j, none⟩ = false := by
  obtain rfl := h.lies.2.1
  obtain ⟨B, o, e, -, hc⟩ := h.lies.1 (by omega)
  simp at e
  obtain ⟨rfl, rfl⟩ := e
  exact ⟨by have := hc j hj; rwa [Nat.zero_add] at this, World.ownsRow.frozenAt h j⟩
/-- A box that a node lies in. -/
abbrev BoxAt (w : World) (p : Nat) (k l z : Int) (S T : Value) : Prop := w.heap[p]? = some (.cells #[.int .i64 k, .int .i64 l, .int .i64 z, S, T] 32 (0, 0))
theorem BoxAt.cells {w : World} {p : Nat} {k l z : Int} {S T : Value} (h : BoxAt w p k l z S T) : w.cell? ⟨p, 0, none⟩ = some (.int .i64 k) ∧ w.cell? ⟨p, 1, none⟩ = some (.int .i64 l) ∧ w.cell? ⟨p, 2, none⟩ = some (.int .i64 z) ∧ w.cell? ⟨p, 3, none⟩ = some S ∧ w.cell? ⟨p, 4, none⟩ = some T := by
  unfold BoxAt at h
  exact ⟨by simp [World.cell?, h], by simp [World.cell?, h], by simp [World.cell?, h], by simp [World.cell?, h], by simp [World.cell?, h]⟩
theorem BoxAt.frozen {w : World} {p : Nat} {k l z : Int} {S T : Value} (h : BoxAt w p k l z S T) (j : Nat) : w.frozen? ⟨p, j, none⟩ = false := by
  unfold BoxAt at h
  simp [World.frozen?, h]
theorem BoxAt.below {w w' : World} {p B : Nat} {k l z : Int} {S T : Value} (h : BoxAt w p k l z S T) (hb : Below B w w') (hp : p < B) : BoxAt w' p k l z S T := (hb.block p hp).trans h
theorem BoxAt.set1 {w : World} {p : Nat} {k l z : Int} {S T : Value} (h : BoxAt w p k l z S T) (x : Int) : BoxAt (w.setCell ⟨p, 1, none⟩ (.int .i64 x)) p k x z S T := by
  unfold BoxAt; rw [heap_setCell_same _ p 1 _ _ _ h]; rfl
theorem BoxAt.set2 {w : World} {p : Nat} {k l z : Int} {S T : Value} (h : BoxAt w p k l z S T) (x : Int) : BoxAt (w.setCell ⟨p, 2, none⟩ (.int .i64 x)) p k l x S T := by
  unfold BoxAt; rw [heap_setCell_same _ p 2 _ _ _ h]; rfl
theorem BoxAt.set3 {w : World} {p : Nat} {k l z : Int} {S T : Value} (h : BoxAt w p k l z S T) (x : Value) : BoxAt (w.setCell ⟨p, 3, none⟩ x) p k l z x T := by
  unfold BoxAt; rw [heap_setCell_same _ p 3 _ _ _ h]; rfl
theorem BoxAt.set4 {w : World} {p : Nat} {k l z : Int} {S T : Value} (h : BoxAt w p k l z S T) (x : Value) : BoxAt (w.setCell ⟨p, 4, none⟩ x) p k l z S x := by
  unfold BoxAt; rw [heap_setCell_same _ p 4 _ _ _ h]; rfl
theorem BoxAt.other {w : World} {p q j : Nat} {v : Value} {k l z : Int} {S T : Value} (h : BoxAt w p k l z S T) (hq : p ≠ q) : BoxAt (w.setCell ⟨q, j, none⟩ v) p k l z S T := (Below.heap_setCell _ _ _ _ hq).trans h
theorem BoxAt.set0 {w : World} {p : Nat} {k l z : Int} {S T : Value} (h : BoxAt w p k l z S T) (x : Int) : BoxAt (w.setCell ⟨p, 0, none⟩ (.int .i64 x)) p x l z S T := by
  unfold BoxAt; rw [heap_setCell_same _ p 0 _ _ _ h]; rfl
set_option maxRecDepth 100000 in
set_option maxHeartbeats 1000000 in
theorem wpList_store_box {ops : Array Oper} {Q : Exit → Act → World → Prop} {rest : List Oper} {o : Oper} {a : Act} {w : World} (i j : Nat) (p : Nat) {k0 l0 z0 k l z : Int} {S0 T0 : Value} {A B : Option Addr} {m n c d : Nat} (hgd : o.guard = none) (ho : o.op = .store 32 (.tmp i) (.tmp j)) (hds : o.dst = none)
    (hi : a.eval (.tmp i) = .pointer (some ⟨p, 0, none⟩)) (hj : a.eval (.tmp j) = .agg #[.int .i64 k, .int .i64 l, .int .i64 z, .slice A m c, .slice B n d]) (hb : BoxAt w p k0 l0 z0 S0 T0)
    (h : ∀ w', BoxAt w' p k l z (.slice A m c) (.slice B n d) → (∀ b, b ≠ p → w'.heap[b]? = w.heap[b]?) → w'.heap.size = w.heap.size → w'.os = w.os → w'.tape = w.tape → w'.output = w.output → wpList Tryd.prog ops Q rest a w') : wpList Tryd.prog ops Q (o :: rest) a w := by
  refine wpList_plain hgd fun _ hK => ?_
  unfold Oper.wp execOp
  simp only [ho, hi, hj]
  have fr := hb.frozen
  obtain ⟨c0, c1, c2, c3, c4⟩ := hb.cells
  simp [go_sem, c0, c1, c2, c3, c4, fr 0, fr 1, fr 2, fr 3, fr 4]
  have hx := (((((hb.set0 k).set1 l).set2 z).set3 (.slice A m c)).set4 (.slice B n d))
  obtain ⟨W, hW⟩ : ∃ W, W = ((((w.setCell ⟨p, 0, none⟩ (.int .i64 k)).setCell ⟨p, 1, none⟩ (.int .i64 l)).setCell ⟨p, 2, none⟩ (.int .i64 z)).setCell ⟨p, 3, none⟩ (.slice A m c)).setCell ⟨p, 4, none⟩ (.slice B n d) := ⟨_, rfl⟩
  rw [← hW] at hx
  have := h W hx (fun b hb => by rw [hW, Below.heap_setCell _ _ _ _ hb, Below.heap_setCell _ _ _ _ hb, Below.heap_setCell _ _ _ _ hb, Below.heap_setCell _ _ _ _ hb, Below.heap_setCell _ _ _ _ hb]) (by rw [hW]; simp) (by rw [hW]; rfl) (by rw [hW]; rfl) (by rw [hW]; rfl)
  rw [← hW, hds]
  exact hK _ _ this
theorem lightN_cases (n : Nd) : (lightN n = 0 ∧ n.sq.length ≤ 60 ∧ n.en.length ≤ 60) ∨ lightN n = 1 := by
  unfold lightN
  split
  · exact .inr rfl
  · next h =>
    rcases lightV_cases n.en with ⟨h1, h2⟩ | h1
    · exact .inl ⟨h1, by omega, h2⟩
    · exact .inr h1
set_option maxRecDepth 100000 in
theorem bool_same (V : Bool) (w : World) : (binOp .eql 4 (.bool V) (.bool V)).run Tryd.prog w = .ok (.bool true) w := by cases V <;> rfl
theorem emptyN_en (k : Int) : (emptyN k).en = [] := by
  unfold emptyN
  split
  · rfl
  · split <;> rfl
theorem emptyN_len (k : Int) : (emptyN k).sq.length ≤ 5 := by
  unfold emptyN
  split
  · simp
  · split <;> simp
/-- Two nodes as arguments, in two boxes. -/
abbrev two (w : World) (u v : Obj) : World := (w.alloc u).alloc v
theorem two_boxes (w : World) (k l z k' l' z' : Int) (S T S' T' : Value) : BoxAt (two w (.cells #[.int .i64 k, .int .i64 l, .int .i64 z, S, T] 32) (.cells #[.int .i64 k', .int .i64 l', .int .i64 z', S', T'] 32)) w.heap.size k l z S T ∧ BoxAt (two w (.cells #[.int .i64 k, .int .i64 l, .int .i64 z, S, T] 32) (.cells #[.int .i64 k', .int .i64 l', .int .i64 z', S', T'] 32)) (w.heap.size + 1) k' l' z' S' T' := by
  constructor
  · exact (((Below.refl _ _).alloc (Nat.le_refl _) _).block w.heap.size (by simp)).trans (heap_alloc_new _ _)
  · have := heap_alloc_new (w.alloc (.cells #[.int .i64 k, .int .i64 l, .int .i64 z, S, T] 32)) (.cells #[.int .i64 k', .int .i64 l', .int .i64 z', S', T'] 32)
    rw [show (w.alloc (.cells #[.int .i64 k, .int .i64 l, .int .i64 z, S, T] 32)).heap.size = w.heap.size + 1 by simp] at this
    exact this
/-- What a copy's rows are: of the call's own. -/
structure CopyRes (w0 w : World) (sq : List Int) (en : List Ent) (A B : Option Addr) (c d : Nat) : Prop where
  i : IOwn w w0.heap.size (.slice A sq.length c) sq
  e : EOwn w w0.heap.size (.slice B en.length d) en
theorem CopyRes.below {w0 w w' : World} {sq : List Int} {en : List Ent} {A B : Option Addr} {c d : Nat} (h : CopyRes w0 w sq en A B c d) (hb : Below w.heap.size w w') : CopyRes w0 w' sq en A B c d :=
  ⟨own_keep h.i fun g e => hb.block g (h.i.lt g e).2, own_keep h.e fun g e => hb.block g (h.e.lt g e).2⟩
theorem CopyRes.keep {w0 w w' : World} {sq : List Int} {en : List Ent} {A B : Option Addr} {c d : Nat} (h : CopyRes w0 w sq en A B c d) (hi : ∀ g, (Value.slice A sq.length c).ownBlock = some g → w'.heap[g]? = w.heap[g]?) (he : ∀ g, (Value.slice B en.length d).ownBlock = some g → w'.heap[g]? = w.heap[g]?) : CopyRes w0 w' sq en A B c d :=
  ⟨own_keep h.i hi, own_keep h.e he⟩
theorem CopyRes.nlies {w0 w : World} {k l z : Int} {sq : List Int} {en : List Ent} {A B : Option Addr} {c d : Nat} (h : CopyRes w0 w sq en A B c d) (hs : sq.length ≤ 60) (ht : en.length ≤ 60) : NLies w ⟨k, l, z, sq, en⟩ A B c d :=
  nlies_own (n := ⟨k, l, z, sq, en⟩) h.i h.e (by unfold maxLen; dsimp only; omega) (by unfold maxLen; dsimp only; omega)
theorem vblks_node {b : Nat} {k l z : Int} {S T : Value} : b ∈ vblks (.agg #[.int .i64 k, .int .i64 l, .int .i64 z, S, T]) ↔ S.ownBlock = some b ∨ T.ownBlock = some b := by
  have e1 : (Value.int .i64 k).ownBlock = none := rfl
  have e2 : (Value.int .i64 l).ownBlock = none := rfl
  have e3 : (Value.int .i64 z).ownBlock = none := rfl
  simp [vblks, List.filterMap_cons, e1, e2, e3]
  cases S.ownBlock <;> cases T.ownBlock <;> simp [eq_comm]
theorem own_copy {w : World} {base : Nat} {k l z : Int} {sq : List Int} {en : List Ent} {S T : Value} (h1 : IOwn w base S sq) (h2 : EOwn w base T en) : ∀ b ∈ vblks (.agg #[.int .i64 k, .int .i64 l, .int .i64 z, S, T]), base ≤ b ∧ b < w.heap.size := fun b hb => by
  rcases vblks_node.1 hb with h | h
  · exact h1.lt b h
  · exact h2.lt b h
theorem vblks_ptr {b p : Nat} : b ∈ vblks (.pointer (some ⟨p, 0, none⟩)) ↔ b = p := by simp [vblks]
abbrev zeroN : Array Value := #[.int .i64 0, .int .i64 0, .int .i64 0, .slice none 0 0, .slice none 0 0]
theorem NewBox.box {w0 w : World} {p : Nat} (h : NewBox w0 w p zeroN 32) : BoxAt w p 0 0 0 (.slice none 0 0) (.slice none 0 0) := h.at_
theorem row_slot {w : World} {base size n cap g : Nat} {e : TypeId} {xs : List Value} (h : w.ownsRow base e size (.slice (some ⟨g, 0, none⟩) n cap) n xs) (j : Nat) (hj : j < n * size) : (∃ v, w.cell? ⟨g, j, none⟩ = some v) ∧ w.frozen? ⟨g, j, none⟩ = false := by
  refine ⟨?_, World.ownsRow.frozenAt h j⟩
  rcases h.2 with ⟨h', _⟩ | ⟨g', cap', cur, h', _, hg, hnc, _, hcs, _⟩
  · simp at h'
  · simp only [Value.slice.injEq, Option.some.injEq, Addr.mk.injEq, and_true, true_and] at h'
    obtain ⟨rfl, rfl⟩ := h'
    have hlt : j < cur.size := by
      rw [hcs]
      exact Nat.lt_of_lt_of_le hj (Nat.mul_le_mul_right size hnc)
    exact ⟨cur[j], by simp [World.cell?, hg, hlt]⟩
theorem row_where {w : World} {base size n cap : Nat} {e : TypeId} {A : Option Addr} {xs : List Value} (h : w.ownsRow base e size (.slice A n cap) n xs) (hn : 0 < n) : ∃ g, A = some ⟨g, 0, none⟩ := by
  rcases h.2 with ⟨h', h0⟩ | ⟨g', cap', cur, h', _⟩
  · omega
  · simp at h'
    exact ⟨g', h'.1⟩
theorem row_at {w : World} {base size n cap : Nat} {e : TypeId} {A : Option Addr} {xs : List Value} (h : w.ownsRow base e size (.slice A n cap) n xs) (hn : 0 < n) : ∃ g, A = some ⟨g, 0, none⟩ ∧ (Value.slice A n cap).ownBlock = some g ∧ ∀ j, j < n * size → (∃ v, w.cell? ⟨g, j, none⟩ = some v) ∧ w.frozen? ⟨g, j, none⟩ = false := by
  obtain ⟨g, rfl⟩ := row_where h hn
  exact ⟨g, rfl, rfl, fun j hj => row_slot h j hj⟩
theorem row_apart {w : World} {b1 b2 s1 s2 n1 n2 g : Nat} {e1 e2 : TypeId} {v1 v2 : Value} {xs ys : List Value} (h1 : w.ownsRow b1 e1 s1 v1 n1 xs) (h2 : w.ownsRow b2 e2 s2 v2 n2 ys) (hne : e1 ≠ e2) (hg : v1.ownBlock = some g) : v2.ownBlock ≠ some g := fun hg2 => by
  rcases h1.2 with ⟨rfl, _⟩ | ⟨g1, c1, u1, rfl, _, k1, _⟩
  · cases hg
  rcases h2.2 with ⟨rfl, _⟩ | ⟨g2, c2, u2, rfl, _, k2, _⟩
  · cases hg2
  cases hg
  cases hg2
  rw [k1] at k2
  simp at k2
  exact hne k2.2
end Go.Proofs.YtfboilbmehcgoaaDoor

/- slices.Equal, slices.Clone of ints and of entries (written by mkeq.py). -/
namespace Go.Proofs.YtfboilbmehcgoaaDoor
open Go.RowKit Go.Lib

set_option maxRecDepth 100000 in
set_option maxHeartbeats 2000000 in
theorem eqi_any (A1 A2 : Option Addr) (c1 c2 : Nat) (l m : List Int) (w : World) (h1 : ILies w A1 l) (h2 : ILies w A2 m) (hl : l.length ≤ maxLen) (hm : m.length ≤ maxLen) : Calls Tryd.prog 65 #[.slice A1 l.length c1, .slice A2 m.length c2] w fun x w' => x = .returned (.bool (decide (l = m))) ∧ Below w.heap.size w w' := by
  have hmx : maxLen = 9223372036854775807 := rfl
  by_cases hlm : l.length = m.length
  case neg =>
    rw [decide_eq_false (fun e => hlm (by rw [e]))]
    have d1 : ((l.length : Int) != (m.length : Int)) = true := by rw [bne_iff_ne]; omega
    go_enter Tryd.func65, Tryd.ntmps65
    go_wp2_with fail
    go_ret
    exact ⟨rfl, Below.refl _ _⟩
  have d1 : ((l.length : Int) != (m.length : Int)) = false := by rw [bne_eq_false_iff_eq]; omega
  have HLM := Lib.hid hlm
  clear hlm
  have H1 := Lib.hid h1
  have H2 := Lib.hid h2
  obtain ⟨R, hR⟩ : ∃ R, decide (l = m) = R := ⟨_, rfl⟩
  rw [hR]
  replace hR := Lib.hid hR
  clear h1 h2
  go_enter Tryd.func65, Tryd.ntmps65
  go_wp2_with fail
  go_loopw [5, 13] (fun _ v13 wr => ∃ j : Nat, j ≤ l.length ∧ v13 = .int .i64 j ∧ Hid (∀ i (h : i < l.length) (h' : i < m.length), i < j → l[i] = m[i]) ∧ Below w.heap.size w wr) (fun _ v13 _ => l.length - (RowKit.intOf v13).toNat)
  case atStart => exact ⟨0, Nat.zero_le _, rfl, Lib.hid fun i _ _ h => absurd h (Nat.not_lt_zero i), Below.refl _ _⟩
  case round =>
    obtain ⟨j, hj, rfl, HI, hB⟩ := hrel
    have HB := Lib.hid hB
    clear hB
    by_cases hj1 : j < l.length
    · have hj2 : j < m.length := by have := HLM.out; omega
      obtain ⟨B, o, rfl, hBs, hc⟩ := (H1.out.below HB.out) (by omega)
      obtain ⟨B', o', rfl, hBs', hc'⟩ := (H2.out.below HB.out) (by omega)
      have d2 : decide ((j : Int) < (l.length : Int)) = true := decide_eq_true (by omega)
      have k0 := hc j hj1
      have p0 := hc' j hj2
      obtain ⟨x, hx⟩ : ∃ x, l[j] = x := ⟨_, rfl⟩
      obtain ⟨y, hy⟩ : ∃ y, m[j] = y := ⟨_, rfl⟩
      rw [hx] at k0
      rw [hy] at p0
      have HX := Lib.hid hx
      have HY := Lib.hid hy
      clear hc hc' hx hy
      by_cases e : x = y
      · have HE := Lib.hid e
        have hne : (x != y) = false := by simp [e]
        clear e
        go_wp2_with fail
        go_quiet (fail)
        go_wp2_with fail
        go_roundw
        case rel =>
          refine ⟨j + 1, by omega, by go_num, Lib.hid fun i h h' hi => ?_, by first | exact HB.out | exact HB.out.drew | exact drewN_below HB.out _⟩
          by_cases e : i = j
          · subst e; rw [HX.out, HY.out]; exact HE.out
          · exact HI.out i h h' (by omega)
        case measure => simp [RowKit.intOf]; omega
      · have HE : Hid (R = false) := Lib.hid (by
          rw [← hR.out]
          refine decide_eq_false fun hh => e ?_
          have h3 := HX.out
          have h4 := HY.out
          subst hh
          rw [← h3, ← h4])
        have hne : (x != y) = true := by simp [e]
        clear e
        go_wp2_with fail
        go_quiet (fail)
        go_wp2_with fail
        go_ret
        exact ⟨by rw [HE.out]; rfl, by first | exact HB.out | exact HB.out.drew | exact drewN_below HB.out _⟩
    · have d2 : decide ((j : Int) < (l.length : Int)) = false := decide_eq_false (by omega)
      have HR2 : Hid (R = true) := Lib.hid (by
        rw [← hR.out]
        exact decide_eq_true (List.ext_getElem HLM.out fun i h h' => HI.out i h h' (by omega)))
      go_wp2_with fail
      go_ret
      exact ⟨by rw [HR2.out]; rfl, HB.out⟩
set_option maxRecDepth 100000 in
set_option maxHeartbeats 2000000 in
theorem eqe_any (A1 A2 : Option Addr) (c1 c2 : Nat) (l m : List Ent) (w : World) (h1 : ELies w A1 l) (h2 : ELies w A2 m) (hl : l.length ≤ maxLen) (hm : m.length ≤ maxLen) : Calls Tryd.prog 66 #[.slice A1 l.length c1, .slice A2 m.length c2] w fun x w' => x = .returned (.bool (decide (l = m))) ∧ Below w.heap.size w w' := by
  have hmx : maxLen = 9223372036854775807 := rfl
  by_cases hlm : l.length = m.length
  case neg =>
    rw [decide_eq_false (fun e => hlm (by rw [e]))]
    have d1 : ((l.length : Int) != (m.length : Int)) = true := by rw [bne_iff_ne]; omega
    go_enter Tryd.func66, Tryd.ntmps66
    go_wp2_with fail
    go_ret
    exact ⟨rfl, Below.refl _ _⟩
  have d1 : ((l.length : Int) != (m.length : Int)) = false := by rw [bne_eq_false_iff_eq]; omega
  have HLM := Lib.hid hlm
  clear hlm
  have H1 := Lib.hid h1
  have H2 := Lib.hid h2
  obtain ⟨R, hR⟩ : ∃ R, decide (l = m) = R := ⟨_, rfl⟩
  rw [hR]
  replace hR := Lib.hid hR
  clear h1 h2
  go_enter Tryd.func66, Tryd.ntmps66
  go_wp2_with fail
  go_loopw [5, 13] (fun _ v13 wr => ∃ j : Nat, j ≤ l.length ∧ v13 = .int .i64 j ∧ Hid (∀ i (h : i < l.length) (h' : i < m.length), i < j → l[i] = m[i]) ∧ Below w.heap.size w wr) (fun _ v13 _ => l.length - (RowKit.intOf v13).toNat)
  case atStart => exact ⟨0, Nat.zero_le _, rfl, Lib.hid fun i _ _ h => absurd h (Nat.not_lt_zero i), Below.refl _ _⟩
  case round =>
    obtain ⟨j, hj, rfl, HI, hB⟩ := hrel
    have HB := Lib.hid hB
    clear hB
    by_cases hj1 : j < l.length
    · have hj2 : j < m.length := by have := HLM.out; omega
      obtain ⟨B, o, rfl, hBs, hc⟩ := (H1.out.below HB.out) (by omega)
      obtain ⟨B', o', rfl, hBs', hc'⟩ := (H2.out.below HB.out) (by omega)
      have d2 : decide ((j : Int) < (l.length : Int)) = true := decide_eq_true (by omega)
      obtain ⟨k0, k1⟩ := hc j hj1
      obtain ⟨p0, p1⟩ := hc' j hj2
      obtain ⟨x, hx⟩ : ∃ x, l[j] = x := ⟨_, rfl⟩
      obtain ⟨y, hy⟩ : ∃ y, m[j] = y := ⟨_, rfl⟩
      rw [hx] at k0 k1
      rw [hy] at p0 p1
      have HX := Lib.hid hx
      have HY := Lib.hid hy
      clear hc hc' hx hy
      obtain ⟨s, n⟩ := x
      obtain ⟨t, k⟩ := y
      have hne := fun w => neq_ent w s t n k
      by_cases e : (s, n) = (t, k)
      · have HE := Lib.hid e
        rw [decide_eq_true e] at hne
        clear e
        go_wp2_with fail
        go_quiet (fail)
        go_wp2_with fail
        go_roundw
        case rel =>
          refine ⟨j + 1, by omega, by go_num, Lib.hid fun i h h' hi => ?_, by first | exact HB.out | exact HB.out.drew | exact drewN_below HB.out _⟩
          by_cases e : i = j
          · subst e; rw [HX.out, HY.out]; exact HE.out
          · exact HI.out i h h' (by omega)
        case measure => simp [RowKit.intOf]; omega
      · have HE : Hid (R = false) := Lib.hid (by
          rw [← hR.out]
          refine decide_eq_false fun hh => e ?_
          have h3 := HX.out
          have h4 := HY.out
          subst hh
          rw [← h3, ← h4])
        rw [decide_eq_false e] at hne
        clear e
        go_wp2_with fail
        go_quiet (fail)
        go_wp2_with fail
        go_ret
        exact ⟨by rw [HE.out]; rfl, by first | exact HB.out | exact HB.out.drew | exact drewN_below HB.out _⟩
    · have d2 : decide ((j : Int) < (l.length : Int)) = false := decide_eq_false (by omega)
      have HR2 : Hid (R = true) := Lib.hid (by
        rw [← hR.out]
        exact decide_eq_true (List.ext_getElem HLM.out fun i h h' => HI.out i h h' (by omega)))
      go_wp2_with fail
      go_ret
      exact ⟨by rw [HR2.out]; rfl, HB.out⟩
set_option maxRecDepth 100000 in
set_option maxHeartbeats 2000000 in
theorem clonei_any (A : Option Addr) (c : Nat) (l : List Int) (w : World) (hl : ILies w A l) (hA : A = none → l = [] ∧ c = 0) (h6 : l.length ≤ 60) : Calls Tryd.prog 48 #[.slice A l.length c] w fun e w' =>
    ∃ A' c', e = .returned (.slice A' l.length c') ∧ IOwn w' w.heap.size (.slice A' l.length c') l ∧ Below w.heap.size w w' := by
  cases A with
  | none =>
    obtain ⟨rfl, rfl⟩ := hA rfl
    have hn := fun w1 : World => Lib.run_eql_slice_nil (P := Tryd.prog) w1 29 3 none 0 0 0 0 Tryd.underlying29
    simp only [Option.isNone] at hn
    go_enter Tryd.func48, Tryd.ntmps48
    go_wp2_with fail
    go_ret
    exact ⟨none, 0, rfl, iown_nil _ _, Below.refl _ _⟩
  | some ad =>
    have HL := Lib.hid hl
    have HX := Lib.hid (heap_alloc_new w (.cells #[] 3))
    have HB := Lib.hid ((Below.refl w.heap.size w).alloc (Nat.le_refl _) (.cells #[] 3))
    have hn := fun w1 : World => Lib.run_eql_slice_nil (P := Tryd.prog) w1 29 3 (some ad) l.length c 0 0 Tryd.underlying29
    simp only [Option.isNone] at hn
    clear hl hA
    go_enter Tryd.func48, Tryd.ntmps48
    go_wp2_with (at_builtin; refine wpList_iapp rfl _ _ rfl w.heap.size (.slice (some ⟨w.heap.size, 0, none⟩) 0 0) ([] : List Int) l (some ad) c rfl rfl (iown_empty HX.out (Nat.le_refl _)) (HL.out.below HB.out) (fun e => by cases e) (by rw [List.length_nil]; omega) HB.out.size ?_; intro q cap w2 hown hg)
    simp only [List.nil_append, List.length_nil, Nat.zero_add] at hown
    have HO := Lib.hid hown
    have HB2 := Lib.hid (HB.out.grown hg HB.out.size fun k e => by cases e; exact Nat.le_refl _)
    clear hown hg
    go_ret
    exact ⟨q, cap, by first | rfl | simp, HO.out, HB2.out⟩
set_option maxRecDepth 100000 in
set_option maxHeartbeats 2000000 in
theorem clonee_any (A : Option Addr) (c : Nat) (l : List Ent) (w : World) (hl : ELies w A l) (hA : A = none → l = [] ∧ c = 0) (h6 : l.length ≤ 60) : Calls Tryd.prog 49 #[.slice A l.length c] w fun e w' =>
    ∃ A' c', e = .returned (.slice A' l.length c') ∧ EOwn w' w.heap.size (.slice A' l.length c') l ∧ Below w.heap.size w w' := by
  cases A with
  | none =>
    obtain ⟨rfl, rfl⟩ := hA rfl
    have hn := fun w1 : World => Lib.run_eql_slice_nil (P := Tryd.prog) w1 30 34 none 0 0 0 0 Tryd.underlying30
    simp only [Option.isNone] at hn
    go_enter Tryd.func49, Tryd.ntmps49
    go_wp2_with fail
    go_ret
    exact ⟨none, 0, rfl, eown_nil _ _, Below.refl _ _⟩
  | some ad =>
    have HL := Lib.hid hl
    have HX := Lib.hid (heap_alloc_new w (.cells #[] 34))
    have HB := Lib.hid ((Below.refl w.heap.size w).alloc (Nat.le_refl _) (.cells #[] 34))
    have hn := fun w1 : World => Lib.run_eql_slice_nil (P := Tryd.prog) w1 30 34 (some ad) l.length c 0 0 Tryd.underlying30
    simp only [Option.isNone] at hn
    clear hl hA
    go_enter Tryd.func49, Tryd.ntmps49
    go_wp2_with (at_builtin; refine wpList_eapp rfl _ _ rfl w.heap.size (.slice (some ⟨w.heap.size, 0, none⟩) 0 0) ([] : List Ent) l (some ad) c rfl rfl (eown_empty HX.out (Nat.le_refl _)) (HL.out.below HB.out) (fun e => by cases e) (by rw [List.length_nil]; omega) HB.out.size ?_; intro q cap w2 hown hg)
    simp only [List.nil_append, List.length_nil, Nat.zero_add] at hown
    have HO := Lib.hid hown
    have HB2 := Lib.hid (HB.out.grown hg HB.out.size fun k e => by cases e; exact Nat.le_refl _)
    clear hown hg
    go_ret
    exact ⟨q, cap, by first | rfl | simp, HO.out, HB2.out⟩
end Go.Proofs.YtfboilbmehcgoaaDoor

/- The landed Same, Empty (written by mknl.py). -/
namespace Go.Proofs.YtfboilbmehcgoaaDoor
open Go.RowKit Go.Lib

set_option maxRecDepth 100000 in
set_option maxHeartbeats 4000000 in
theorem samel_any (n m : Nd) (A B A' B' : Option Addr) (c d c' d' : Nat) (w : World) (h : NLies w n A B c d) (h' : NLies w m A' B' c' d') : Calls Tryd.prog 45 #[ndV n A B c d, ndV m A' B' c' d'] w fun x w' => x = .returned (.bool (sameN n m)) ∧ Below w.heap.size w w' := by
  rw [sameN_eq]
  have HN := Lib.hid h
  have HM := Lib.hid h'
  clear h h'
  obtain ⟨k, l, z, sq, en⟩ := n
  obtain ⟨k', l', z', sq', en'⟩ := m
  dsimp only
  have HBA := Lib.hid (((Below.refl w.heap.size w).alloc (Nat.le_refl _) (.cells #[.int .i64 k, .int .i64 l, .int .i64 z, .slice A sq.length c, .slice B en.length d] 32)).alloc (by simp) (.cells #[.int .i64 k', .int .i64 l', .int .i64 z', .slice A' sq'.length c', .slice B' en'.length d'] 32))
  have HQ : Hid (∀ w1, Below ((w.alloc (.cells #[.int .i64 k, .int .i64 l, .int .i64 z, .slice A sq.length c, .slice B en.length d] 32)).alloc (.cells #[.int .i64 k', .int .i64 l', .int .i64 z', .slice A' sq'.length c', .slice B' en'.length d'] 32)).heap.size ((w.alloc (.cells #[.int .i64 k, .int .i64 l, .int .i64 z, .slice A sq.length c, .slice B en.length d] 32)).alloc (.cells #[.int .i64 k', .int .i64 l', .int .i64 z', .slice A' sq'.length c', .slice B' en'.length d'] 32)) w1 → w1.cell? ⟨w.heap.size, 4, none⟩ = some (.slice B en.length d) ∧ w1.cell? ⟨w.heap.size + 1, 4, none⟩ = some (.slice B' en'.length d')) := Lib.hid fun w1 hb => by
    have e1 := node_cell w (#[.int .i64 k, .int .i64 l, .int .i64 z, .slice A sq.length c, .slice B en.length d]) 32 4 (by simp)
    have b2 := (Below.refl (w.alloc (.cells #[.int .i64 k, .int .i64 l, .int .i64 z, .slice A sq.length c, .slice B en.length d] 32)).heap.size (w.alloc (.cells #[.int .i64 k, .int .i64 l, .int .i64 z, .slice A sq.length c, .slice B en.length d] 32))).alloc (Nat.le_refl _) (.cells #[.int .i64 k', .int .i64 l', .int .i64 z', .slice A' sq'.length c', .slice B' en'.length d'] 32)
    have e1' := (b2.cell (p := ⟨w.heap.size, 4, none⟩) (by simp)).trans e1
    have e2 := node_cell (w.alloc (.cells #[.int .i64 k, .int .i64 l, .int .i64 z, .slice A sq.length c, .slice B en.length d] 32)) (#[.int .i64 k', .int .i64 l', .int .i64 z', .slice A' sq'.length c', .slice B' en'.length d']) 32 4 (by simp)
    have hs : (w.alloc (.cells #[.int .i64 k, .int .i64 l, .int .i64 z, .slice A sq.length c, .slice B en.length d] 32)).heap.size = w.heap.size + 1 := by simp
    rw [hs] at e2
    exact ⟨(hb.cell (p := ⟨w.heap.size, 4, none⟩) (by simp; omega)).trans e1', (hb.cell (p := ⟨w.heap.size + 1, 4, none⟩) (by simp)).trans e2⟩
  have a1 : (k == k') = decide (k = k') := rfl
  have a2 : (l == l') = decide (l = l') := rfl
  have a3 : (z == z') = decide (z = z') := rfl
  have HC1 := Lib.hid (fun w1 (hb : Below w.heap.size w w1) => eqi_any A A' c c' sq sq' w1 (HN.out.below hb).sq (HM.out.below hb).sq HN.out.sm HM.out.sm)
  have HC2 := Lib.hid (fun w1 (hb : Below w.heap.size w w1) => eqe_any B B' d d' en en' w1 (HN.out.below hb).en (HM.out.below hb).en HN.out.em HM.out.em)
  generalize decide (sq = sq') = x4 at HC1 ⊢
  generalize decide (en = en') = x5 at HC2 ⊢
  generalize decide (k = k') = x1 at a1 ⊢
  generalize decide (l = l') = x2 at a2 ⊢
  generalize decide (z = z') = x3 at a3 ⊢
  cases x1 <;> cases x2 <;> cases x3 <;> cases x4
  all_goals
    go_enter Tryd.func45, Tryd.ntmps45
    go_wp2_with (first
      | (go_at_call 65; refine (HC1.out _ HBA.out).mono ?_; rintro e w1 ⟨rfl, hb1⟩; have HB1 := Lib.hid (HBA.out.trans (hb1.mono HBA.out.size)); obtain ⟨q4, q5⟩ := HQ.out _ hb1; clear hb1)
      | (go_at_call 66; refine (HC2.out _ HB1.out).mono ?_; rintro e w2 ⟨rfl, hb2⟩; have HB2 := Lib.hid (HB1.out.trans (hb2.mono HB1.out.size)); clear hb2))
    go_ret
    first
      | exact ⟨rfl, HBA.out⟩
      | exact ⟨by simp, HB1.out⟩
      | exact ⟨by simp, HB2.out⟩
set_option maxRecDepth 100000 in
set_option maxHeartbeats 4000000 in
theorem emptyl_any (k : Int) (w : World) : Calls Tryd.prog 47 #[.int .i64 k] w (EmptyPost w k) := by
  by_cases h1 : k = 1
  · subst h1
    have hmk := fun w1 : World => make_ints5 w1
    go_enter Tryd.func47, Tryd.ntmps47
    go_wp2_with fail
    refine bodyPost_ret (results_cell_row rfl _ _ w.heap.size _ _ _ _ rfl ((((Below.refl _ _).alloc (Nat.le_refl _) _).block w.heap.size (by simp)).trans (heap_alloc_new _ _)) Tryd.underlying32 rfl (by kernel_rfl)) rfl ?_
    refine ⟨some ⟨w.heap.size + 1, 0, none⟩, 5, rfl, iown_five ?_ (by omega), ((Below.refl _ _).alloc (Nat.le_refl _) _).alloc (by simp) _⟩
    have := heap_alloc_new (w.alloc (.cells #[.int .i64 1, .int .i64 1, .int .i64 0, .slice (some ⟨w.heap.size + 1, 0, none⟩) 5 5, .slice none 0 0] 32)) (.cells (madeCells #[Value.int .i64 0] 5) 3)
    rwa [show (w.alloc (.cells #[.int .i64 1, .int .i64 1, .int .i64 0, .slice (some ⟨w.heap.size + 1, 0, none⟩) 5 5, .slice none 0 0] 32)).heap.size = w.heap.size + 1 by simp] at this
  have e1 : (k == 1) = false := by simpa using h1
  by_cases h2 : k = 2
  · subst h2
    go_enter Tryd.func47, Tryd.ntmps47
    go_wp2_with fail
    refine bodyPost_ret (results_cell_row rfl _ _ w.heap.size _ _ _ _ rfl (heap_alloc_new _ _) Tryd.underlying32 rfl (by kernel_rfl)) rfl ?_
    exact ⟨none, 0, rfl, iown_nil _ _, (Below.refl _ _).alloc (Nat.le_refl _) _⟩
  have e2 : (k == 2) = false := by simpa using h2
  have HF : Hid (emptyN k = ⟨0, 0, 0, [], []⟩) := Lib.hid (by unfold emptyN; rw [if_neg h1, if_neg h2])
  go_enter Tryd.func47, Tryd.ntmps47
  go_wp2_with fail
  refine bodyPost_ret (results_cell_row rfl _ _ w.heap.size _ _ _ _ rfl (heap_alloc_new _ _) Tryd.underlying32 rfl (by kernel_rfl)) rfl ?_
  refine ⟨none, 0, by rw [HF.out]; rfl, ?_, (Below.refl _ _).alloc (Nat.le_refl _) _⟩
  rw [HF.out]
  exact iown_nil _ _
end Go.Proofs.YtfboilbmehcgoaaDoor

/- The landed mayFile (written by mknu.py). -/
namespace Go.Proofs.YtfboilbmehcgoaaDoor
open Go.RowKit Go.Lib

theorem nwithin_any (a b c : Int) (w : World) : Calls Tryd.prog 67 #[.int .i64 a, .int .i64 b, .int .i64 c] w fun e w' => e = .returned (.bool (decide (b ≤ a ∧ a ≤ c))) ∧ w = w' := by
  go_enter Tryd.func67, Tryd.ntmps67
  go_wp2
  · have h : b ≤ a := by assumption
    go_ret
    exact ⟨ret_bool (by simp [h]), rfl⟩
  · have h : a < b := by assumption
    go_ret
    exact ⟨ret_bool (by simp; omega), rfl⟩
set_option maxRecDepth 100000 in
set_option maxHeartbeats 4000000 in
theorem mayfl_any (n : Nd) (A B : Option Addr) (c d : Nat) (w : World) (h : NLies w n A B c d) : Calls Tryd.prog 52 #[ndV n A B c d] w fun x w' => x = .returned (.bool (mayFl n)) ∧ Below w.heap.size w w' := by
  have hmx : maxLen = 9223372036854775807 := rfl
  obtain ⟨k, l, z, sq, en⟩ := n
  have hsm : sq.length ≤ maxLen := h.sm
  have hem : en.length ≤ maxLen := h.em
  have HH := Lib.hid h
  have HBA := Lib.hid ((Below.refl w.heap.size w).alloc (Nat.le_refl _) (.cells #[.int .i64 k, .int .i64 l, .int .i64 z, .slice A sq.length c, .slice B en.length d] 32))
  clear h
  obtain ⟨R, hR⟩ : ∃ R, mayFl ⟨k, l, z, sq, en⟩ = R := ⟨_, rfl⟩
  rw [hR]
  have hR2 : (decide (0 ≤ l) && (decide (l ≤ 120) && (decide (0 ≤ z) && (decide (z ≤ 80) && (decide (sq.length = 5) && (decide (en.length = 0) && maySqs z 0 sq)))))) = R := hR
  clear hR
  have hw1 := fun w1 : World => nwithin_any l 0 120 w1
  have hw2 := fun w1 : World => nwithin_any z 0 80 w1
  have a3 : ((sq.length : Int) != 5) = !decide (sq.length = 5) := by rw [Bool.eq_iff_iff]; simp; omega
  have a4 : decide ((0 : Int) < (en.length : Int)) = !decide (en.length = 0) := by
    cases h : decide (en.length = 0) with
    | true => have := of_decide_eq_true h; exact decide_eq_false (by omega)
    | false => have := of_decide_eq_false h; exact decide_eq_true (by omega)
  have a5 : decide (0 < en.length) = !decide (en.length = 0) := by
    cases h : decide (en.length = 0) with
    | true => have := of_decide_eq_true h; exact decide_eq_false (by omega)
    | false => have := of_decide_eq_false h; exact decide_eq_true (by omega)
  by_cases hf : (0 ≤ l ∧ l ≤ 120) ∧ (0 ≤ z ∧ z ≤ 80) ∧ sq.length = 5 ∧ en.length = 0
  case neg =>
    have HR : Hid (R = false) := Lib.hid (by
      rw [← hR2]
      cases e : (decide (0 ≤ l) && (decide (l ≤ 120) && (decide (0 ≤ z) && (decide (z ≤ 80) && (decide (sq.length = 5) && (decide (en.length = 0) && maySqs z 0 sq)))))) with
      | false => rfl
      | true =>
        simp only [Bool.and_eq_true, decide_eq_true_eq] at e
        exact absurd ⟨⟨e.1, e.2.1⟩, ⟨e.2.2.1, e.2.2.2.1⟩, e.2.2.2.2.1, e.2.2.2.2.2.1⟩ hf)
    clear hR2
    have HF : Hid (¬ (decide (0 ≤ l ∧ l ≤ 120) = true ∧ decide (0 ≤ z ∧ z ≤ 80) = true ∧ decide (sq.length = 5) = true ∧ decide (en.length = 0) = true)) := Lib.hid (by simpa only [decide_eq_true_eq] using hf)
    clear hf
    generalize decide (0 ≤ l ∧ l ≤ 120) = x1 at hw1 HF
    generalize decide (0 ≤ z ∧ z ≤ 80) = x2 at hw2 HF
    generalize decide (sq.length = 5) = x3 at a3 HF
    generalize decide (en.length = 0) = x4 at a4 a5 HF
    have HW1 := Lib.hid hw1
    have HW2 := Lib.hid hw2
    clear hw1 hw2
    cases x1 with
    | false =>
      go_enter Tryd.func52, Tryd.ntmps52
      go_wp2_with (first
        | (go_at_call 67; (with_reducible refine (HW1.out _).mono ?_); rintro e w1 ⟨rfl, rfl⟩)
        | (go_at_call 67; (with_reducible refine (HW2.out _).mono ?_); rintro e w1 ⟨rfl, rfl⟩)
        | fail)
      go_ret
      exact ⟨by rw [HR.out]; rfl, HBA.out⟩
    | true =>
    cases x2 with
    | false =>
      go_enter Tryd.func52, Tryd.ntmps52
      go_wp2_with (first
        | (go_at_call 67; (with_reducible refine (HW1.out _).mono ?_); rintro e w1 ⟨rfl, rfl⟩)
        | (go_at_call 67; (with_reducible refine (HW2.out _).mono ?_); rintro e w1 ⟨rfl, rfl⟩)
        | fail)
      go_ret
      exact ⟨by rw [HR.out]; rfl, HBA.out⟩
    | true =>
    cases x3 with
    | false =>
      go_enter Tryd.func52, Tryd.ntmps52
      go_wp2_with (first
        | (go_at_call 67; (with_reducible refine (HW1.out _).mono ?_); rintro e w1 ⟨rfl, rfl⟩)
        | (go_at_call 67; (with_reducible refine (HW2.out _).mono ?_); rintro e w1 ⟨rfl, rfl⟩)
        | fail)
      go_ret
      exact ⟨by rw [HR.out]; rfl, HBA.out⟩
    | true =>
    cases x4 with
    | true => exact absurd ⟨rfl, rfl, rfl, rfl⟩ HF.out
    | false =>
      go_enter Tryd.func52, Tryd.ntmps52
      go_wp2_with (first
        | (go_at_call 67; (with_reducible refine (HW1.out _).mono ?_); rintro e w1 ⟨rfl, rfl⟩)
        | (go_at_call 67; (with_reducible refine (HW2.out _).mono ?_); rintro e w1 ⟨rfl, rfl⟩)
        | fail)
      go_ret
      exact ⟨by rw [HR.out]; rfl, HBA.out⟩
  obtain ⟨f1, f2, f3, f4⟩ := hf
  have HR : Hid (maySqs z 0 sq = R) := Lib.hid (by
    rw [decide_eq_true f1.1, decide_eq_true f1.2, decide_eq_true f2.1, decide_eq_true f2.2, decide_eq_true f3, decide_eq_true f4] at hR2
    simpa using hR2)
  rw [decide_eq_true f3] at a3
  rw [decide_eq_true f4] at a4 a5
  rw [decide_eq_true f1] at hw1
  rw [decide_eq_true f2] at hw2
  have HW1 := Lib.hid hw1
  have HW2 := Lib.hid hw2
  have F5 := Lib.hid f3
  clear hR2 f1 f2 f3 f4 hw1 hw2
  have HX := Lib.hid (box_node w (.int .i64 k) (.int .i64 l) (.int .i64 z) (.slice A sq.length c) (.slice B en.length d) 32)
  go_enter Tryd.func52, Tryd.ntmps52
  go_wp2_with (first
    | (go_at_call 67; (with_reducible refine (HW1.out _).mono ?_); rintro e w1 ⟨rfl, rfl⟩)
    | (go_at_call 67; (with_reducible refine (HW2.out _).mono ?_); rintro e w1 ⟨rfl, rfl⟩)
    | fail)
  generalize w.alloc _ = W at HX HBA ⊢
  have hz : W.cell? ⟨w.heap.size, 2, none⟩ = some (.int .i64 z) := by have := HX.out; simp [World.cell?, this]
  clear HW1 HW2
  go_loopw [3, 4, 30] (fun _ _ v30 wr => ∃ jx : Nat, jx ≤ sq.length ∧ v30 = .int .i64 jx ∧ Hid (∀ i (h : i < sq.length), i < jx → maySq z i sq[i] = true) ∧ wr = W) (fun _ _ v30 _ => sq.length - (RowKit.intOf v30).toNat)
  case atStart => exact ⟨0, Nat.zero_le _, rfl, Lib.hid fun i _ h => absurd h (Nat.not_lt_zero i), rfl⟩
  case round =>
    obtain ⟨jx, hj, rfl, HI, rfl⟩ := hrel
    by_cases hj1 : jx < sq.length
    · obtain ⟨B1, o, rfl, hBs, hc⟩ := (HH.out.below HBA.out).sq (show 0 < sq.length by omega)
      have d2 : decide ((jx : Int) < (sq.length : Int)) = true := decide_eq_true (by omega)
      have k0 := hc jx hj1
      dsimp only at k0
      obtain ⟨s, hs⟩ : ∃ s, sq[jx] = s := ⟨_, rfl⟩
      rw [hs] at k0
      have HS := Lib.hid hs
      clear hc hs
      have hj5 : jx < 5 := by have := F5.out; omega
      have hw3 := fun w1 : World => nwithin_any s 0 1099511627776 w1
      by_cases g1 : 0 ≤ s ∧ s ≤ 1099511627776
      case neg =>
        have HF : Hid (R = false) := Lib.hid (by rw [← HR.out]; exact maySqs_one hj1 (by rw [HS.out]; cases e : maySq z jx s with | false => rfl | true => exact absurd ⟨(maySq_at e).1, (maySq_at e).2.1⟩ g1))
        rw [decide_eq_false g1] at hw3
        have HW3 := Lib.hid hw3
        clear g1 hw3
        go_wp2_with (first
          | (go_at_call 67; (with_reducible refine (HW3.out _).mono ?_); rintro e w1 ⟨rfl, rfl⟩)
          | fail)
        go_ret
        exact ⟨by rw [HF.out]; rfl, HBA.out⟩
      rw [decide_eq_true g1] at hw3
      have HW3 := Lib.hid hw3
      have hw : IntKind.i64.wrap ((jx : Int) * 16) = (jx : Int) * 16 := i64w_idE _ (by omega)
      by_cases g3 : s = 0
      · subst g3
        clear g1 hw3
        go_wp2_with (first
          | (go_at_call 67; (with_reducible refine (HW3.out _).mono ?_); rintro e w1 ⟨rfl, rfl⟩)
          | fail)
        go_roundw
        case rel =>
          refine ⟨jx + 1, by omega, by go_num, Lib.hid fun i h hi => ?_, by trivial⟩
          by_cases e : i = jx
          · subst e; rw [HS.out]; exact maySq_mk (by omega) (by omega) (fun e => absurd rfl e)
          · exact HI.out i h (by omega)
        case measure => simp [RowKit.intOf]; omega
      · have b3 : (s != 0) = true := by simpa using g3
        by_cases g4 : (jx : Int) * 16 < z
        · have b4 : decide (z ≤ (jx : Int) * 16) = false := decide_eq_false (by omega)
          have G := Lib.hid (And.intro g1 g4)
          clear g1 g3 g4 hw3
          go_wp2_with (first
            | (go_at_call 67; (with_reducible refine (HW3.out _).mono ?_); rintro e w1 ⟨rfl, rfl⟩)
            | fail)
          go_roundw
          case rel =>
            refine ⟨jx + 1, by omega, by go_num, Lib.hid fun i h hi => ?_, by trivial⟩
            by_cases e : i = jx
            · subst e; rw [HS.out]; have g := G.out; exact maySq_mk g.1.1 g.1.2 (fun _ => g.2)
            · exact HI.out i h (by omega)
          case measure => simp [RowKit.intOf]; omega
        · have b4 : decide (z ≤ (jx : Int) * 16) = true := decide_eq_true (by omega)
          have HF : Hid (R = false) := Lib.hid (by rw [← HR.out]; exact maySqs_one hj1 (by rw [HS.out]; cases e : maySq z jx s with | false => rfl | true => exact absurd ((maySq_at e).2.2 g3) (by omega)))
          clear g1 g3 g4 hw3
          go_wp2_with (first
            | (go_at_call 67; (with_reducible refine (HW3.out _).mono ?_); rintro e w1 ⟨rfl, rfl⟩)
            | fail)
          go_ret
          exact ⟨by rw [HF.out]; rfl, HBA.out⟩
    · have d2 : decide ((jx : Int) < (sq.length : Int)) = false := decide_eq_false (by omega)
      have HF : Hid (R = true) := Lib.hid (by rw [← HR.out]; exact maySqs_all fun i h => HI.out i h (by omega))
      go_wp2_with fail
      go_ret
      exact ⟨by rw [HF.out]; rfl, HBA.out⟩
end Go.Proofs.YtfboilbmehcgoaaDoor

/- The landed mayDir, May (written by mknv.py). -/
namespace Go.Proofs.YtfboilbmehcgoaaDoor
open Go.RowKit Go.Lib

theorem emptyd_any (w : World) : Calls Tryd.prog 47 #[.int .i64 2] w fun e w' => e = .returned (.agg #[.int .i64 2, .int .i64 1, .int .i64 0, .slice none 0 0, .slice none 0 0]) ∧ Below w.heap.size w w' := by
  go_enter Tryd.func47, Tryd.ntmps47
  go_wp2_with fail
  refine bodyPost_ret (results_cell_row rfl _ _ w.heap.size _ _ _ _ rfl (heap_alloc_new _ _) Tryd.underlying32 rfl (by kernel_rfl)) rfl ?_
  exact ⟨rfl, (Below.refl _ _).alloc (Nat.le_refl _) _⟩
theorem NLies.plain (w : World) (k l z : Int) : NLies w ⟨k, l, z, [], []⟩ none none 0 0 :=
  ⟨.nil _ _, .nil _ _, fun _ => ⟨rfl, rfl⟩, fun _ => ⟨rfl, rfl⟩, Nat.le_refl _, Nat.le_refl _, by simp, by simp⟩
theorem NLies.noname {w : World} {k l z : Int} {sq : List Int} {en : List Ent} {A B : Option Addr} {c d : Nat} (h : NLies w ⟨k, l, z, sq, en⟩ A B c d) : NLies w ⟨k, l, z, sq, []⟩ A none c 0 :=
  ⟨h.sq, .nil _ _, h.sn, fun _ => ⟨rfl, rfl⟩, h.sc, Nat.le_refl _, h.sm, by simp⟩
set_option maxRecDepth 100000 in
set_option maxHeartbeats 4000000 in
theorem maydir_any (k l z : Int) (sq : List Int) (en : List Ent) (A B : Option Addr) (c d s t : Nat) (w : World) (HS : Hid (sq.length = s)) (HT : Hid (en.length = t)) (h : Hid (NLies w ⟨k, l, z, sq, en⟩ A B c d)) : Calls Tryd.prog 53 #[.agg #[.int .i64 k, .int .i64 l, .int .i64 z, .slice A s c, .slice B t d]] w fun x w' => x = .returned (.bool (mayEs en && sameN ⟨k, l, z, sq, []⟩ ⟨2, 1, 0, [], []⟩)) ∧ Below w.heap.size w w' := by
  have HBA := Lib.hid ((Below.refl w.heap.size w).alloc (Nat.le_refl _) (.cells #[.int .i64 k, .int .i64 l, .int .i64 z, .slice A s c, .slice B t d] 32))
  have HX := Lib.hid (heap_alloc_new w (.cells #[.int .i64 k, .int .i64 l, .int .i64 z, .slice A s c, .slice B t d] 32))
  obtain ⟨M, hM⟩ : ∃ M, mayEs en = M := ⟨_, rfl⟩
  have HC := Lib.hid (fun w1 (hw : ELies w1 B en) => (mays_any B d en w1 hw))
  rw [hM, HT.out] at HC
  rw [hM]
  cases M with
  | false =>
    go_enter Tryd.func53, Tryd.ntmps53
    go_wp2_with (first
      | (go_at_call 68; (with_reducible refine (HC.out _ (h.out.below HBA.out).en).mono ?_); rintro e w1 ⟨rfl, hb1⟩; replace hb1 := Lib.hid (HBA.out.trans (hb1.mono HBA.out.size)))
      | fail)
    go_ret
    exact ⟨rfl, hb1.out⟩
  | true =>
    obtain ⟨Q, hQ⟩ : ∃ Q, sameN ⟨k, l, z, sq, []⟩ ⟨2, 1, 0, [], []⟩ = Q := ⟨_, rfl⟩
    have HSM := Lib.hid (fun w1 (hw : NLies w1 ⟨k, l, z, sq, []⟩ A none c 0) => samel_any ⟨k, l, z, sq, []⟩ ⟨2, 1, 0, [], []⟩ A none none none c 0 0 0 w1 hw (.plain _ _ _ _))
    rw [hQ] at HSM
    rw [hQ]
    have HSL : Hid (∀ w1, NLies w1 ⟨k, l, z, sq, []⟩ A none c 0 → Calls Tryd.prog 45 #[.agg #[.int .i64 k, .int .i64 l, .int .i64 z, .slice A s c, .slice none 0 0], .agg #[.int .i64 2, .int .i64 1, .int .i64 0, .slice none 0 0, .slice none 0 0]] w1 fun x w' => x = .returned (.bool Q) ∧ Below w1.heap.size w1 w') := Lib.hid fun w1 hw => by
      have := HSM.out w1 hw
      rw [← HS.out]
      exact this
    have hx4 : ∀ w1, Below (w.alloc (.cells #[.int .i64 k, .int .i64 l, .int .i64 z, .slice A s c, .slice B t d] 32)).heap.size (w.alloc (.cells #[.int .i64 k, .int .i64 l, .int .i64 z, .slice A s c, .slice B t d] 32)) w1 → w1.heap[w.heap.size]? = some (.cells #[.int .i64 k, .int .i64 l, .int .i64 z, .slice A s c, .slice B t d] 32 (0, 0)) := fun w1 hb => (hb.block w.heap.size (by simp)).trans HX.out
    have HX4 := Lib.hid hx4
    clear hx4 hQ hM HSM
    go_enter Tryd.func53, Tryd.ntmps53
    go_wp2_with (first
      | (go_at_call 68; (with_reducible refine (HC.out _ (h.out.below HBA.out).en).mono ?_); rintro e w1 ⟨rfl, hb1⟩; have HX1 := Lib.hid (HX4.out _ hb1); replace hb1 := Lib.hid (HBA.out.trans (hb1.mono HBA.out.size)); have k4 : w1.cell? ⟨w.heap.size, 4, none⟩ = some (.slice B t d) := (by have := HX1.out; simp [World.cell?, this]); have f4 : w1.frozen? ⟨w.heap.size, 4, none⟩ = false := (by have := HX1.out; simp [World.frozen?, this]))
      | fail)
    obtain ⟨W, hW⟩ : ∃ X, X = w1.setCell ⟨w.heap.size, 4, none⟩ (.slice none 0 0) := ⟨_, rfl⟩
    rw [← hW]
    have HZ : Hid (W.heap[w.heap.size]? = some (.cells #[.int .i64 k, .int .i64 l, .int .i64 z, .slice A s c, .slice none 0 0] 32 (0, 0))) := Lib.hid (by
      rw [hW, heap_setCell_same _ w.heap.size 4 _ _ _ HX1.out]; rfl)
    have HBW : Hid (Below w.heap.size w W) := Lib.hid (by rw [hW]; exact hb1.out.setCell (Nat.le_refl _) _)
    have hsz : Hid (w.heap.size < W.heap.size) := Lib.hid (lt_size HZ.out)
    clear hW k4 f4
    have HK : Hid (∀ w1, Below W.heap.size W w1 → w1.cell? ⟨w.heap.size, 0, none⟩ = some (.int .i64 k) ∧ w1.cell? ⟨w.heap.size, 1, none⟩ = some (.int .i64 l) ∧ w1.cell? ⟨w.heap.size, 2, none⟩ = some (.int .i64 z) ∧ w1.cell? ⟨w.heap.size, 3, none⟩ = some (.slice A s c) ∧ w1.cell? ⟨w.heap.size, 4, none⟩ = some (.slice none 0 0)) := Lib.hid fun w1 hb => by
      have := (hb.block w.heap.size hsz.out).trans HZ.out
      exact ⟨by simp [World.cell?, this], by simp [World.cell?, this], by simp [World.cell?, this], by simp [World.cell?, this], by simp [World.cell?, this]⟩
    have HNL : Hid (NLies W ⟨k, l, z, sq, []⟩ A none c 0) := Lib.hid (h.out.below HBW.out).noname
    refine region_st (fun j v w' => match j with | 0 => v = .agg #[.int .i64 k, .int .i64 l, .int .i64 z, .slice A s c, .slice none 0 0] | 1 => v = .agg #[.int .i64 2, .int .i64 1, .int .i64 0, .slice none 0 0, .slice none 0 0] | 2 => v = .bool Q | 3 => v = .bool Q | _ => True) (fun _ w' => Below W.heap.size W w') (fun w1 w2 => Below w1.heap.size w1 w2) (by kernel_rfl) (by kernel_rfl) (by kernel_rfl) ?hR ?hG ?hops ?hend
    case hR =>
      intro j v w1 w2 hv hb
      match j, hv with
      | 0, hv => exact hv
      | 1, hv => exact hv
      | 2, hv => exact hv
      | 3, hv => exact hv
      | _ + 4, _ => exact trivial
    case hG => exact (Below.refl _ _).drew
    case hops =>
      refine OpsOkS.cons ?o0 (OpsOkS.cons ?o1 (OpsOkS.cons ?o2 (OpsOkS.cons ?o3 OpsOkS.nil)))
      case o0 =>
        intro a w1 Kx hG need old hsz fresh hKx
        have e0 : a.tmps[1]?.getD undef = .pointer (some ⟨w.heap.size, 0, none⟩) := by rw [← Array.getD_eq_getD_getElem?]; exact old 1 (by kernel_rfl)
        obtain ⟨j0, j1, j2, j3, j4⟩ := HK.out w1 hG
        refine op_value (v := .agg #[.int .i64 k, .int .i64 l, .int .i64 z, .slice A s c, .slice none 0 0]) (wanted_none rfl) ?_ (hKx _ w1 rfl hG (Below.refl _ _))
        simp [execOp, go_sem, e0, j0, j1, j2, j3, j4]
      case o1 =>
        intro a w1 Kx hG need old hsz fresh hKx
        refine op_call (wanted_none rfl) (f := 47) (args := #[.int .i64 2]) ?run ((emptyd_any w1).mono ?post)
        case run => simp [go_sem]
        case post =>
          rintro e w2 ⟨rfl, hb2⟩
          exact ⟨_, rfl, hKx _ w2 rfl (hG.trans (hb2.mono hG.size)) hb2⟩
      case o2 =>
        intro a w1 Kx hG need old hsz fresh hKx
        have e0 : a.tmps[8]?.getD undef = .agg #[.int .i64 k, .int .i64 l, .int .i64 z, .slice A s c, .slice none 0 0] := by rw [← Array.getD_eq_getD_getElem?]; exact (need 0 (by kernel_rfl) (by kernel_rfl))
        have e1 : a.tmps[9]?.getD undef = .agg #[.int .i64 2, .int .i64 1, .int .i64 0, .slice none 0 0, .slice none 0 0] := by rw [← Array.getD_eq_getD_getElem?]; exact (need 1 (by kernel_rfl) (by kernel_rfl))
        refine op_call (wanted_none rfl) (f := 45) (args := #[.agg #[.int .i64 k, .int .i64 l, .int .i64 z, .slice A s c, .slice none 0 0], .agg #[.int .i64 2, .int .i64 1, .int .i64 0, .slice none 0 0, .slice none 0 0]]) ?run ((HSL.out w1 (HNL.out.below hG)).mono ?post)
        case run => simp [go_sem, e0, e1]
        case post =>
          rintro e w2 ⟨rfl, hb2⟩
          exact ⟨_, rfl, hKx _ w2 rfl (hG.trans (hb2.mono hG.size)) hb2⟩
      case o3 =>
        intro a w1 Kx hG need old hsz fresh hKx
        have e0 : a.tmps[10]?.getD undef = .bool Q := by rw [← Array.getD_eq_getD_getElem?]; exact (need 2 (by kernel_rfl) (by kernel_rfl))
        refine op_value (v := .bool Q) (wanted_none rfl) ?_ (hKx _ w1 rfl hG (Below.refl _ _))
        simp [execOp, go_sem, e0]
    case hend =>
      intro a w6 hG hde hsz hφ hold
      obtain rfl := act_puts [(8, .agg #[.int .i64 k, .int .i64 l, .int .i64 z, .slice A s c, .slice none 0 0]), (9, .agg #[.int .i64 2, .int .i64 1, .int .i64 0, .slice none 0 0, .slice none 0 0]), (10, .bool Q), (2, .bool Q)] [8, 9, 10, 2] rfl (by kernel_rfl) (by kernel_rfl) hde hsz (List.forall_mem_cons.2 ⟨(show a.tmps.getD 8 undef = .agg #[.int .i64 k, .int .i64 l, .int .i64 z, .slice A s c, .slice none 0 0] from (hφ 0 (by kernel_rfl))), (List.forall_mem_cons.2 ⟨(show a.tmps.getD 9 undef = .agg #[.int .i64 2, .int .i64 1, .int .i64 0, .slice none 0 0, .slice none 0 0] from (hφ 1 (by kernel_rfl))), (List.forall_mem_cons.2 ⟨(show a.tmps.getD 10 undef = .bool Q from (hφ 2 (by kernel_rfl))), (List.forall_mem_cons.2 ⟨(show a.tmps.getD 2 undef = .bool Q from (hφ 3 (by kernel_rfl))), (fun _ h => absurd h (by simp))⟩)⟩)⟩)⟩) hold
      clear hφ hold hsz hde
      simp only [putAll]
      go_frame
      go_wp2_with fail
      go_ret
      exact ⟨by cases Q <;> rfl, HBW.out.trans (hG.mono HBW.out.size)⟩
theorem may_none {n : Nd} (h : n.k = 0) : mayNd n = sameN n ⟨0, 0, 0, [], []⟩ := by
  rw [sameN_eq]
  unfold mayNd
  rw [if_pos h, decide_eq_true h, Bool.true_and]
  have e1 : decide (n.sq = []) = decide (n.sq.length = 0) := by rw [Bool.eq_iff_iff]; simp
  have e2 : decide (n.en = []) = decide (n.en.length = 0) := by rw [Bool.eq_iff_iff]; simp
  show _ = (decide (n.l = 0) && (decide (n.z = 0) && (decide (n.sq = []) && decide (n.en = []))))
  rw [e1, e2]
theorem may_dir {n : Nd} (h : n.k = 2) : mayNd n = (mayEs n.en && sameN ⟨n.k, n.l, n.z, n.sq, []⟩ ⟨2, 1, 0, [], []⟩) := by
  rw [sameN_eq]
  unfold mayNd
  rw [if_neg (by omega), if_pos h]
  have e1 : decide (n.sq = []) = decide (n.sq.length = 0) := by rw [Bool.eq_iff_iff]; simp
  show _ = (mayEs n.en && (decide (n.k = 2) && (decide (n.l = 1) && (decide (n.z = 0) && (decide (n.sq = []) && decide (([] : List Ent) = []))))))
  rw [e1, decide_eq_true h]
  generalize mayEs n.en = a
  generalize decide (n.l = 1) = b
  generalize decide (n.z = 0) = c
  generalize decide (n.sq.length = 0) = d
  cases a <;> cases b <;> cases c <;> cases d <;> rfl
set_option maxRecDepth 100000 in
set_option maxHeartbeats 4000000 in
theorem maynl_any (n : Nd) (A B : Option Addr) (c d : Nat) (w : World) (h : NLies w n A B c d) : Calls Tryd.prog 31 #[ndV n A B c d] w fun x w' => x = .returned (.bool (mayNd n)) ∧ Below w.heap.size w w' := by
  have HH := Lib.hid h
  have HBA := Lib.hid ((Below.refl w.heap.size w).alloc (Nat.le_refl _) (.cells #[.int .i64 n.k, .int .i64 n.l, .int .i64 n.z, .slice A n.sq.length c, .slice B n.en.length d] 32))
  have HN := Lib.hid (HH.out.below HBA.out)
  by_cases h0 : n.k = 0
  · have HC := Lib.hid (samel_any n ⟨0, 0, 0, [], []⟩ A B none none c d 0 0 _ HN.out (.plain _ _ _ _))
    rw [← may_none h0] at HC
    generalize mayNd n = R at HC ⊢
    clear h HH HN
    dsimp only [ndV] at HC ⊢
    rw [h0] at HC HBA ⊢
    go_enter Tryd.func31, Tryd.ntmps31
    go_wp2_with (first
      | (go_at_call 45; refine HC.out.mono ?_; rintro e w1 ⟨rfl, hb1⟩; have HB1 := Lib.hid (HBA.out.trans (hb1.mono HBA.out.size)); clear hb1)
      | fail)
    go_ret
    exact ⟨rfl, HB1.out⟩
  by_cases h1 : n.k = 1
  · have HC := Lib.hid (mayfl_any n A B c d _ HN.out)
    rw [← mayNd_file h1] at HC
    generalize mayNd n = R at HC ⊢
    clear h HH HN h0
    dsimp only [ndV] at HC ⊢
    rw [h1] at HC HBA ⊢
    go_enter Tryd.func31, Tryd.ntmps31
    go_wp2_with (first
      | (go_at_call 52; refine HC.out.mono ?_; rintro e w1 ⟨rfl, hb1⟩; have HB1 := Lib.hid (HBA.out.trans (hb1.mono HBA.out.size)); clear hb1)
      | fail)
    go_ret
    exact ⟨rfl, HB1.out⟩
  by_cases h2 : n.k = 2
  · have HC := Lib.hid (maydir_any n.k n.l n.z n.sq n.en A B c d _ _ _ (Lib.hid rfl) (Lib.hid rfl) (Lib.hid HN.out))
    rw [← may_dir h2] at HC
    generalize mayNd n = R at HC ⊢
    clear h HH HN h0 h1
    dsimp only [ndV] at HC ⊢
    rw [h2] at HC HBA ⊢
    go_enter Tryd.func31, Tryd.ntmps31
    go_wp2_with (first
      | (go_at_call 53; refine HC.out.mono ?_; rintro e w1 ⟨rfl, hb1⟩; have HB1 := Lib.hid (HBA.out.trans (hb1.mono HBA.out.size)); clear hb1)
      | fail)
    go_ret
    exact ⟨rfl, HB1.out⟩
  have HF : Hid (mayNd n = false) := Lib.hid (by unfold mayNd; rw [if_neg h0, if_neg h2, if_neg h1])
  have e0 : (n.k == 0) = false := by simpa using h0
  have e1 : (n.k == 1) = false := by simpa using h1
  have e2 : (n.k == 2) = false := by simpa using h2
  rw [HF.out]
  clear h HH HN h0 h1 h2
  go_enter Tryd.func31, Tryd.ntmps31
  go_wp2_with fail
  go_ret
  exact ⟨rfl, HBA.out⟩
end Go.Proofs.YtfboilbmehcgoaaDoor

/- The landed Refs, Pages, Copy (written by mknw.py). -/
namespace Go.Proofs.YtfboilbmehcgoaaDoor
open Go.RowKit Go.Lib

theorem may_len {n : Nd} (h : mayNd n = true) : n.sq.length ≤ 5 := by
  unfold mayNd at h
  split at h
  · simp only [Bool.and_eq_true, decide_eq_true_eq] at h
    omega
  · split at h
    · simp only [Bool.and_eq_true, decide_eq_true_eq] at h
      omega
    · split at h
      · have := (mayFl_at h).2.2.2.2.1
        omega
      · cases h
theorem refs_all {i : Int} {n : Nd} (h : mayNd n = true) (h0 : 0 ≤ i ∧ i ≤ 11) : refsN i n = rfsN i 0 n.sq := by
  by_cases hk : n.k = 1
  · exact refsN_file hk h h0.1 (by omega)
  · have e : refsN i n = [] := by unfold refsN; rw [if_neg (fun e => hk e.1)]
    have e2 : n.sq = [] := by
      unfold mayNd at h
      split at h
      · simp only [Bool.and_eq_true, decide_eq_true_eq] at h
        exact List.eq_nil_of_length_eq_zero h.2.2.1
      · split at h
        · simp only [Bool.and_eq_true, decide_eq_true_eq] at h
          exact List.eq_nil_of_length_eq_zero h.2.2.1
        · first | cases h | (rw [if_neg hk] at h; cases h)
    rw [e, e2]; rfl
theorem refs_none {i : Int} {n : Nd} (h : mayNd n = false) : refsN i n = [] := by
  unfold refsN
  rw [if_neg (fun e => by rw [h] at e; cases e.2.1)]
theorem refsN_most (i : Int) (n : Nd) : (refsN i n).length ≤ 5 := by
  unfold refsN
  split
  · next h => rw [rfsN_len]; exact Nat.le_trans (cntN_le _) (may_len h.2.1)
  · simp
set_option maxRecDepth 100000 in
set_option maxHeartbeats 8000000 in
theorem copyl_raw (k l z : Int) (sq : List Int) (en : List Ent) (s t : Nat) (A B : Option Addr) (c d : Nat) (w : World) (HS : Hid (sq.length = s)) (HT : Hid (en.length = t)) (h6 : s ≤ 60) (h7 : t ≤ 60)
    (HQ : Hid (ILies w A sq)) (HE : Hid (ELies w B en)) (HQN : Hid (A = none → sq = [] ∧ c = 0)) (HEN : Hid (B = none → en = [] ∧ d = 0)) :
    Calls Tryd.prog 28 #[.agg #[.int .i64 k, .int .i64 l, .int .i64 z, .slice A s c, .slice B t d]] w fun e w' =>
      ∃ A' B' c' d', e = .returned (.agg #[.int .i64 k, .int .i64 l, .int .i64 z, .slice A' s c', .slice B' t d']) ∧ IOwn w' w.heap.size (.slice A' s c') sq ∧ EOwn w' w.heap.size (.slice B' t d') en ∧ Below w.heap.size w w' := by
  obtain ⟨P, hP⟩ : ∃ P, P = w.heap.size := ⟨_, rfl⟩
  have HPw := Lib.hid hP
  have HC1 : Hid (∀ w1, ILies w1 A sq → Calls Tryd.prog 48 #[.slice A s c] w1 fun e w' => ∃ A' c', e = .returned (.slice A' s c') ∧ IOwn w' w1.heap.size (.slice A' s c') sq ∧ Below w1.heap.size w1 w') := Lib.hid fun w1 hw => by
    rw [← HS.out]; exact clonei_any A c sq w1 hw HQN.out (by rw [HS.out]; exact h6)
  have HC2 : Hid (∀ w1, ELies w1 B en → Calls Tryd.prog 49 #[.slice B t d] w1 fun e w' => ∃ A' c', e = .returned (.slice A' t c') ∧ EOwn w' w1.heap.size (.slice A' t c') en ∧ Below w1.heap.size w1 w') := Lib.hid fun w1 hw => by
    rw [← HT.out]; exact clonee_any B d en w1 hw HEN.out (by rw [HT.out]; exact h7)
  go_enter Tryd.func28, Tryd.ntmps28
  go_upto_region 1 with (fail)
  obtain ⟨W0, hW0⟩ : ∃ W, W = (w.alloc (.cells #[.int .i64 k, .int .i64 l, .int .i64 z, .slice A s c, .slice B t d] 32)).alloc (.cells #[.int .i64 0, .int .i64 0, .int .i64 0, .slice none 0 0, .slice none 0 0] 32) := ⟨_, rfl⟩
  rw [← hW0]
  have HX : Hid (W0.heap[P]? = some (.cells #[.int .i64 k, .int .i64 l, .int .i64 z, .slice A s c, .slice B t d] 32 (0, 0))) := Lib.hid (by rw [hW0, hP]; exact (((Below.refl _ _).alloc (Nat.le_refl _) _).block w.heap.size (by simp)).trans (heap_alloc_new _ _))
  have HY : Hid (W0.heap[P + 1]? = some (.cells #[.int .i64 0, .int .i64 0, .int .i64 0, .slice none 0 0, .slice none 0 0] 32 (0, 0))) := Lib.hid (by
    have := heap_alloc_new (w.alloc (.cells #[.int .i64 k, .int .i64 l, .int .i64 z, .slice A s c, .slice B t d] 32)) (.cells #[.int .i64 0, .int .i64 0, .int .i64 0, .slice none 0 0, .slice none 0 0] 32)
    rw [← hW0, show (w.alloc (.cells #[.int .i64 k, .int .i64 l, .int .i64 z, .slice A s c, .slice B t d] 32)).heap.size = P + 1 by rw [hP]; simp] at this
    exact this)
  have HB0 : Hid (Below w.heap.size w W0) := Lib.hid (by rw [hW0]; exact ((Below.refl _ _).alloc (Nat.le_refl _) _).alloc (by simp) _)
  have hP0 : P + 1 < W0.heap.size := by rw [hW0, hP]; simp
  clear hW0
  rw [← hP]
  have q3 : W0.cell? ⟨P, 3, none⟩ = some (.slice A s c) := by have := HX.out; simp [World.cell?, this]
  clear hP
  go_upto_region 2 with (first
    | (go_at_call 48; refine (HC1.out _ (HQ.out.below HB0.out)).mono ?_; rintro e w1 ⟨q1, c1, rfl, hO1, hb1⟩; have HO1 := Lib.hid hO1; have HB1 := Lib.hid hb1; have HX1 : Hid (w1.heap[P]? = some (.cells #[.int .i64 k, .int .i64 l, .int .i64 z, .slice A s c, .slice B t d] 32 (0, 0))) := Lib.hid ((hb1.block P (by omega)).trans HX.out); have e3 : w1.cell? ⟨P, 3, none⟩ = some (.slice A s c) := (by have := HX1.out; simp [World.cell?, this]); have f3 : w1.frozen? ⟨P, 3, none⟩ = false := (by have := HX1.out; simp [World.frozen?, this]); clear hO1 hb1)
    | fail)
  obtain ⟨w2, hw2⟩ : ∃ W, W = w1.setCell ⟨P, 3, none⟩ (.slice q1 s c1) := ⟨_, rfl⟩
  rw [← hw2]
  have HX2 : Hid (w2.heap[P]? = some (.cells #[.int .i64 k, .int .i64 l, .int .i64 z, .slice q1 s c1, .slice B t d] 32 (0, 0))) := Lib.hid (by
    rw [hw2, heap_setCell_same _ P 3 _ _ _ HX1.out]; rfl)
  have hk : ∀ b, b ≠ P → w2.heap[b]? = w1.heap[b]? := fun b hb => by rw [hw2, Below.heap_setCell _ _ _ _ hb]
  have HO2 : Hid (IOwn w2 W0.heap.size (.slice q1 s c1) sq) := Lib.hid (own_keep HO1.out fun g e => hk g (by have := (HO1.out.lt g e).1; omega))
  have HY2 : Hid (w2.heap[P + 1]? = some (.cells #[.int .i64 0, .int .i64 0, .int .i64 0, .slice none 0 0, .slice none 0 0] 32 (0, 0))) := Lib.hid ((hk (P + 1) (by omega)).trans ((HB1.out.block (P + 1) (by omega)).trans HY.out))
  have HB2 : Hid (Below w.heap.size w w2) := Lib.hid (by rw [hw2]; exact (HB0.out.trans (HB1.out.mono HB0.out.size)).setCell (by have := HPw.out; show w.heap.size ≤ P; omega) _)
  have hs2 : W0.heap.size ≤ w2.heap.size := by
    have : w2.heap.size = w1.heap.size := by rw [hw2]; simp
    have := HB1.out.size; omega
  clear hw2 hk e3 f3 q3
  have q4 : w2.cell? ⟨P, 4, none⟩ = some (.slice B t d) := by have := HX2.out; simp [World.cell?, this]
  go_upto_region 3 with (first
    | (go_at_call 49; refine (HC2.out _ (HE.out.below HB2.out)).mono ?_; rintro e w4 ⟨q2, c2, rfl, hO4, hb4⟩; have HO4 := Lib.hid hO4; have HB4 := Lib.hid hb4; have HX4 : Hid (w4.heap[P]? = some (.cells #[.int .i64 k, .int .i64 l, .int .i64 z, .slice q1 s c1, .slice B t d] 32 (0, 0))) := Lib.hid ((hb4.block P (by omega)).trans HX2.out); have e4 : w4.cell? ⟨P, 4, none⟩ = some (.slice B t d) := (by have := HX4.out; simp [World.cell?, this]); have f4 : w4.frozen? ⟨P, 4, none⟩ = false := (by have := HX4.out; simp [World.frozen?, this]); clear hO4 hb4)
    | fail)
  obtain ⟨w3, hw3⟩ : ∃ W, W = w4.setCell ⟨P, 4, none⟩ (.slice q2 t c2) := ⟨_, rfl⟩
  rw [← hw3]
  have HX3 : Hid (w3.heap[P]? = some (.cells #[.int .i64 k, .int .i64 l, .int .i64 z, .slice q1 s c1, .slice q2 t c2] 32 (0, 0))) := Lib.hid (by
    rw [hw3, heap_setCell_same _ P 4 _ _ _ HX4.out]; rfl)
  have hk : ∀ b, b ≠ P → w3.heap[b]? = w4.heap[b]? := fun b hb => by rw [hw3, Below.heap_setCell _ _ _ _ hb]
  have HO5 : Hid (EOwn w3 W0.heap.size (.slice q2 t c2) en) := Lib.hid (own_base (own_keep HO4.out fun g e => hk g (by have := (HO4.out.lt g e).1; omega)) hs2)
  have HO6 : Hid (IOwn w3 W0.heap.size (.slice q1 s c1) sq) := Lib.hid (own_keep HO2.out fun g e => (hk g (by have := (HO2.out.lt g e).1; omega)).trans (HB4.out.block g (HO2.out.lt g e).2))
  have HY3 : Hid (w3.heap[P + 1]? = some (.cells #[.int .i64 0, .int .i64 0, .int .i64 0, .slice none 0 0, .slice none 0 0] 32 (0, 0))) := Lib.hid ((hk (P + 1) (by omega)).trans ((HB4.out.block (P + 1) (by omega)).trans HY2.out))
  have HB3 : Hid (Below w.heap.size w w3) := Lib.hid (by rw [hw3]; exact (HB2.out.trans (HB4.out.mono HB2.out.size)).setCell (by have := HPw.out; show w.heap.size ≤ P; omega) _)
  clear hw3 hk e4 f4 q4
  have r0 : w3.cell? ⟨P, 0, none⟩ = some (.int .i64 k) := by have := HX3.out; simp [World.cell?, this]
  have r1 : w3.cell? ⟨P, 1, none⟩ = some (.int .i64 l) := by have := HX3.out; simp [World.cell?, this]
  have r2 : w3.cell? ⟨P, 2, none⟩ = some (.int .i64 z) := by have := HX3.out; simp [World.cell?, this]
  have r3 : w3.cell? ⟨P, 3, none⟩ = some (.slice q1 s c1) := by have := HX3.out; simp [World.cell?, this]
  have r4 : w3.cell? ⟨P, 4, none⟩ = some (.slice q2 t c2) := by have := HX3.out; simp [World.cell?, this]
  have y0 : w3.cell? ⟨P + 1, 0, none⟩ = some (.int .i64 0) := by have := HY3.out; simp [World.cell?, this]
  have z0 : w3.frozen? ⟨P + 1, 0, none⟩ = false := by have := HY3.out; simp [World.frozen?, this]
  have y1 : w3.cell? ⟨P + 1, 1, none⟩ = some (.int .i64 0) := by have := HY3.out; simp [World.cell?, this]
  have z1 : w3.frozen? ⟨P + 1, 1, none⟩ = false := by have := HY3.out; simp [World.frozen?, this]
  have y2 : w3.cell? ⟨P + 1, 2, none⟩ = some (.int .i64 0) := by have := HY3.out; simp [World.cell?, this]
  have z2 : w3.frozen? ⟨P + 1, 2, none⟩ = false := by have := HY3.out; simp [World.frozen?, this]
  have y3 : w3.cell? ⟨P + 1, 3, none⟩ = some (.slice none 0 0) := by have := HY3.out; simp [World.cell?, this]
  have z3 : w3.frozen? ⟨P + 1, 3, none⟩ = false := by have := HY3.out; simp [World.frozen?, this]
  have y4 : w3.cell? ⟨P + 1, 4, none⟩ = some (.slice none 0 0) := by have := HY3.out; simp [World.cell?, this]
  have z4 : w3.frozen? ⟨P + 1, 4, none⟩ = false := by have := HY3.out; simp [World.frozen?, this]
  go_wp2_with fail
  obtain ⟨w4, hw4⟩ : ∃ W, W = ((((w3.setCell ⟨P + 1, 0, none⟩ (.int .i64 k)).setCell ⟨P + 1, 1, none⟩ (.int .i64 l)).setCell ⟨P + 1, 2, none⟩ (.int .i64 z)).setCell ⟨P + 1, 3, none⟩ (.slice q1 s c1)).setCell ⟨P + 1, 4, none⟩ (.slice q2 t c2) := ⟨_, rfl⟩
  rw [← hw4]
  have hz : w4.heap[P + 1]? = some (.cells #[.int .i64 k, .int .i64 l, .int .i64 z, .slice q1 s c1, .slice q2 t c2] 32 (0, 0)) := by
    rw [hw4, heap_setCell_same _ (P + 1) 4 _ _ _ (heap_setCell_same _ (P + 1) 3 _ _ _ (heap_setCell_same _ (P + 1) 2 _ _ _ (heap_setCell_same _ (P + 1) 1 _ _ _ (heap_setCell_same _ (P + 1) 0 _ _ _ HY3.out))))]; rfl
  have hk : ∀ b, b ≠ P + 1 → w4.heap[b]? = w3.heap[b]? := fun b hb => by rw [hw4, Below.heap_setCell _ _ _ _ hb, Below.heap_setCell _ _ _ _ hb, Below.heap_setCell _ _ _ _ hb, Below.heap_setCell _ _ _ _ hb, Below.heap_setCell _ _ _ _ hb]
  have hB4 : Below w.heap.size w w4 := by
    have hp : w.heap.size ≤ P + 1 := by have := HPw.out; omega
    rw [hw4]
    exact ((((HB3.out.setCell hp _).setCell hp _).setCell hp _).setCell hp _).setCell hp _
  clear hw4
  refine bodyPost_ret (results_cell_row rfl _ _ (P + 1) _ _ _ _ rfl hz Tryd.underlying32 rfl (by kernel_rfl)) rfl ?_
  exact ⟨q1, q2, c1, c2, rfl, own_base (own_keep HO6.out fun g e => hk g (by have := (HO6.out.lt g e).1; omega)) HB0.out.size, own_base (own_keep HO5.out fun g e => hk g (by have := (HO5.out.lt g e).1; omega)) HB0.out.size, hB4⟩
theorem copyl_any (n : Nd) (A B : Option Addr) (c d : Nat) (w : World) (h : NLies w n A B c d) (h6 : n.sq.length ≤ 60) (h7 : n.en.length ≤ 60) : Calls Tryd.prog 28 #[ndV n A B c d] w (CopyPost w n) :=
  (copyl_raw n.k n.l n.z n.sq n.en _ _ A B c d w (Lib.hid rfl) (Lib.hid rfl) h6 h7 (Lib.hid h.sq) (Lib.hid h.en) (Lib.hid h.sn) (Lib.hid h.nn)).mono fun _ _ ⟨A', B', c', d', h1, h2, h3, h4⟩ => ⟨A', B', c', d', h1, h2, h3, h4⟩
end Go.Proofs.YtfboilbmehcgoaaDoor
