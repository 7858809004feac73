/- Nodes as data: which may be, how many pages, whose refs. -/
import Derived.Test.YtohiabkjbieflaaEnM
namespace Go.Proofs.Ytohiabkjbieflaa
open Go.Lib

structure Nd where
  k : Int
  l : Int
  z : Int
  sq : List Int
  en : List Ent
deriving DecidableEq

/-- One page of a file: p its place, z the size. -/
def maySq (z : Int) (p : Nat) (s : Int) : Bool := decide (0 ≤ s) && (decide (s ≤ 1099511627776) && (decide (s = 0) || decide ((p : Int) * 16 < z)))
def maySqs (z : Int) (p : Nat) : List Int → Bool
  | [] => true
  | s :: t => maySq z p s && maySqs z (p + 1) t
theorem maySqs_iff {z : Int} : ∀ {l : List Int} {p : Nat}, maySqs z p l = true ↔ ∀ i (h : i < l.length), maySq z (p + i) l[i] = true
  | [], p => by simp [maySqs]
  | s :: t, p => by
    rw [maySqs, Bool.and_eq_true, maySqs_iff]
    constructor
    · rintro ⟨h0, h1⟩ i hi
      cases i with
      | zero => exact h0
      | succ i =>
        have := h1 i (by simpa using hi)
        rw [show p + (i + 1) = p + 1 + i by omega]
        simpa using this
    · intro h
      refine ⟨h 0 (by simp), fun i hi => ?_⟩
      have := h (i + 1) (by simpa using hi)
      rw [show p + 1 + i = p + (i + 1) by omega]
      simpa using this
theorem maySqs_one {z : Int} {l : List Int} {i : Nat} (h : i < l.length) (hn : maySq z i l[i] = false) : maySqs z 0 l = false := by
  cases e : maySqs z 0 l with
  | false => rfl
  | true =>
    have := maySqs_iff.1 e i h
    rw [Nat.zero_add, hn] at this; cases this
theorem maySqs_all {z : Int} {l : List Int} (h : ∀ i (h : i < l.length), maySq z i l[i] = true) : maySqs z 0 l = true :=
  maySqs_iff.2 fun i hi => by rw [Nat.zero_add]; exact h i hi
/-- A file's numbers. -/
def mayFl (n : Nd) : Bool := decide (0 ≤ n.l) && (decide (n.l ≤ 120) && (decide (0 ≤ n.z) && (decide (n.z ≤ 80) && (decide (n.sq.length = 5) && (decide (n.en.length = 0) && maySqs n.z 0 n.sq)))))
def mayNd (n : Nd) : Bool :=
  if n.k = 0 then decide (n.l = 0) && (decide (n.z = 0) && (decide (n.sq.length = 0) && decide (n.en.length = 0)))
  else if n.k = 2 then decide (n.l = 1) && (decide (n.z = 0) && (decide (n.sq.length = 0) && mayEs n.en))
  else if n.k = 1 then mayFl n
  else false
theorem mayNd_file {n : Nd} (h : n.k = 1) : mayNd n = mayFl n := by
  unfold mayNd
  rw [h]; rfl
theorem mayFl_at {n : Nd} (h : mayFl n = true) : 0 ≤ n.l ∧ n.l ≤ 120 ∧ 0 ≤ n.z ∧ n.z ≤ 80 ∧ n.sq.length = 5 ∧ n.en.length = 0 ∧ ∀ i (h : i < n.sq.length), maySq n.z i n.sq[i] = true := by
  simp only [mayFl, Bool.and_eq_true, decide_eq_true_eq] at h
  obtain ⟨h1, h2, h3, h4, h5, h6, h7⟩ := h
  exact ⟨h1, h2, h3, h4, h5, h6, fun i hi => by have := maySqs_iff.1 h7 i hi; rwa [Nat.zero_add] at this⟩
theorem maySq_at {z s : Int} {p : Nat} (h : maySq z p s = true) : 0 ≤ s ∧ s ≤ 1099511627776 ∧ (s ≠ 0 → (p : Int) * 16 < z) := by
  simp only [maySq, Bool.and_eq_true, Bool.or_eq_true, decide_eq_true_eq] at h
  exact ⟨h.1, h.2.1, fun hs => h.2.2.resolve_left hs⟩
theorem maySq_mk {z s : Int} {p : Nat} (h0 : 0 ≤ s) (h1 : s ≤ 1099511627776) (h2 : s ≠ 0 → (p : Int) * 16 < z) : maySq z p s = true := by
  simp only [maySq, Bool.and_eq_true, Bool.or_eq_true, decide_eq_true_eq]
  exact ⟨h0, h1, (Decidable.em (s = 0)).imp id h2⟩
/-- How many are not nought. -/
def cntN : List Int → Nat
  | [] => 0
  | s :: t => (if s = 0 then 0 else 1) + cntN t
theorem cntN_app : ∀ (l m : List Int), cntN (l ++ m) = cntN l + cntN m
  | [], m => by simp [cntN]
  | s :: t, m => by rw [List.cons_append, cntN, cntN, cntN_app t m]; omega
theorem cntN_le : ∀ l : List Int, cntN l ≤ l.length
  | [] => Nat.le_refl _
  | s :: t => by
    have := cntN_le t
    rw [cntN, List.length_cons]
    split <;> omega
theorem cntN_take {l : List Int} {j : Nat} (h : j < l.length) : cntN (l.take (j + 1)) = cntN (l.take j) + (if l[j] = 0 then 0 else 1) := by
  rw [List.take_succ_eq_append_getElem h, cntN_app]
  simp [cntN]
def pagesN (n : Nd) : Nat := if n.k = 1 ∧ mayNd n = true then cntN n.sq else 0
/-- The refs of a file, i its node. -/
def rfsN (i : Int) (p : Nat) : List Int → List (Int × Int)
  | [] => []
  | s :: t => if s = 0 then rfsN i (p + 1) t else (1 + i * 5 + p, s) :: rfsN i (p + 1) t
theorem rfsN_app (i : Int) : ∀ (l m : List Int) (p : Nat), rfsN i p (l ++ m) = rfsN i p l ++ rfsN i (p + l.length) m
  | [], m, p => by simp [rfsN]
  | s :: t, m, p => by
    rw [List.cons_append, rfsN, rfsN, rfsN_app i t m (p + 1), List.length_cons, show p + 1 + t.length = p + (t.length + 1) by omega]
    split <;> simp
theorem rfsN_len (i : Int) : ∀ (l : List Int) (p : Nat), (rfsN i p l).length = cntN l
  | [], p => rfl
  | s :: t, p => by
    rw [rfsN, cntN, ← rfsN_len i t (p + 1)]
    split
    · omega
    · rw [List.length_cons]; omega
theorem rfsN_take {i : Int} {l : List Int} {j : Nat} (h : j < l.length) : rfsN i 0 (l.take (j + 1)) = rfsN i 0 (l.take j) ++ (if l[j] = 0 then [] else [(1 + i * 5 + (j : Int), l[j])]) := by
  rw [List.take_succ_eq_append_getElem h, rfsN_app, List.length_take, Nat.min_eq_left (by omega), Nat.zero_add, rfsN, rfsN]
theorem rfsN_mem {i : Int} : ∀ {l : List Int} {p : Nat} {r : Int × Int}, r ∈ rfsN i p l → ∃ q, ∃ (h : q < l.length), r = (1 + i * 5 + ((p + q : Nat) : Int), l[q]) ∧ l[q] ≠ 0
  | [], p, r, h => by cases h
  | s :: t, p, r, h => by
    have key : r ∈ rfsN i (p + 1) t → ∃ q, ∃ (h : q < (s :: t).length), r = (1 + i * 5 + ((p + q : Nat) : Int), (s :: t)[q]) ∧ (s :: t)[q] ≠ 0 := fun h => by
      obtain ⟨q, hq, e, hn⟩ := rfsN_mem h
      refine ⟨q + 1, by simpa using hq, ?_, by simpa using hn⟩
      rw [e, show p + 1 + q = p + (q + 1) by omega]
      simp
    rw [rfsN] at h
    by_cases hs : s = 0
    · rw [if_pos hs] at h
      exact key h
    · rw [if_neg hs] at h
      rcases List.mem_cons.1 h with rfl | h
      · exact ⟨0, by simp, by simp, by simpa using hs⟩
      · exact key h
/-- They rise. -/
theorem rfsN_rise {i : Int} : ∀ {l : List Int} {p : Nat}, (rfsN i p l).Pairwise fun a b => a.1 < b.1
  | [], p => .nil
  | s :: t, p => by
    rw [rfsN]
    by_cases hs : s = 0
    · rw [if_pos hs]; exact rfsN_rise
    · rw [if_neg hs]
      refine .cons (fun r hr => ?_) rfsN_rise
      obtain ⟨q, hq, e, _⟩ := rfsN_mem hr
      rw [e]
      show 1 + i * 5 + (p : Int) < 1 + i * 5 + ((p + 1 + q : Nat) : Int)
      omega
def refsN (i : Int) (n : Nd) : List (Int × Int) := if n.k = 1 ∧ mayNd n = true ∧ 0 ≤ i ∧ i < 12 then rfsN i 0 n.sq else []
theorem refsN_len {i : Int} {n : Nd} (h : 0 ≤ i ∧ i < 12) : (refsN i n).length = pagesN n := by
  unfold refsN pagesN
  by_cases hk : n.k = 1 ∧ mayNd n = true
  · rw [if_pos ⟨hk.1, hk.2, h.1, h.2⟩, if_pos hk, rfsN_len]
  · rw [if_neg (fun e => hk ⟨e.1, e.2.1⟩), if_neg hk]; rfl
theorem refsN_far {i : Int} {n : Nd} (h : ¬ (0 ≤ i ∧ i < 12)) : refsN i n = [] := by
  unfold refsN
  rw [if_neg (fun e => h e.2.2)]
/-- Where they are: page and node of each, its number, and that it begins ahead of the end. -/
theorem refsN_mem {i : Int} {n : Nd} {r : Int × Int} (h : r ∈ refsN i n) : 0 ≤ i ∧ i < 12 ∧ n.sq.length = 5 ∧ ∃ q, ∃ (h : q < n.sq.length), r = (1 + i * 5 + (q : Int), n.sq[q]) ∧ n.sq[q] ≠ 0 ∧ (q : Int) * 16 < n.z := by
  unfold refsN at h
  split at h
  · next hh =>
    obtain ⟨hk, hm, h0, h1⟩ := hh
    rw [mayNd_file hk] at hm
    obtain ⟨_, _, _, _, h5, _, hq⟩ := mayFl_at hm
    obtain ⟨q, hl, e, hn⟩ := rfsN_mem h
    rw [Nat.zero_add] at e
    exact ⟨h0, h1, h5, q, hl, e, hn, (maySq_at (hq q hl)).2.2 hn⟩
  · cases h
theorem refsN_apart {i j : Int} {n m : Nd} {r s : Int × Int} (hr : r ∈ refsN i n) (hs : s ∈ refsN j m) (hij : i ≠ j) : r.1 ≠ s.1 := by
  obtain ⟨h0, h1, h5, q, hl, rfl, _⟩ := refsN_mem hr
  obtain ⟨k0, k1, k5, p, kl, rfl, _⟩ := refsN_mem hs
  show 1 + i * 5 + (q : Int) ≠ 1 + j * 5 + (p : Int)
  omega
def emptyN (k : Int) : Nd := if k = 1 then ⟨1, 1, 0, [0, 0, 0, 0, 0], []⟩ else if k = 2 then ⟨2, 1, 0, [], []⟩ else ⟨0, 0, 0, [], []⟩
theorem maySqs_set {z s : Int} {q : Nat} (h : q < 5) : maySqs z 0 ([0, 0, 0, 0, 0].set q s) = maySq z q s := by
  have h0 : ∀ p, maySq z p 0 = true := fun p => maySq_mk (by omega) (by omega) (fun e => absurd rfl e)
  rcases (by omega : q = 0 ∨ q = 1 ∨ q = 2 ∨ q = 3 ∨ q = 4) with rfl | rfl | rfl | rfl | rfl <;> simp [maySqs, h0]
/-- A file with one page, anywhere. -/
theorem may_bounds {z s l : Int} {q : Nat} (h : q < 5) : mayNd ⟨1, l, z, [0, 0, 0, 0, 0].set q s, []⟩ = (decide (0 ≤ z) && decide (z ≤ 80) && decide (0 ≤ l) && decide (l ≤ 120) && decide (0 ≤ s) && decide (s ≤ 1099511627776) && (decide (s = 0) || decide ((q : Int) * 16 < z))) := by
  rw [mayNd_file rfl, mayFl]
  simp only [maySqs_set h, List.length_set, maySq]
  generalize decide (0 ≤ z) = a
  generalize decide (z ≤ 80) = b
  generalize decide (0 ≤ l) = c
  generalize decide (l ≤ 120) = d
  generalize decide (0 ≤ s) = e
  generalize decide (s ≤ 1099511627776) = f
  generalize (decide (s = 0) || decide ((q : Int) * 16 < z)) = g
  cases a <;> cases b <;> cases c <;> cases d <;> cases e <;> cases f <;> rfl
theorem may_long {n : Nd} (h : 5 < n.sq.length) : mayNd n = false := by
  unfold mayNd mayFl
  have h0 : decide (n.sq.length = 0) = false := decide_eq_false (by omega)
  have h5 : decide (n.sq.length = 5) = false := decide_eq_false (by omega)
  rw [h0, h5]
  simp
theorem may_named {n : Nd} (hk : n.k = 1) (h : 0 < n.en.length) : mayNd n = false := by
  rw [mayNd_file hk, mayFl]
  have h0 : decide (n.en.length = 0) = false := decide_eq_false (by omega)
  rw [h0]
  simp
theorem may_kind {n : Nd} (h : n.k = 3) : mayNd n = false := by
  unfold mayNd
  rw [h]; rfl
/-- With a byte less at a page's beginning it may not be. -/
theorem may_less {n : Nd} {q : Nat} (hk : n.k = 1) (h : q < n.sq.length) (hn : n.sq[q] ≠ 0) : mayNd { n with z := (q : Int) * 16 } = false := by
  rw [mayNd_file (by exact hk), mayFl]
  have hf : maySqs ((q : Int) * 16) 0 n.sq = false := by
    refine maySqs_one h ?_
    cases e : maySq ((q : Int) * 16) q n.sq[q] with
    | false => rfl
    | true => exact absurd ((maySq_at e).2.2 hn) (by omega)
  show (decide (0 ≤ n.l) && (decide (n.l ≤ 120) && (decide (0 ≤ (q : Int) * 16) && (decide ((q : Int) * 16 ≤ 80) && (decide (n.sq.length = 5) && (decide (n.en.length = 0) && maySqs ((q : Int) * 16) 0 n.sq)))))) = false
  rw [hf]
  simp
theorem split_num {i : Int} {q : Nat} (hq : q < 5) : (1 + i * 5 + (q : Int) - 1) / 5 = i ∧ (1 + i * 5 + (q : Int) - 1) % 5 = q := by
  omega
theorem refsN_file {i : Int} {n : Nd} (hk : n.k = 1) (hm : mayNd n = true) (h0 : 0 ≤ i) (h1 : i < 12) : refsN i n = rfsN i 0 n.sq := by
  unfold refsN
  rw [if_pos ⟨hk, hm, h0, h1⟩]
def sameN (a b : Nd) : Bool := decide (a = b)
theorem sameN_eq (a b : Nd) : sameN a b = (decide (a.k = b.k) && (decide (a.l = b.l) && (decide (a.z = b.z) && (decide (a.sq = b.sq) && decide (a.en = b.en))))) := by
  unfold sameN
  obtain ⟨k, l, z, sq, en⟩ := a
  obtain ⟨k', l', z', sq', en'⟩ := b
  rw [Bool.eq_iff_iff]
  simp only [Bool.and_eq_true, decide_eq_true_eq, Nd.mk.injEq]
end Go.Proofs.Ytohiabkjbieflaa
