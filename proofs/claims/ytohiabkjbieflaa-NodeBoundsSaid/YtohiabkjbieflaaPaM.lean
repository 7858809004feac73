/- Paths as lists of bytes: which names may be, a text's pieces between slashes, joined again. -/
import Derived.Lib.SplitLaws
namespace Go.Proofs.Ytohiabkjbieflaa
open Go.Lib

def letB (b : UInt8) : Bool := decide (97 ≤ b.toNat ∧ b.toNat ≤ 122 ∨ 48 ≤ b.toNat ∧ b.toNat ≤ 57 ∨ b.toNat = 46 ∨ b.toNat = 95 ∨ b.toNat = 45)
def mayL (l : List UInt8) : Bool := decide (1 ≤ l.length ∧ l.length ≤ 8 ∧ l ≠ [46] ∧ l ≠ [46, 46]) && l.all letB

def pcs : List UInt8 → List (List UInt8)
  | [] => [[]]
  | b :: l => if b = 47 then [] :: pcs l else (b :: (pcs l).headD []) :: (pcs l).tail

theorem pcs_ne : ∀ l : List UInt8, pcs l ≠ []
  | [] => by simp [pcs]
  | b :: l => by unfold pcs; split <;> simp

theorem pcs_cons (b : UInt8) (l : List UInt8) (h : b ≠ 47) {p : List UInt8} {t : List (List UInt8)} (e : pcs l = p :: t) : pcs (b :: l) = (b :: p) :: t := by
  rw [pcs, if_neg h, e]
  rfl
theorem pcs_slash (l : List UInt8) : pcs (47 :: l) = [] :: pcs l := by rw [pcs, if_pos rfl]

def joinL (l : List (List UInt8)) : List UInt8 := l.flatMap fun n => 47 :: n

theorem joinL_nil : joinL [] = [] := rfl
theorem joinL_cons (a : List UInt8) (l : List (List UInt8)) : joinL (a :: l) = 47 :: a ++ joinL l := by simp [joinL]
theorem joinL_append (a b : List (List UInt8)) : joinL (a ++ b) = joinL a ++ joinL b := by simp [joinL]
theorem joinL_snoc (a : List (List UInt8)) (n : List UInt8) : joinL (a ++ [n]) = joinL a ++ 47 :: n := by simp [joinL]

theorem join_pcs : ∀ l : List UInt8, joinL (pcs l) = 47 :: l
  | [] => rfl
  | b :: l => by
    have ih := join_pcs l
    by_cases h : b = 47
    · subst h
      rw [pcs_slash, joinL_cons, ih]
      rfl
    · cases e : pcs l with
      | nil => exact absurd e (pcs_ne l)
      | cons p t =>
        rw [pcs_cons b l h e, joinL_cons]
        rw [e, joinL_cons] at ih
        simp only [List.cons_append, List.cons.injEq, true_and] at ih ⊢
        exact ih

theorem pcs_plain : ∀ n : List UInt8, 47 ∉ n → pcs n = [n]
  | [], _ => rfl
  | b :: l, h => by
    have hb : b ≠ 47 := fun e => h (by simp [e])
    exact pcs_cons b l hb (pcs_plain l (fun e => h (by simp [e])))

theorem pcs_append : ∀ (a n : List UInt8), 47 ∉ n → pcs (a ++ 47 :: n) = pcs a ++ [n]
  | [], n, h => by rw [List.nil_append, pcs_slash, pcs_plain n h]; rfl
  | b :: l, n, h => by
    have ih := pcs_append l n h
    by_cases hb : b = 47
    · subst hb
      rw [List.cons_append, pcs_slash, pcs_slash, ih]
      rfl
    · cases e : pcs l with
      | nil => exact absurd e (pcs_ne l)
      | cons p t =>
        rw [e] at ih
        rw [List.cons_append, pcs_cons b _ hb (show _ = p :: (t ++ [n]) from ih), pcs_cons b l hb e]
        rfl

theorem split_nil : split [] [47] = [[]] := by decide
theorem split_slash (l : List UInt8) : split (47 :: l) [47] = [] :: split l [47] := by
  have hix : index (47 :: l) [47] = ((0 : Nat) : Int) := by rw [index]; simp [List.isPrefixOf]
  unfold split
  rw [count_cons_eq, Nat.add_comm]
  rw [splitK, hix]
  simp
theorem split_other (b : UInt8) (l : List UInt8) (h : b ≠ 47) {p : List UInt8} {t : List (List UInt8)} (e : split l [47] = p :: t) : split (b :: l) [47] = (b :: p) :: t := by
  have hp : ([47] : List UInt8).isPrefixOf (b :: l) = false := by simp [List.isPrefixOf, Ne.symm h]
  have hix : index (b :: l) [47] = if index l [47] == -1 then -1 else index l [47] + 1 := by rw [index, hp]; simp
  unfold split at e ⊢
  rw [count_cons_ne b 47 l h]
  cases hc : count l [47] with
  | zero =>
    rw [hc, splitK] at e
    rw [splitK]
    cases e
    rfl
  | succ k =>
    rw [hc, splitK] at e
    rw [splitK, hix]
    by_cases hm : index l [47] = -1
    · rw [count_miss hm] at hc; cases hc
    · have hge := index_ge l [47]
      obtain ⟨j, hj⟩ : ∃ j : Nat, index l [47] = j := ⟨(index l [47]).toNat, by omega⟩
      have n1 : ¬ (((j : Nat) : Int) == -1) = true := fun x => by have := beq_iff_eq.1 x; omega
      have n2 : ¬ (((j : Nat) : Int) + 1 == -1) = true := fun x => by have := beq_iff_eq.1 x; omega
      rw [hj, if_neg n1] at e
      rw [hj, if_neg n1, if_neg n2]
      have e1 : (((j : Nat) : Int) + 1).toNat = j + 1 := by omega
      have e2 : ((j : Nat) : Int).toNat = j := by omega
      rw [e2] at e
      rw [e1]
      simp only [Nat.add_zero, List.length_cons, List.length_nil, Nat.zero_add, List.take_succ_cons, List.drop_succ_cons] at e ⊢
      cases e
      rfl

theorem split_pcs : ∀ l : List UInt8, split l [47] = pcs l
  | [] => split_nil
  | b :: l => by
    have ih := split_pcs l
    by_cases h : b = 47
    · subst h
      rw [split_slash, pcs_slash, ih]
    · cases e : pcs l with
      | nil => exact absurd e (pcs_ne l)
      | cons p t => rw [pcs_cons b l h e, split_other b l h (ih.trans e)]

/-- A path's names, if it is one. -/
def splitL (s : List UInt8) : Option (List (List UInt8)) :=
  if 60 < s.length ∨ s.head? ≠ some 47 then none else if s = [47] then some [] else if (pcs s.tail).all mayL then some (pcs s.tail) else none
/-- Names' path (nothing: it is none). -/
def joinP (l : List (List UInt8)) : List UInt8 := if l = [] then [47] else if l.all mayL ∧ (joinL l).length ≤ 60 then joinL l else []

theorem splitL_some {s : List UInt8} {l : List (List UInt8)} (h : splitL s = some l) : s.length ≤ 60 ∧ (s = [47] ∧ l = [] ∨ ∃ t, s = 47 :: t ∧ t ≠ [] ∧ l = pcs t ∧ l.all mayL = true) := by
  unfold splitL at h
  split at h
  · cases h
  · rename_i h0
    have h1 : s.length ≤ 60 := by omega
    have h2 : s.head? = some 47 := by
      by_cases e : s.head? = some 47
      · exact e
      · exact absurd (.inr e) h0
    refine ⟨h1, ?_⟩
    split at h
    · rename_i e
      cases h
      exact .inl ⟨e, rfl⟩
    · rename_i e
      split at h
      · rename_i ha
        cases h
        cases s with
        | nil => cases h2
        | cons b t =>
          cases h2
          exact .inr ⟨t, rfl, fun e2 => e (by rw [e2]), rfl, ha⟩
      · cases h
theorem splitL_all {s : List UInt8} {l : List (List UInt8)} (h : splitL s = some l) : l.all mayL = true := by
  obtain ⟨_, ⟨_, rfl⟩ | ⟨t, _, _, _, ha⟩⟩ := splitL_some h
  · rfl
  · exact ha
theorem joinP_split {s : List UInt8} {l : List (List UInt8)} (h : splitL s = some l) : joinP l = s := by
  obtain ⟨hn, ⟨rfl, rfl⟩ | ⟨t, rfl, _, rfl, ha⟩⟩ := splitL_some h
  · rfl
  · unfold joinP
    rw [if_neg (pcs_ne t), join_pcs, if_pos ⟨ha, hn⟩]

theorem mayL_noslash {n : List UInt8} (h : mayL n = true) : 47 ∉ n := fun hm => by
  unfold mayL at h
  rw [Bool.and_eq_true] at h
  have := List.all_eq_true.1 h.2 47 hm
  revert this
  decide
theorem mayL_ne {n : List UInt8} (h : mayL n = true) : n ≠ [] := fun e => by
  subst e
  revert h
  decide
/-- The path with a name more. -/
def longer (s n : List UInt8) : List UInt8 := if s = [47] then 47 :: n else s ++ 47 :: n
theorem longer_some {s n : List UInt8} {l : List (List UInt8)} (h : splitL s = some l) (hn : mayL n = true) (hl : (longer s n).length ≤ 60) : splitL (longer s n) = some (l ++ [n]) := by
  have hs := mayL_noslash hn
  have hne := mayL_ne hn
  obtain ⟨_, ⟨rfl, rfl⟩ | ⟨t, rfl, ht, rfl, ha⟩⟩ := splitL_some h
  · rw [longer, if_pos rfl] at hl ⊢
    unfold splitL
    rw [if_neg (by simp at hl ⊢; omega), if_neg (by simp [hne]), List.tail_cons, pcs_plain n hs, if_pos (by simp [hn])]
    rfl
  · have e0 : (47 :: t) ≠ [47] := by simpa using ht
    rw [longer, if_neg e0] at hl ⊢
    unfold splitL
    rw [if_neg (by simp at hl ⊢; omega), if_neg (by simp), List.cons_append, List.tail_cons, pcs_append t n hs, if_pos (by rw [List.all_append, ha]; simp [hn])]
theorem splitL_long {s : List UInt8} (h : 60 < s.length) : splitL s = none := by
  unfold splitL
  rw [if_pos (.inl h)]
theorem longer_none {s n : List UInt8} (hs : s = [] ∨ (∃ l, splitL s = some l)) (h0 : 47 ∉ n) (hn : mayL n = false) (h1 : n ≠ []) : splitL (longer s n) = none := by
  by_cases hl : 60 < (longer s n).length
  · exact splitL_long hl
  · rcases hs with rfl | ⟨l, hs⟩
    · rw [longer, if_neg (by simp)] at hl ⊢
      unfold splitL
      rw [if_neg (by simp at hl ⊢; omega), if_neg (by simp [h1]), List.nil_append, List.tail_cons, pcs_plain n h0, if_neg (by simp [hn])]
    · obtain ⟨_, ⟨rfl, rfl⟩ | ⟨t, rfl, ht, rfl, ha⟩⟩ := splitL_some hs
      · rw [longer, if_pos rfl] at hl ⊢
        unfold splitL
        rw [if_neg (by simp at hl ⊢; omega), if_neg (by simp [h1]), List.tail_cons, pcs_plain n h0, if_neg (by simp [hn])]
      · have e0 : (47 :: t) ≠ [47] := by simpa using ht
        rw [longer, if_neg e0] at hl ⊢
        unfold splitL
        rw [if_neg (by simp at hl ⊢; omega), if_neg (by simp), List.cons_append, List.tail_cons, pcs_append t n h0, if_neg (by simp [hn])]
theorem joinP_nil : joinP [] = [47] := rfl
theorem joinP_snoc {l : List (List UInt8)} {n : List UInt8} : (joinL (l ++ [n])).length = (joinL l).length + 1 + n.length := by
  rw [joinL_snoc, List.length_append, List.length_cons]
  omega
end Go.Proofs.Ytohiabkjbieflaa
