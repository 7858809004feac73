/- Contracts of the packages below: WearMath, WearMath2, WearRef, WearBuck, WLeast, TWhere, WearMath3, WearLook, WearLook2, WearLand. -/
import Derived.WalkKit
import Derived.WalkSpells
import Derived.WalkLawsBesides
import Derived.IntWalk
import Derived.Lib.Hide
import Derived.Outline
import Derived.Deep.QuietTactic
import Derived.BigQuiet
import Derived.Below
import Derived.Test.YtnadcdgpfopcaaaGreatProg
import Derived.Lib.AppendZeros
import Derived.Maps.AppendAt
import Derived.Laws.Rows
import Derived.Deep.OwnRows
import Derived.Maps.OwnSet
import Derived.Maps.RangeWalk
import Derived.Sort.KeysCollected
import Derived.Carry
import Derived.RangeFuncNested
import Derived.RangeFuncBound
import Derived.RangeFuncCalls
import Derived.RangeFuncLeaves
import Derived.Shelf.Abstract
import Derived.Shelf.RegionOpen
import Derived.OwnWalkIn
import Derived.TacticsInMore
import Derived.LoopNIn
import Derived.LoopIn
import Derived.Maps.OwnIn
import Derived.Test.YtnadcdgpfopcaaaGreatGc
import Derived.Test.YtnadcdgpfopcaaaGreatGp
namespace Go.Proofs.YtnadcdgpfopcaaaGreat

/-- The lowest and the greatest of those that are looked at. -/
def endsStep (o : Option (Int × Int)) (p : Int × Bool) : Option (Int × Int) :=
  if p.2 = true then some (match o with | none => (p.1, p.1) | some q => (min q.1 p.1, max q.2 p.1)) else o
def endsP (zs : List (Int × Bool)) : Option (Int × Int) := zs.foldl endsStep none
theorem endsP_snoc (zs : List (Int × Bool)) (p : Int × Bool) : endsP (zs ++ [p]) = endsStep (endsP zs) p := by simp [endsP]
def loP (zs : List (Int × Bool)) : Int := ((endsP zs).map (·.1)).getD 0
def hiP (zs : List (Int × Bool)) : Int := ((endsP zs).map (·.2)).getD 0
/-- What says which they are. -/
def EndsOf (zs : List (Int × Bool)) (lo hi : Int) : Prop := (lo, true) ∈ zs ∧ (hi, true) ∈ zs ∧ ∀ x, (x, true) ∈ zs → lo ≤ x ∧ x ≤ hi
theorem EndsOf.uniq {zs : List (Int × Bool)} {lo hi lo' hi' : Int} (h : EndsOf zs lo hi) (h' : EndsOf zs lo' hi') : lo = lo' ∧ hi = hi' := by
  have h1 := h.2.2 lo' h'.1
  have h2 := h'.2.2 lo h.1
  have h3 := h.2.2 hi' h'.2.1
  have h4 := h'.2.2 hi h.2.1
  omega
theorem ends_fold (zs : List (Int × Bool)) : ((∀ x, (x, true) ∉ zs) ∧ endsP zs = none) ∨ ∃ lo hi, endsP zs = some (lo, hi) ∧ EndsOf zs lo hi := by
  suffices h : ∀ zs : List (Int × Bool), ((∀ x, (x, true) ∉ zs.reverse) ∧ endsP zs.reverse = none) ∨ ∃ lo hi, endsP zs.reverse = some (lo, hi) ∧ EndsOf zs.reverse lo hi by
    have := h zs.reverse
    rwa [List.reverse_reverse] at this
  intro zs
  induction zs with
  | nil => exact .inl ⟨by simp, rfl⟩
  | cons p r ih =>
    obtain ⟨n, b⟩ := p
    rw [List.reverse_cons, endsP_snoc]
    cases b with
    | false =>
      rcases ih with ⟨h1, h2⟩ | ⟨lo, hi, h1, h2, h3, h4⟩
      · exact .inl ⟨fun x hx => by simp at hx; exact h1 x (by simpa using hx), by rw [h2]; rfl⟩
      · exact .inr ⟨lo, hi, by rw [h1]; rfl, by simpa using h2, by simpa using h3, fun x hx => h4 x (by simpa using hx)⟩
    | true =>
      rcases ih with ⟨h1, h2⟩ | ⟨lo, hi, h1, h2, h3, h4⟩
      · refine .inr ⟨n, n, by rw [h2]; rfl, by simp, by simp, fun x hx => ?_⟩
        rcases List.mem_append.1 hx with hx | hx
        · exact absurd hx (h1 x)
        · simp at hx; omega
      · refine .inr ⟨min lo n, max hi n, by rw [h1]; rfl, ?_, ?_, fun x hx => ?_⟩
        · rcases Int.le_total lo n with h | h
          · rw [Int.min_eq_left h]; exact List.mem_append.2 (.inl h2)
          · rw [Int.min_eq_right h]; simp
        · rcases Int.le_total hi n with h | h
          · rw [Int.max_eq_right h]; simp
          · rw [Int.max_eq_left h]; exact List.mem_append.2 (.inl h3)
        · rcases List.mem_append.1 hx with hx | hx
          · have := h4 x hx; omega
          · simp at hx; omega
theorem ends_of {zs : List (Int × Bool)} {lo hi : Int} (h : EndsOf zs lo hi) : loP zs = lo ∧ hiP zs = hi := by
  unfold loP hiP
  rcases ends_fold zs with ⟨h1, h2⟩ | ⟨lo', hi', h1, h2⟩
  · exact absurd h.1 (h1 lo)
  · rw [h1]; exact h2.uniq h
theorem ends_none {zs : List (Int × Bool)} (h : ∀ x, (x, true) ∉ zs) : loP zs = 0 ∧ hiP zs = 0 := by
  unfold loP hiP
  rcases ends_fold zs with ⟨h1, h2⟩ | ⟨lo', hi', h1, h2⟩
  · rw [h2]; exact ⟨rfl, rfl⟩
  · exact absurd h2.1 (h lo')
theorem ends_some {zs : List (Int × Bool)} {x : Int} (h : (x, true) ∈ zs) : EndsOf zs (loP zs) (hiP zs) := by
  rcases ends_fold zs with ⟨h1, h2⟩ | ⟨lo', hi', h1, h2⟩
  · exact absurd h (h1 x)
  · have := ends_of h2
    rw [this.1, this.2]; exact h2
theorem lo_le_hi (zs : List (Int × Bool)) : loP zs ≤ hiP zs := by
  rcases ends_fold zs with ⟨h1, h2⟩ | ⟨lo', hi', h1, h2⟩
  · have := ends_none h1; omega
  · have := ends_of h2
    have := h2.2.2 _ h2.1
    omega
/-- The same are looked at: the same ends. -/
theorem ends_same {zs zs' : List (Int × Bool)} (h : ∀ x, (x, true) ∈ zs ↔ (x, true) ∈ zs') : loP zs = loP zs' ∧ hiP zs = hiP zs' := by
  rcases ends_fold zs with ⟨h1, _⟩ | ⟨lo, hi, _, h2⟩
  · have e1 := ends_none h1
    have e2 := ends_none (zs := zs') fun x hx => h1 x ((h x).2 hx)
    omega
  · have e1 := ends_of h2
    have e2 := ends_of (zs := zs') (lo := lo) (hi := hi) ⟨(h lo).1 h2.1, (h hi).1 h2.2.1, fun x hx => h2.2.2 x ((h x).2 hx)⟩
    omega
/-- How far apart; what would go round is held. -/
def apartP (zs : List (Int × Bool)) : Int := if hiP zs - loP zs ≤ 9223372036854775807 then hiP zs - loP zs else 9223372036854775807
theorem apart_nonneg (zs : List (Int × Bool)) : 0 ≤ apartP zs := by
  have := lo_le_hi zs
  unfold apartP; split <;> omega
/-- The first place of n among those that are looked at, or -1. -/
def seekFrom (n : Int) : Nat → List (Int × Bool) → Int
  | _, [] => -1
  | k, p :: r => if p.2 = true ∧ p.1 = n then (k : Int) else seekFrom n (k + 1) r
def seekP (zs : List (Int × Bool)) (n : Int) : Int := seekFrom n 0 zs
theorem seekFrom_spec (n : Int) (zs : List (Int × Bool)) (k : Nat) : (seekFrom n k zs = -1 ∧ (n, true) ∉ zs) ∨ ∃ i, ∃ h : i < zs.length, seekFrom n k zs = ((k + i : Nat) : Int) ∧ zs[i] = (n, true) ∧ ∀ j (hj : j < i), zs[j]'(Nat.lt_trans hj h) ≠ (n, true) := by
  induction zs generalizing k with
  | nil => exact .inl ⟨rfl, by simp⟩
  | cons p r ih =>
    obtain ⟨x, b⟩ := p
    unfold seekFrom
    by_cases hp : b = true ∧ x = n
    · rw [if_pos hp]
      obtain ⟨rfl, rfl⟩ := hp
      exact .inr ⟨0, by simp, by simp, rfl, fun j hj => absurd hj (by omega)⟩
    · rw [if_neg hp]
      have hne : (x, b) ≠ (n, true) := fun e => hp ⟨congrArg Prod.snd e, congrArg Prod.fst e⟩
      rcases ih (k + 1) with ⟨h1, h2⟩ | ⟨i, hi, h1, h2, h3⟩
      · refine .inl ⟨h1, fun h => ?_⟩
        rcases List.mem_cons.1 h with h | h
        · exact hne h.symm
        · exact h2 h
      · refine .inr ⟨i + 1, by simp; omega, by rw [h1]; omega, by simpa using h2, fun j hj => ?_⟩
        cases j with
        | zero => exact hne
        | succ j => simpa using h3 j (by omega)
theorem seek_spec (zs : List (Int × Bool)) (n : Int) : (seekP zs n = -1 ∧ (n, true) ∉ zs) ∨ ∃ i, ∃ h : i < zs.length, seekP zs n = (i : Int) ∧ zs[i] = (n, true) ∧ ∀ j (hj : j < i), zs[j]'(Nat.lt_trans hj h) ≠ (n, true) := by
  have := seekFrom_spec n zs 0
  simpa [seekP] using this
theorem seekFrom_snoc (n : Int) (zs : List (Int × Bool)) (k : Nat) (p : Int × Bool) : seekFrom n k (zs ++ [p]) = if seekFrom n k zs = -1 then (if p.2 = true ∧ p.1 = n then ((k + zs.length : Nat) : Int) else -1) else seekFrom n k zs := by
  induction zs generalizing k with
  | nil => simp [seekFrom]
  | cons q r ih =>
    simp only [List.cons_append, seekFrom]
    split
    · rw [if_neg (by omega)]
    · rw [ih (k + 1), List.length_cons, show k + 1 + r.length = k + (r.length + 1) by omega]
def coldP (zs : List (Int × Bool)) : Int := seekP zs (loP zs)
def hotP (zs : List (Int × Bool)) : Int := seekP zs (hiP zs)
def dueP (zs : List (Int × Bool)) (most : Int) : Int := if apartP zs ≤ most then -1 else coldP zs
theorem cold_none {zs : List (Int × Bool)} (h : ∀ x, (x, true) ∉ zs) : coldP zs = -1 := by
  rcases seek_spec zs (loP zs) with ⟨h1, _⟩ | ⟨i, hi, _, h2, _⟩
  · exact h1
  · exact absurd (h2 ▸ List.getElem_mem hi) (h _)
theorem cold_some {zs : List (Int × Bool)} {x : Int} (h : (x, true) ∈ zs) : ∃ i, ∃ hi : i < zs.length, coldP zs = (i : Int) ∧ zs[i] = (loP zs, true) := by
  rcases seek_spec zs (loP zs) with ⟨_, h2⟩ | ⟨i, hi, h1, h2, _⟩
  · exact absurd (ends_some h).1 h2
  · exact ⟨i, hi, h1, h2⟩
/-- How many have a count. -/
def countP' (zs : List (Int × Bool)) (n : Int) : Nat := zs.countP fun p => p.2 && p.1 == n
def bucketsP (zs : List (Int × Bool)) : List Int :=
  if coldP zs < 0 ∨ 1000 < apartP zs then [] else (List.range (apartP zs + 1).toNat).map fun (k : Nat) => ((countP' zs (loP zs + (k : Int)) : Nat) : Int)
/-- Those that are looked at: how many. -/
def lookedN (zs : List (Int × Bool)) : Nat := zs.countP (·.2)
theorem sum_range_ite (a : Int) (n : Nat) (x : Int) : ((List.range n).map fun (k : Nat) => if a + (k : Int) = x then (1 : Int) else 0).sum = if a ≤ x ∧ x < a + n then 1 else 0 := by
  induction n with
  | zero => rw [if_neg (by omega)]; rfl
  | succ n ih =>
    rw [List.range_succ, List.map_append, List.sum_append, ih]
    simp only [List.map_cons, List.map_nil, List.sum_cons, List.sum_nil]
    by_cases h1 : a + (n : Int) = x
    · rw [if_neg (by omega), if_pos h1, if_pos (by omega)]; rfl
    · by_cases h2 : a ≤ x ∧ x < a + n
      · rw [if_pos h2, if_neg h1, if_pos (by omega)]; rfl
      · rw [if_neg h2, if_neg h1, if_neg (by omega)]; rfl
theorem sum_counts (zs : List (Int × Bool)) (a : Int) (n : Nat) (h : ∀ x, (x, true) ∈ zs → a ≤ x ∧ x < a + n) : ((List.range n).map fun (k : Nat) => ((countP' zs (a + (k : Int)) : Nat) : Int)).sum = (lookedN zs : Int) := by
  induction zs with
  | nil =>
    have : ∀ m : Nat, ((List.range m).map fun (k : Nat) => ((countP' [] (a + (k : Int)) : Nat) : Int)).sum = 0 := by
      intro m
      induction m with
      | zero => rfl
      | succ m ih => rw [List.range_succ, List.map_append, List.sum_append, ih]; rfl
    exact this n
  | cons p r ih =>
    obtain ⟨x, b⟩ := p
    have ih := ih fun y hy => h y (List.mem_cons_of_mem _ hy)
    cases b with
    | false =>
      have e : ∀ m, countP' ((x, false) :: r) m = countP' r m := fun m => by simp [countP']
      simp only [e]
      rw [ih]; simp [lookedN]
    | true =>
      have hx := h x (List.mem_cons_self ..)
      have e : ∀ m : Int, ((countP' ((x, true) :: r) m : Nat) : Int) = ((countP' r m : Nat) : Int) + if m = x then 1 else 0 := fun m => by
        unfold countP'
        rw [List.countP_cons]
        by_cases hm : m = x
        · simp [hm]
        · have : ¬ x = m := fun e => hm e.symm
          simp [hm, this]
      simp only [e]
      have hs : ∀ (f g : Nat → Int) (m : Nat), ((List.range m).map fun k => f k + g k).sum = ((List.range m).map f).sum + ((List.range m).map g).sum := by
        intro f g m
        induction m with
        | zero => rfl
        | succ m ih => rw [List.range_succ, List.map_append, List.map_append, List.map_append, List.sum_append, List.sum_append, List.sum_append, ih]; simp; omega
      rw [hs, ih, sum_range_ite, if_pos hx]
      simp [lookedN]
end Go.Proofs.YtnadcdgpfopcaaaGreat

namespace Go.Proofs.YtnadcdgpfopcaaaGreat

theorem mem_set {zs : List (Int × Bool)} {i : Nat} {x : Int} (hi : i < zs.length) (hx : zs[i] = (x, true)) (v : Int) :
    ((v, true) ∈ zs.set i (v, true)) ∧ (∀ y, (y, true) ∈ zs.set i (v, true) → y = v ∨ (y, true) ∈ zs) ∧ (∀ y, (y, true) ∈ zs → (y, true) ∈ zs.set i (v, true) ∨ y = x) := by
  refine ⟨List.mem_set hi _, fun y hy => ?_, fun y hy => ?_⟩
  · rcases List.mem_or_eq_of_mem_set hy with h | h
    · exact .inr h
    · exact .inl (congrArg Prod.fst h)
  · obtain ⟨j, hj, e⟩ := List.getElem_of_mem hy
    by_cases hij : i = j
    · subst hij
      rw [hx] at e
      exact .inr (congrArg Prod.fst e).symm
    · refine .inl ?_
      have h2 : (zs.set i (v, true))[j]'(by simpa using hj) = (y, true) := by rw [List.getElem_set_ne hij]; exact e
      exact h2 ▸ List.getElem_mem _
theorem mem_of_at {zs : List (Int × Bool)} {i : Nat} {x : Int} (hi : i < zs.length) (hx : zs[i] = (x, true)) : (x, true) ∈ zs := hx ▸ List.getElem_mem hi
/-- One more erase of one that is looked at. -/
theorem raise_any {zs : List (Int × Bool)} {i : Nat} {x : Int} (hi : i < zs.length) (hx : zs[i] = (x, true)) :
    loP zs ≤ loP (zs.set i (x + 1, true)) ∧ loP (zs.set i (x + 1, true)) ≤ loP zs + 1 ∧ hiP zs ≤ hiP (zs.set i (x + 1, true)) ∧ hiP (zs.set i (x + 1, true)) ≤ hiP zs + 1 := by
  obtain ⟨m1, m2, m3⟩ := mem_set hi hx (x + 1)
  obtain ⟨a1, a2, a3⟩ := ends_some (mem_of_at hi hx)
  obtain ⟨b1, b2, b3⟩ := ends_some m1
  have hxb := a3 x (mem_of_at hi hx)
  have hxc := b3 (x + 1) m1
  refine ⟨?_, ?_, ?_, ?_⟩
  · rcases m2 _ b1 with h | h
    · omega
    · exact (a3 _ h).1
  · rcases m3 _ a1 with h | h
    · have := (b3 _ h).1; omega
    · omega
  · rcases m3 _ a2 with h | h
    · exact (b3 _ h).2
    · omega
  · rcases m2 _ b2 with h | h
    · omega
    · have := (a3 _ h).2; omega
/-- The coldest is raised. -/
theorem raise_cold {zs : List (Int × Bool)} {i : Nat} {x : Int} (hi : i < zs.length) (hx : zs[i] = (x, true)) (hlt : x < hiP zs) : hiP (zs.set i (x + 1, true)) = hiP zs := by
  obtain ⟨m1, m2, m3⟩ := mem_set hi hx (x + 1)
  obtain ⟨a1, a2, a3⟩ := ends_some (mem_of_at hi hx)
  obtain ⟨b1, b2, b3⟩ := ends_some m1
  have h1 : hiP zs ≤ hiP (zs.set i (x + 1, true)) := by
    rcases m3 _ a2 with h | h
    · exact (b3 _ h).2
    · omega
  have h2 : hiP (zs.set i (x + 1, true)) ≤ hiP zs := by
    rcases m2 _ b2 with h | h
    · omega
    · exact (a3 _ h).2
  omega
/-- How far all that are looked at are from 39, together. -/
def roomL (zs : List (Int × Bool)) : Nat := (zs.map fun p => if p.2 = true then (39 - p.1).toNat else 0).sum
theorem roomL_set (zs : List (Int × Bool)) (i : Nat) (x : Int) (hi : i < zs.length) (hx : zs[i] = (x, true)) (h : x < 39) : roomL (zs.set i (x + 1, true)) + 1 = roomL zs := by
  induction zs generalizing i with
  | nil => simp at hi
  | cons p r ih =>
    cases i with
    | zero =>
      obtain rfl : p = (x, true) := hx
      simp [roomL]
      omega
    | succ i =>
      have := ih i (by simpa using hi) (by simpa using hx)
      simp only [roomL, List.set_cons_succ, List.map_cons, List.sum_cons] at this ⊢
      omega
theorem roomL_le (zs : List (Int × Bool)) (h : ∀ x, (x, true) ∈ zs → 0 ≤ x) : roomL zs ≤ zs.length * 39 := by
  induction zs with
  | nil => exact Nat.le_refl _
  | cons p r ih =>
    have h1 := ih fun x hx => h x (List.mem_cons_of_mem _ hx)
    have h2 : (if p.2 = true then (39 - p.1).toNat else 0) ≤ 39 := by
      split
      · next hp =>
        have := h p.1 (by rw [show (p.1, true) = p from Prod.ext rfl hp.symm]; exact List.mem_cons_self ..)
        omega
      · omega
    simp only [roomL, List.map_cons, List.sum_cons, List.length_cons] at h1 ⊢
    omega
theorem apart_small {zs : List (Int × Bool)} (h : hiP zs - loP zs ≤ 100000) : apartP zs = hiP zs - loP zs := if_pos (by omega)
/-- What Due tells, where counts are small. -/
theorem due_cases (zs : List (Int × Bool)) (most : Int) (hm : 0 ≤ most) (h : hiP zs - loP zs ≤ 100000) :
    (dueP zs most = -1 ∧ apartP zs ≤ most) ∨ ∃ i, ∃ hi : i < zs.length, dueP zs most = (i : Int) ∧ zs[i] = (loP zs, true) ∧ most < hiP zs - loP zs := by
  unfold dueP
  by_cases ha : apartP zs ≤ most
  · exact .inl ⟨if_pos ha, ha⟩
  · rw [if_neg ha]
    rw [apart_small h] at ha
    have hne : ∃ x, (x, true) ∈ zs := by
      rcases ends_fold zs with ⟨h1, _⟩ | ⟨lo, hi, _, h2⟩
      · have := ends_none h1; omega
      · exact ⟨lo, h2.1⟩
    obtain ⟨x, hx⟩ := hne
    obtain ⟨i, hi, h1, h2⟩ := cold_some hx
    exact .inr ⟨i, hi, h1, h2, by omega⟩
/-- How many have a count, behind a raise. -/
theorem count_set (zs : List (Int × Bool)) (i : Nat) (x : Int) (hi : i < zs.length) (hx : zs[i] = (x, true)) (m : Int) :
    ((countP' (zs.set i (x + 1, true)) m : Nat) : Int) = ((countP' zs m : Nat) : Int) - (if m = x then 1 else 0) + (if m = x + 1 then 1 else 0) := by
  induction zs generalizing i with
  | nil => simp at hi
  | cons p r ih =>
    cases i with
    | zero =>
      obtain rfl : p = (x, true) := hx
      simp only [List.set_cons_zero, countP', List.countP_cons, Bool.true_and]
      by_cases h1 : m = x
      · subst h1
        have a1 : ¬ m + 1 = m := by omega
        have a2 : ¬ m = m + 1 := by omega
        simp [a1, a2]
      · by_cases h2 : m = x + 1
        · subst h2
          have a2 : ¬ x = x + 1 := by omega
          simp [h1, a2]
        · have h3 : ¬ x = m := fun e => h1 e.symm
          have h4 : ¬ x + 1 = m := fun e => h2 e.symm
          simp [h1, h2, h3, h4]
    | succ i =>
      have := ih i (by simpa using hi) (by simpa using hx)
      simp only [List.set_cons_succ, countP', List.countP_cons] at this ⊢
      omega
theorem count_mem {zs : List (Int × Bool)} {m : Int} : 0 < countP' zs m ↔ (m, true) ∈ zs := by
  unfold countP'
  rw [List.countP_pos_iff]
  constructor
  · rintro ⟨⟨x, b⟩, hx, h⟩
    simp only [Bool.and_eq_true, beq_iff_eq] at h
    obtain ⟨rfl, rfl⟩ := h
    exact hx
  · exact fun h => ⟨_, h, by simp⟩
/-- One that is neither the greatest nor the only lowest is raised: the ends stay. -/
theorem raise_mid {zs : List (Int × Bool)} {i : Nat} {x : Int} (hi : i < zs.length) (hx : zs[i] = (x, true)) (h1 : x ≠ hiP zs) (h2 : ¬ (x = loP zs ∧ countP' zs (loP zs) = 1)) :
    loP (zs.set i (x + 1, true)) = loP zs ∧ hiP (zs.set i (x + 1, true)) = hiP zs := by
  obtain ⟨a1, a2, a3⟩ := ends_some (mem_of_at hi hx)
  have hxb := a3 x (mem_of_at hi hx)
  have r := raise_any hi hx
  refine ⟨?_, raise_cold hi hx (by omega)⟩
  obtain ⟨m1, m2, m3⟩ := mem_set hi hx (x + 1)
  have hm : (loP zs, true) ∈ zs.set i (x + 1, true) := by
    rw [← count_mem]
    have := count_set zs i x hi hx (loP zs)
    have hc := count_mem.2 a1
    by_cases hxl : x = loP zs
    · have h3 : countP' zs (loP zs) ≠ 1 := fun h => h2 ⟨hxl, h⟩
      rw [if_pos hxl.symm, if_neg (by omega)] at this
      omega
    · rw [if_neg (fun e => hxl e.symm)] at this
      split at this <;> omega
  have := ((ends_some m1).2.2 _ hm).1
  omega
/-- The same but where nobody looks. -/
def Alike : List (Int × Bool) → List (Int × Bool) → Prop
  | [], [] => True
  | p :: r, q :: s => p.2 = q.2 ∧ (p.2 = true → p.1 = q.1) ∧ Alike r s
  | _, _ => False
theorem Alike.mem : ∀ {zs zs' : List (Int × Bool)}, Alike zs zs' → ∀ x, (x, true) ∈ zs ↔ (x, true) ∈ zs'
  | [], [], _, _ => Iff.rfl
  | [], _ :: _, h, _ => h.elim
  | _ :: _, [], h, _ => h.elim
  | (a, b) :: r, (c, d) :: s, h, x => by
    obtain ⟨h1, h2, h3⟩ := h
    obtain rfl : b = d := h1
    rw [List.mem_cons, List.mem_cons, Alike.mem h3 x]
    cases b with
    | false => simp
    | true =>
      obtain rfl : a = c := h2 rfl
      exact Iff.rfl
theorem Alike.seek (n : Int) : ∀ {zs zs' : List (Int × Bool)} (k : Nat), Alike zs zs' → seekFrom n k zs = seekFrom n k zs'
  | [], [], _, _ => rfl
  | [], _ :: _, _, h => h.elim
  | _ :: _, [], _, h => h.elim
  | (a, b) :: r, (c, d) :: s, k, h => by
    obtain ⟨h1, h2, h3⟩ := h
    obtain rfl : b = d := h1
    unfold seekFrom
    rw [Alike.seek n (k + 1) h3]
    cases b with
    | false => simp
    | true =>
      obtain rfl : a = c := h2 rfl
      rfl
theorem Alike.all {zs zs' : List (Int × Bool)} (h : Alike zs zs') : loP zs = loP zs' ∧ hiP zs = hiP zs' ∧ apartP zs = apartP zs' ∧ coldP zs = coldP zs' ∧ ∀ most, dueP zs most = dueP zs' most := by
  obtain ⟨e1, e2⟩ := ends_same h.mem
  have e3 : apartP zs = apartP zs' := by unfold apartP; rw [e1, e2]
  have e4 : coldP zs = coldP zs' := by unfold coldP seekP; rw [e1, Alike.seek _ 0 h]
  exact ⟨e1, e2, e3, e4, fun most => by unfold dueP; rw [e3, e4]⟩
theorem alike_zip : ∀ (l m : List Int) (b : List Bool), l.length = m.length → (∀ i (h : i < l.length) (h' : i < m.length) (hb : i < b.length), b[i] = true → l[i] = m[i]) → Alike (l.zip b) (m.zip b)
  | [], [], _, _, _ => by simp [Alike]
  | [], _ :: _, _, h, _ => by simp at h
  | _ :: _, [], _, h, _ => by simp at h
  | _ :: _, _ :: _, [], _, _ => by simp [Alike]
  | x :: l, y :: m, b :: bs, h, hh => by
    refine ⟨rfl, fun hb => ?_, alike_zip l m bs (by simpa using h) fun i h1 h2 h3 hb => ?_⟩
    · exact hh 0 (by simp) (by simp) (by simp) hb
    · have := hh (i + 1) (by simpa using h1) (by simpa using h2) (by simpa using h3) (by simpa using hb)
      simpa using this
theorem zip_more : ∀ (l : List Int) (b : List Bool) (x : Int), (l ++ [x]).zip (b.take (min b.length l.length)) = l.zip b
  | [], b, x => by simp
  | _ :: _, [], _ => by simp
  | y :: l, c :: b, x => by
    have := zip_more l b x
    simp only [List.length_cons, List.cons_append]
    rw [show min (b.length + 1) (l.length + 1) = min b.length l.length + 1 by omega, List.take_succ_cons, List.zip_cons_cons, List.zip_cons_cons, this]
theorem zip_set (l : List Int) (b : List Bool) (i : Nat) (v : Int) (hb : i < b.length) : (l.set i v).zip b = (l.zip b).set i (v, b[i]) := by
  apply List.ext_getElem
  · simp
  · intro k h1 h2
    simp only [List.getElem_zip, List.getElem_set]
    by_cases hk : i = k
    · subst hk; simp
    · simp [hk]
theorem zip_set_out (l : List Int) (b : List Bool) (i : Nat) (v : Int) (hb : b.length ≤ i) : (l.set i v).zip b = l.zip b := by
  apply List.ext_getElem
  · simp
  · intro k h1 h2
    simp only [List.getElem_zip, List.getElem_set]
    rw [if_neg (by simp at h2; omega)]
/-- One that is not looked at is raised. -/
theorem alike_off (l : List Int) (b : List Bool) (i : Nat) (v : Int) (h : ∀ hb : i < b.length, b[i] = false) : Alike ((l.set i v).zip b) (l.zip b) := by
  refine alike_zip _ _ _ (by simp) fun k h1 h2 hb hk => ?_
  rw [List.getElem_set_ne]
  intro e
  subst e
  rw [h hb] at hk
  cases hk
theorem buck_len (zs : List (Int × Bool)) : (bucketsP zs).length ≤ 1001 := by
  unfold bucketsP
  split
  · exact Nat.zero_le _
  · simp; omega
end Go.Proofs.YtnadcdgpfopcaaaGreat

namespace Go.Proofs.YtnadcdgpfopcaaaGreat
open Go.RowKit

/-- At A of w this list lies. -/
def Arr {α : Type} (enc : α → Value) (w : World) (A : Option Addr) (l : List α) : Prop :=
  0 < l.length → ∃ B o, A = some ⟨B, o, none⟩ ∧ B < w.heap.size ∧ ∀ j (h : j < l.length), w.cell? ⟨B, o + j, none⟩ = some (enc l[j])
theorem Arr.below {α : Type} {enc : α → Value} {w w' : World} {A : Option Addr} {l : List α} (h : Arr enc w A l) (hb : Below w.heap.size w w') : Arr enc w' A l := fun hn => by
  obtain ⟨B, o, e, hB, hc⟩ := h hn
  exact ⟨B, o, e, Nat.lt_of_lt_of_le hB hb.size, fun j hj => (hb.cell (p := ⟨B, o + j, none⟩) hB).trans (hc j hj)⟩
abbrev IA := Arr (Value.int .i64)
abbrev BA := Arr Value.bool
theorem take_zip {l : List Int} {b : List Bool} {j : Nat} (h1 : j < l.length) (h2 : j < b.length) : (l.zip b).take (j + 1) = (l.zip b).take j ++ [(l[j], b[j])] := by
  rw [List.take_succ_eq_append_getElem (by simp; omega)]
  simp
theorem endsP_two (zs : List (Int × Bool)) (x : Int) (b : Bool) : endsP (zs ++ [(x, b)]) = if b = true then some (match endsP zs with | none => (x, x) | some q => (min q.1 x, max q.2 x)) else endsP zs := endsP_snoc zs (x, b)
theorem ends_range (l : List Int) (b : List Bool) (hw : ∀ x ∈ l, (Lit.int .i64 x).wf = true) : (-9223372036854775808 ≤ loP (l.zip b) ∧ loP (l.zip b) ≤ 9223372036854775807) ∧ -9223372036854775808 ≤ hiP (l.zip b) ∧ hiP (l.zip b) ≤ 9223372036854775807 := by
  rcases ends_fold (l.zip b) with ⟨h1, _⟩ | ⟨lo, hi, _, h2⟩
  · have := ends_none h1
    rw [this.1, this.2]; decide
  · have e := ends_of h2
    rw [e.1, e.2]
    exact ⟨wf_le (hw lo (List.of_mem_zip h2.1).1), wf_le (hw hi (List.of_mem_zip h2.2.1).1)⟩
theorem seekFrom_app (n : Int) (a c : List (Int × Bool)) (k : Nat) (h : seekFrom n k a ≠ -1) : seekFrom n k (a ++ c) = seekFrom n k a := by
  induction a generalizing k with
  | nil => exact absurd rfl h
  | cons p r ih =>
    simp only [List.cons_append, seekFrom] at h ⊢
    split
    · rfl
    · next hp => rw [if_neg hp] at h; exact ih (k + 1) h
theorem seek_found {zs : List (Int × Bool)} {n : Int} {j : Nat} (h : seekP (zs.take (j + 1)) n = (j : Int)) : seekP zs n = (j : Int) := by
  have := seekFrom_app n (zs.take (j + 1)) (zs.drop (j + 1)) 0 (by show seekP _ _ ≠ -1; rw [h]; omega)
  rw [List.take_append_drop] at this
  exact this.trans h
section
variable (A A' : Option Addr) (c c' : Nat) (l : List Int) (b : List Bool) (w : World) (hl : l.length ≤ 1000000) (hb : b.length ≤ 1000000) (hA : IA w A l) (hA' : BA w A' b)
include hl hb hA hA'
end
end Go.Proofs.YtnadcdgpfopcaaaGreat

namespace Go.Proofs.YtnadcdgpfopcaaaGreat
open Go.RowKit

/-- How many have each count, from lo on. -/
def cntL (zs : List (Int × Bool)) (lo : Int) (n : Nat) : List Int := (List.range n).map fun (k : Nat) => ((countP' zs (lo + (k : Int)) : Nat) : Int)
theorem cntL_length (zs : List (Int × Bool)) (lo : Int) (n : Nat) : (cntL zs lo n).length = n := by simp [cntL]
theorem cntL_get (zs : List (Int × Bool)) (lo : Int) (n k : Nat) (h : k < (cntL zs lo n).length) : (cntL zs lo n)[k] = ((countP' zs (lo + (k : Int)) : Nat) : Int) := by simp [cntL]
theorem countP'_snoc (zs : List (Int × Bool)) (x : Int) (y : Bool) (m : Int) : countP' (zs ++ [(x, y)]) m = countP' zs m + if y = true ∧ x = m then 1 else 0 := by
  unfold countP'
  rw [List.countP_append]
  congr 1
  cases y <;> by_cases h : x = m <;> simp [h]
theorem cntL_off (zs : List (Int × Bool)) (lo x : Int) (n : Nat) : cntL (zs ++ [(x, false)]) lo n = cntL zs lo n := by
  unfold cntL
  simp only [countP'_snoc]
  simp
theorem cntL_on (zs : List (Int × Bool)) (lo : Int) (n k : Nat) : cntL (zs ++ [(lo + (k : Int), true)]) lo n = (cntL zs lo n).set k (((countP' zs (lo + (k : Int)) : Nat) : Int) + 1) := by
  apply List.ext_getElem
  · simp [cntL]
  · intro i h1 h2
    rw [cntL_get, List.getElem_set, countP'_snoc]
    by_cases hi : k = i
    · subst hi; simp
    · rw [if_neg hi, cntL_get, if_neg (by omega)]; simp
theorem count_le (zs : List (Int × Bool)) (m : Int) : countP' zs m ≤ zs.length := List.countP_le_length
theorem cntL_zero (lo : Int) (n : Nat) : cntL [] lo n = List.replicate n 0 := by
  apply List.ext_getElem
  · simp [cntL]
  · intro i h1 h2
    rw [cntL_get]; simp [countP']
theorem info_int : (Tryz.prog.info? 3).map (fun i => (i.zero, i.size, i.bytes)) = some (some (.int .i64 0), 1, 8) := by kernel_rfl
theorem made_ints (n : Nat) : madeCells #[Value.int .i64 0] n = ((List.replicate n (0 : Int)).map (Value.int .i64)).toArray := by
  apply Array.ext
  · simp [madeCells]
  · intro i h1 h2
    simp [madeCells, Nat.mod_one]
theorem make_ints (n : Nat) (h : n ≤ 1000000) (w : World) : (Instr.makeSlice 24 (.int .i64 n) (.int .i64 n)).run Tryz.prog w = .ok (.slice (some ⟨w.heap.size, 0, none⟩) n n) (w.alloc (.cells (madeCells #[Value.int .i64 0] n) 3)) :=
  run_make_row' 24 3 (.int .i64 0) 8 Tryz.underlying24 info_int rfl .i64 .i64 n (by omega) (by omega) w
theorem in_range {zs : List (Int × Bool)} {x : Int} (hx : (x, true) ∈ zs) (h : apartP zs ≤ 1000) : ∃ k : Nat, x = loP zs + (k : Int) ∧ (k : Int) ≤ apartP zs := by
  have e := (ends_some hx).2.2 x hx
  have ha : apartP zs = hiP zs - loP zs := by
    unfold apartP at h ⊢
    split
    · rfl
    · next h1 => rw [if_neg h1] at h; omega
  exact ⟨(x - loP zs).toNat, by omega, by omega⟩
/-- What Buckets tells: a row of its own, or none. -/
def BuckPost (zs : List (Int × Bool)) (w : World) (e : Ending) (w' : World) : Prop :=
  ∃ A, e = .returned (.slice A (bucketsP zs).length (bucketsP zs).length) ∧ IA w' A (bucketsP zs) ∧ (∀ ad, A = some ad → w.heap.size ≤ ad.block) ∧ Below w.heap.size w w'
theorem row_cell {w : World} {g : Nat} {l : List Int} {t : TypeId} (h : w.heap[g]? = some (.cells (l.map (Value.int .i64)).toArray t (0, 0))) (k : Nat) (hk : k < l.length) : w.cell? ⟨g, k, none⟩ = some (.int .i64 l[k]) := by
  simp [World.cell?, h, hk]
theorem row_set {w : World} {g : Nat} {l : List Int} {t : TypeId} (h : w.heap[g]? = some (.cells (l.map (Value.int .i64)).toArray t (0, 0))) (k : Nat) (v : Int) : (w.setCell ⟨g, k, none⟩ (.int .i64 v)).heap[g]? = some (.cells ((l.set k v).map (Value.int .i64)).toArray t (0, 0)) := by
  rw [heap_setCell_same w g k _ t _ h]
  simp [List.map_set]
theorem row_frozen {w : World} {p : Nat} {cs : Array Value} {t : TypeId} (h : w.heap[p]? = some (.cells cs t (0, 0))) (j : Nat) : w.frozen? ⟨p, j, none⟩ = false := by
  simp [World.frozen?, h]
theorem row_arr {w : World} {g : Nat} {l : List Int} {t : TypeId} (h : w.heap[g]? = some (.cells (l.map (Value.int .i64)).toArray t (0, 0))) : IA w (some ⟨g, 0, none⟩) l := fun _ =>
  ⟨g, 0, rfl, (Array.getElem?_eq_some_iff.1 h).1, fun j hj => by rw [Nat.zero_add]; exact row_cell h j hj⟩
end Go.Proofs.YtnadcdgpfopcaaaGreat

namespace Go.Proofs.YtnadcdgpfopcaaaGreat
open Go.RowKit Go.Maps
theorem isNaN_int (x : Int) (w : World) : Calls Tryz.prog 138 #[.int .i64 x] w fun e w' => e = .returned (.bool false) ∧ w = w' := by
  go_enter Tryz.func138, Tryz.ntmps138
  go_wp2
  go_ret
  exact ⟨rfl, rfl⟩
/-- What a count is, with more added. -/
def heldN (n more : Int) : Int := if more > 1099511627776 - n then 1099511627776 else if more < -n then 0 else n + more
theorem heldN_range (n more : Int) : 0 ≤ heldN n more ∧ heldN n more ≤ 1099511627776 := by unfold heldN; repeat' split; all_goals omega
theorem less_int (x y : Int) (w : World) : Calls Tryz.prog 158 #[.int .i64 x, .int .i64 y] w fun e w' => e = .returned (.bool (decide (x < y))) ∧ w = w' := by
  go_enter Tryz.func158, Tryz.ntmps158
  go_wp2_with (first | (go_at_call 138; refine (isNaN_int _ _).mono ?_; rintro e w' ⟨rfl, rfl⟩) | fail)
  go_ret
  exact ⟨rfl, rfl⟩
/-- The slice value sv reads as the list zs. -/
def RowL {α : Type} (enc : α → Value) (w : World) (sv : Value) (zs : List α) : Prop :=
  (sv = .slice none 0 0 ∧ zs = []) ∨ ∃ ad cap, sv = .slice (some ad) zs.length cap ∧ ∀ j (h : j < zs.length), w.cell? (ad.add j) = some (enc zs[j])
/-- r is the place of the first of the best. -/
def Best {α : Type} (bt : α → α → Bool) (zs : List α) (r : Int) : Prop :=
  (zs = [] ∧ r = -1) ∨ ∃ a, ∃ h : a < zs.length, r = (a : Int) ∧ (∀ i (hi : i < zs.length), bt zs[i] zs[a] = false) ∧ ∀ i (hi : i < a), bt zs[a] zs[i] = true
structure Ord {α : Type} (bt : α → α → Bool) : Prop where
  irr : ∀ x, bt x x = false
  tr : ∀ x c i, bt x c = true → bt i c = false → bt x i = true
  asym : ∀ x i, bt x i = true → bt i x = false
theorem best_start {α : Type} (bt : α → α → Bool) : Best bt [] (-1) := .inl ⟨rfl, rfl⟩
theorem best_first {α : Type} {bt : α → α → Bool} (O : Ord bt) (x : α) : Best bt [x] 0 :=
  .inr ⟨0, by simp, rfl, fun i hi => by obtain rfl : i = 0 := by simpa using hi
                                        exact O.irr _, fun i hi => by omega⟩
/-- The best of all but the last one's place, known to be there. -/
def BestAt {α : Type} (bt : α → α → Bool) (zs : List α) (a : Nat) : Prop :=
  ∃ h : a < zs.length, (∀ i (hi : i < zs.length), bt zs[i] zs[a] = false) ∧ ∀ i (hi : i < a), bt zs[a] zs[i] = true
theorem bestAt_first {α : Type} {bt : α → α → Bool} (O : Ord bt) (x : α) : BestAt bt [x] 0 :=
  ⟨by simp, fun i hi => by obtain rfl : i = 0 := by simpa using hi
                           exact O.irr _, fun i hi => by omega⟩
theorem bestAt_turn {α : Type} {bt : α → α → Bool} (O : Ord bt) {zs : List α} {a : Nat} (ha : a < zs.length) (h : BestAt bt zs a) (x : α) (hx : bt x zs[a] = true) : BestAt bt (zs ++ [x]) zs.length := by
  obtain ⟨_, h1, h2⟩ := h
  have key : ∀ i (hi : i < zs.length), bt x zs[i] = true := fun i hi => O.tr _ _ _ hx (h1 i hi)
  refine ⟨by simp, fun i hi => ?_, fun i hi => ?_⟩
  · by_cases e : i < zs.length
    · rw [List.getElem_append_left e]
      simpa using O.asym _ _ (key i e)
    · obtain rfl : i = zs.length := by simp at hi; omega
      exact O.irr _
  · rw [List.getElem_append_left hi]
    simpa using key i hi
theorem bestAt_keep {α : Type} {bt : α → α → Bool} {zs : List α} {a : Nat} (ha : a < zs.length) (h : BestAt bt zs a) (x : α) (hx : bt x zs[a] = false) : BestAt bt (zs ++ [x]) a := by
  obtain ⟨_, h1, h2⟩ := h
  refine ⟨by simp; omega, fun i hi => ?_, fun i hi => ?_⟩
  · rw [List.getElem_append_left ha]
    by_cases e : i < zs.length
    · rw [List.getElem_append_left e]; exact h1 i e
    · obtain rfl : i = zs.length := by simp at hi; omega
      simpa using hx
  · rw [List.getElem_append_left ha, List.getElem_append_left (by omega)]; exact h2 i hi
theorem best_of {α : Type} {bt : α → α → Bool} {zs : List α} {a : Nat} (h : BestAt bt zs a) : Best bt zs a := by
  obtain ⟨h, h1, h2⟩ := h
  exact .inr ⟨a, h, rfl, h1, h2⟩
theorem take_more {α : Type} (zs : List α) (k : Nat) (h : k < zs.length) : zs.take (k + 1) = zs.take k ++ [zs[k]] := by
  rw [List.take_succ_eq_append_getElem h]
def ltInt (x y : Int) : Bool := decide (x < y)
def gtInt (x y : Int) : Bool := decide (y < x)
theorem ord_ltInt : Ord ltInt := ⟨fun x => by simp [ltInt], fun x c i => by simp [ltInt]; omega, fun x i => by simp [ltInt]; omega⟩
theorem ord_gtInt : Ord gtInt := ⟨fun x => by simp [gtInt], fun x c i => by simp [gtInt]; omega, fun x i => by simp [gtInt]; omega⟩
def BestPost {α : Type} (bt : α → α → Bool) (zs : List α) (w : World) (e : Ending) (w' : World) : Prop := ∃ r, e = .returned (.int .i64 r) ∧ Best bt zs r ∧ w = w'
set_option maxHeartbeats 1000000 in
theorem low_int_any (sv : Value) (zs : List Int) (w : World) (h : RowL (Value.int .i64) w sv zs) (hl : zs.length ≤ 9223372036854775807) :
    Calls Tryz.prog 141 #[sv] w (BestPost ltInt zs w) := by
  rcases h with ⟨rfl, rfl⟩ | ⟨ad, cap, rfl, hc⟩
  · go_enter Tryz.func141, Tryz.ntmps141
    go_wp2
    refine wp_loop_rounds 1 ?_
    rw [rounds_succ]
    go_wp2
    go_ret
    exact ⟨-1, rfl, best_start _, rfl⟩
  · go_enter Tryz.func141, Tryz.ntmps141
    go_wp2
    go_loop [3, 8] (fun t i => ∃ k : Nat, k ≤ zs.length ∧ i = .int .i64 k ∧ ((k = 0 ∧ t = .int .i64 (-1)) ∨ ∃ a : Nat, a < k ∧ t = .int .i64 a ∧ BestAt ltInt (zs.take k) a)) (fun _ i => zs.length - (intOf i).toNat)
    case atStart => exact ⟨0, Nat.zero_le _, rfl, .inl ⟨rfl, rfl⟩⟩
    case round =>
      obtain ⟨k, hk, rfl, hrel⟩ := hrel
      by_cases hlt : k < zs.length
      · have hcell := hc k hlt
        have ht := Lib.hid (take_more zs k hlt)
        have htl := Lib.hid (show (zs.take k).length = k by simp; omega)
        rcases hrel with ⟨hk0, rfl⟩ | ⟨a, ha, rfl, hb⟩
        · obtain rfl := hk0
          have hcell0 : w.cell? ad = some ((Value.int .i64) zs[0]) := by simpa [Addr.add] using hc 0 hlt
          clear hk hcell
          go_wp2
          go_round
          case rel => exact ⟨1, by omega, rfl, .inr ⟨0, by omega, rfl, by rw [ht.out]; exact bestAt_first ord_ltInt _⟩⟩
          case measure => simp [intOf]; omega
        · have hcell2 := hc a (by omega)
          have h0 : decide ((a : Int) < 0) = false := by simp
          have hal : a < (zs.take k).length := by rw [htl.out]; exact ha
          have hga : zs[a] = (zs.take k)[a] := by simp
          have Hga := Lib.hid hga
          clear hga
          cases hbt : ltInt zs[k] zs[a] with
          | true =>
            have Hbt := Lib.hid hbt
            clear hbt
            go_wp2_with (first | (go_at_call 158; refine (less_int _ _ _).mono ?_; rintro e w' ⟨rfl, rfl⟩; have hd : decide (zs[k] < zs[a]) = true := Hbt.out) | fail)
            go_round
            case rel => exact ⟨k + 1, by omega, by go_num, .inr ⟨k, by omega, rfl, by
              have := bestAt_turn ord_ltInt hal hb zs[k] (by rw [← Hga.out]; exact Hbt.out)
              rw [ht.out]; rw [htl.out] at this; exact this⟩⟩
            case measure => simp [intOf]; omega
          | false =>
            have Hbt := Lib.hid hbt
            clear hbt
            go_wp2_with (first | (go_at_call 158; refine (less_int _ _ _).mono ?_; rintro e w' ⟨rfl, rfl⟩; have hd : decide (zs[k] < zs[a]) = false := Hbt.out) | fail)
            go_round
            case rel => exact ⟨k + 1, by omega, by go_num, .inr ⟨a, by omega, rfl, by
              rw [ht.out]; exact bestAt_keep hal hb zs[k] (by rw [← Hga.out]; exact Hbt.out)⟩⟩
            case measure => simp [intOf]; omega
      · have hz := Lib.hid (show zs.take k = zs by rw [List.take_of_length_le (by omega)])
        rcases hrel with ⟨hk0, rfl⟩ | ⟨a, ha, rfl, hb⟩
        · have hnil := Lib.hid (show zs = [] from List.eq_nil_of_length_eq_zero (by omega))
          clear hk0
          go_wp2
          go_ret
          exact ⟨-1, rfl, by rw [hnil.out]; exact best_start _, rfl⟩
        · go_wp2
          go_ret
          exact ⟨a, rfl, best_of (by rw [← hz.out]; exact hb), rfl⟩
set_option maxHeartbeats 1000000 in
theorem high_int_any (sv : Value) (zs : List Int) (w : World) (h : RowL (Value.int .i64) w sv zs) (hl : zs.length ≤ 9223372036854775807) :
    Calls Tryz.prog 142 #[sv] w (BestPost gtInt zs w) := by
  rcases h with ⟨rfl, rfl⟩ | ⟨ad, cap, rfl, hc⟩
  · go_enter Tryz.func142, Tryz.ntmps142
    go_wp2
    refine wp_loop_rounds 1 ?_
    rw [rounds_succ]
    go_wp2
    go_ret
    exact ⟨-1, rfl, best_start _, rfl⟩
  · go_enter Tryz.func142, Tryz.ntmps142
    go_wp2
    go_loop [3, 8] (fun t i => ∃ k : Nat, k ≤ zs.length ∧ i = .int .i64 k ∧ ((k = 0 ∧ t = .int .i64 (-1)) ∨ ∃ a : Nat, a < k ∧ t = .int .i64 a ∧ BestAt gtInt (zs.take k) a)) (fun _ i => zs.length - (intOf i).toNat)
    case atStart => exact ⟨0, Nat.zero_le _, rfl, .inl ⟨rfl, rfl⟩⟩
    case round =>
      obtain ⟨k, hk, rfl, hrel⟩ := hrel
      by_cases hlt : k < zs.length
      · have hcell := hc k hlt
        have ht := Lib.hid (take_more zs k hlt)
        have htl := Lib.hid (show (zs.take k).length = k by simp; omega)
        rcases hrel with ⟨hk0, rfl⟩ | ⟨a, ha, rfl, hb⟩
        · obtain rfl := hk0
          have hcell0 : w.cell? ad = some ((Value.int .i64) zs[0]) := by simpa [Addr.add] using hc 0 hlt
          clear hk hcell
          go_wp2
          go_round
          case rel => exact ⟨1, by omega, rfl, .inr ⟨0, by omega, rfl, by rw [ht.out]; exact bestAt_first ord_gtInt _⟩⟩
          case measure => simp [intOf]; omega
        · have hcell2 := hc a (by omega)
          have h0 : decide ((a : Int) < 0) = false := by simp
          have hal : a < (zs.take k).length := by rw [htl.out]; exact ha
          have hga : zs[a] = (zs.take k)[a] := by simp
          have Hga := Lib.hid hga
          clear hga
          cases hbt : gtInt zs[k] zs[a] with
          | true =>
            have Hbt := Lib.hid hbt
            clear hbt
            go_wp2_with (first | (go_at_call 158; refine (less_int _ _ _).mono ?_; rintro e w' ⟨rfl, rfl⟩; have hd : decide (zs[a] < zs[k]) = true := Hbt.out) | fail)
            go_round
            case rel => exact ⟨k + 1, by omega, by go_num, .inr ⟨k, by omega, rfl, by
              have := bestAt_turn ord_gtInt hal hb zs[k] (by rw [← Hga.out]; exact Hbt.out)
              rw [ht.out]; rw [htl.out] at this; exact this⟩⟩
            case measure => simp [intOf]; omega
          | false =>
            have Hbt := Lib.hid hbt
            clear hbt
            go_wp2_with (first | (go_at_call 158; refine (less_int _ _ _).mono ?_; rintro e w' ⟨rfl, rfl⟩; have hd : decide (zs[a] < zs[k]) = false := Hbt.out) | fail)
            go_round
            case rel => exact ⟨k + 1, by omega, by go_num, .inr ⟨a, by omega, rfl, by
              rw [ht.out]; exact bestAt_keep hal hb zs[k] (by rw [← Hga.out]; exact Hbt.out)⟩⟩
            case measure => simp [intOf]; omega
      · have hz := Lib.hid (show zs.take k = zs by rw [List.take_of_length_le (by omega)])
        rcases hrel with ⟨hk0, rfl⟩ | ⟨a, ha, rfl, hb⟩
        · have hnil := Lib.hid (show zs = [] from List.eq_nil_of_length_eq_zero (by omega))
          clear hk0
          go_wp2
          go_ret
          exact ⟨-1, rfl, by rw [hnil.out]; exact best_start _, rfl⟩
        · go_wp2
          go_ret
          exact ⟨a, rfl, best_of (by rw [← hz.out]; exact hb), rfl⟩
def upd {α : Type} [DecidableEq α] (f : α → Int) (k : α) (v : Int) : α → Int := fun j => if j = k then v else f j
theorem upd_same {α : Type} [DecidableEq α] (f : α → Int) (k : α) (v : Int) : upd f k v k = v := by simp [upd]
theorem upd_other {α : Type} [DecidableEq α] (f : α → Int) {k j : α} (h : j ≠ k) (v : Int) : upd f k v j = f j := by simp [upd, h]
/-- The map that reads as D has the counts f: none that is 0. -/
def Cnt {α : Type} (lit : α → Lit) (D : DataW Unit) (f : α → Int) : Prop :=
  ∀ k, D.atKey (lit k) (.lit (.int .i64 0)) = .lit (.int .i64 (f k)) ∧ (Maps.has D (lit k) = true ↔ f k ≠ 0)
theorem cnt_empty {α : Type} (lit : α → Lit) : Cnt lit (.map []) (fun _ => 0) := fun k =>
  ⟨Maps.atKey_of_not_has rfl _, by simp [Maps.has]⟩
theorem cnt_put {α : Type} [DecidableEq α] {lit : α → Lit} (inj : ∀ a b, lit a = lit b → a = b) {D : DataW Unit} {f : α → Int} (h : Cnt lit D f) (hD : IsMap D) {k : α} (hk : WideAt.IsKeyLit (lit k)) {v : Int} (hv : v ≠ 0) :
    Cnt lit (D.put (lit k) (.lit (.int .i64 v))) (upd f k v) := fun j => by
  by_cases e : j = k
  · subst e
    rw [Maps.atKey_put_same hD hk, Maps.has_put_same hD hk, upd_same]
    exact ⟨rfl, by simp [hv]⟩
  · have hne : lit j ≠ lit k := fun e' => e (inj _ _ e')
    rw [Maps.atKey_put_other hne, Maps.has_put_other hne, upd_other _ e]
    exact h j
theorem cnt_del {α : Type} [DecidableEq α] {lit : α → Lit} (inj : ∀ a b, lit a = lit b → a = b) {D : DataW Unit} {f : α → Int} (h : Cnt lit D f) (k : α) :
    Cnt lit (D.del (lit k)) (upd f k 0) := fun j => by
  by_cases e : j = k
  · subst e
    rw [Maps.atKey_del_same, Maps.has_del_same, upd_same]
    exact ⟨rfl, by simp⟩
  · have hne : lit j ≠ lit k := fun e' => e (inj _ _ e')
    rw [Maps.atKey_del_other hne, Maps.has_del_other hne, upd_other _ e]
    exact h j
/-- From w to w' a tally at p, whose map is at ob, has turned: nothing else that was there. -/
structure Touch (p : Nat) (ob : Option Nat) (w w' : World) : Prop where
  os : w'.os = w.os
  tape : w'.tape = w.tape
  output : w'.output = w.output
  size : w.heap.size ≤ w'.heap.size
  block : ∀ i, i < w.heap.size → i ≠ p → some i ≠ ob → w'.heap[i]? = w.heap[i]?
theorem Touch.below {p : Nat} {ob : Option Nat} {w w' : World} (h : Touch p ob w w') {B : Nat} (hp : B ≤ p) (hb : ∀ b, ob = some b → B ≤ b) (hB : B ≤ w.heap.size) : Below B w w' :=
  ⟨h.os, h.tape, h.output, h.size, fun i hi => h.block i (by omega) (by omega) (fun e => by have := hb i e.symm; omega)⟩
theorem Touch.refl (p : Nat) (ob : Option Nat) (w : World) : Touch p ob w w := ⟨rfl, rfl, rfl, Nat.le_refl _, fun _ _ _ _ => rfl⟩
theorem block_setCell3 {w : World} {p : Nat} {a b c u : Value} {t : TypeId} (h : w.heap[p]? = some (.cells #[a, b, c] t (0, 0))) : (w.setCell ⟨p, 0, none⟩ u).heap[p]? = some (.cells #[u, b, c] t (0, 0)) := by
  obtain ⟨hlt, he⟩ := Array.getElem?_eq_some_iff.1 h
  simp [World.setCell, Array.getElem?_modify, h]
theorem cell3 {w : World} {p : Nat} {a b c : Value} {t : TypeId} (h : w.heap[p]? = some (.cells #[a, b, c] t (0, 0))) : w.cell? ⟨p, 0, none⟩ = some a ∧ w.cell? ⟨p, 1, none⟩ = some b ∧ w.cell? ⟨p, 2, none⟩ = some c ∧ w.frozen? ⟨p, 0, none⟩ = false := by
  simp [World.cell?, World.frozen?, h]
theorem key_int {x : Int} (h : (Lit.int .i64 x).wf = true) : keyOf Tryz.prog 3 (.int .i64 x) = some (.int .i64 x) := keyOf_int_mk Tryz.underlying3 h
theorem inj_int : ∀ a b : Int, Lit.int .i64 a = Lit.int .i64 b → a = b := fun a b h => by simpa using h
theorem zero_int (w : World) : (zeroValue 3).run Tryz.prog w = .ok (.int .i64 0) w := by kernel_rfl
theorem law_int : Keyed Tryz.prog 3 := int_keyed Tryz.underlying3
theorem wf_small {x : Int} (h0 : 0 ≤ x) (h1 : x ≤ 1099511627776) : (Lit.int .i64 x).wf = true := WalkArith.wf_i64 (by omega)
end Go.Proofs.YtnadcdgpfopcaaaGreat

namespace Go.Proofs.YtnadcdgpfopcaaaGreat
open Go.RowKit Go.Shelf

attribute [local go_sem] Oper.semAt_some

theorem func_nil_intbool (f : Fn) (a b : Array Value) (w : World) : Sem.run Tryz.prog (binOp BinOp.eql 129 (.func f a b) .nilFunc) w = .ok (.bool false) w := by kernel_rfl
/-- The places as values. -/
abbrev encFw {N : Nat} (x : Fin N) : Array Value := #[Value.int .i64 (x.val : Int)]

/-! ### Where -/
/-- The places below k that are true. -/
def whereTo (bs : List Bool) (k : Nat) : List (Fin bs.length) := ((List.finRange bs.length).take k).filter fun i => bs[i.val]?.getD false
theorem whereTo_zero (bs : List Bool) : whereTo bs 0 = [] := rfl
theorem whereTo_hit {bs : List Bool} {k : Nat} (hk : k < bs.length) (h : bs[k]?.getD false = true) : whereTo bs (k + 1) = whereTo bs k ++ [⟨k, hk⟩] := by
  have h' : bs[k] = true := by simpa [List.getElem?_eq_getElem hk] using h
  unfold whereTo
  rw [fin_take hk, List.filter_append]
  simp [h']
theorem whereTo_miss {bs : List Bool} {k : Nat} (hk : k < bs.length) (h : bs[k]?.getD false = false) : whereTo bs (k + 1) = whereTo bs k := by
  have h' : bs[k] = false := by simpa [List.getElem?_eq_getElem hk] using h
  unfold whereTo
  rw [fin_take hk, List.filter_append]
  simp [h']
theorem whereTo_prefix (bs : List Bool) {j k : Nat} (h : j ≤ k) : whereTo bs j <+: whereTo bs k := by
  unfold whereTo
  exact List.IsPrefix.filter _ (List.take_prefix_take_left h)
theorem whereTo_lt (bs : List Bool) {j k : Nat} (hj : j < bs.length) (h : j < k) (hb : bs[j]?.getD false = true) : (whereTo bs j).length < (whereTo bs k).length := by
  have := (whereTo_prefix bs (show j + 1 ≤ k by omega)).length_le
  rw [whereTo_hit hj hb] at this
  simp at this
  omega

/-- The slice value sv holds the bools bs, in block b; or there are none. -/
def BoolsAt (b : Nat) (W : World) (sv : Value) (bs : List Bool) : Prop :=
  (∃ p cap, sv = .slice p 0 cap ∧ bs = []) ∨ ∃ off cap, sv = .slice (some ⟨b, off, none⟩) bs.length cap ∧ ∀ j, j < bs.length → W.cell? ⟨b, off + j, none⟩ = some (.bool (bs[j]?.getD false))
theorem BoolsAt.kept {b : Nat} {A B : World} (h : KeepsBlk b A B) {sv : Value} {bs : List Bool} : BoolsAt b A sv bs → BoolsAt b B sv bs
  | .inl e => .inl e
  | .inr ⟨off, cap, e, hc⟩ => .inr ⟨off, cap, e, fun j hj => (h.cell (off + j)).trans (hc j hj)⟩

set_option maxRecDepth 100000 in
set_option maxHeartbeats 1000000 in
theorem where1_nil_in (n l Bs : Nat) (p : Option Addr) (cap : Nat) {N : Nat} (J : List (Fin N) → World → Prop) (W : World) (hBs : W.cell? ⟨Bs, 0, none⟩ = some (.slice p 0 cap)) (h0 : J [] W) :
    CallsIn Fence.wide n Tryz.prog 179 #[.func (.yield l) #[] #[], .pointer (some ⟨Bs, 0, none⟩)] W fun e W' => (∃ v, e = .returned v) ∧ J [] W' := by
  have hnf := func_nil_intbool
  refine callsIn_of_wp Tryz.func179 rfl trivial ?_ rfl
  simp only [Tryz.ntmps179, List.size_toArray, List.length_cons, List.length_nil, Nat.reduceAdd, Nat.reduceSub, Array.replicate_succ, Array.replicate_zero, List.push_toArray, List.append_toArray, List.nil_append, List.cons_append]
  gi_wp2
  gi_loopw [9] (fun i wr => i = .int .i64 0 ∧ J [] wr) (fun _ _ => 0)
  case atStart => exact ⟨rfl, h0⟩
  case round =>
    obtain ⟨rfl, hJs⟩ := hrel
    gi_wp2
    go_end0
    exact ⟨⟨_, rfl⟩, hJs⟩

set_option maxRecDepth 100000 in
set_option maxHeartbeats 2000000 in
theorem where1_in (n l Bs b off cap : Nat) (bs : List Bool) (hreach : bs.length ≤ 9223372036854775807) (J Jx : List (Fin bs.length) → World → Prop)
    (hY : ∀ pre (x : Fin bs.length) W, J pre W → pre.length < (whereTo bs bs.length).length → YieldAt Fence.wide (n - 1) Tryz.prog l #[.int .i64 (x.val : Int)] W (RoundEnds (KeepsBlk b) J Jx pre x W))
    (W : World) (hBs : W.cell? ⟨Bs, 0, none⟩ = some (.slice (some ⟨b, off, none⟩) bs.length cap)) (hc : ∀ j, j < bs.length → W.cell? ⟨b, off + j, none⟩ = some (.bool (bs[j]?.getD false))) (h0 : J [] W) :
    CallsIn Fence.wide n Tryz.prog 179 #[.func (.yield l) #[] #[], .pointer (some ⟨Bs, 0, none⟩)] W (SeqEnds J Jx (whereTo bs bs.length)) := by
  have hnf := func_nil_intbool
  refine callsIn_of_wp Tryz.func179 rfl trivial ?_ rfl
  simp only [Tryz.ntmps179, List.size_toArray, List.length_cons, List.length_nil, Nat.reduceAdd, Nat.reduceSub, Array.replicate_succ, Array.replicate_zero, List.push_toArray, List.append_toArray, List.nil_append, List.cons_append]
  gi_wp2
  gi_loopw [9] (fun i wr => ∃ k : Nat, k ≤ bs.length ∧ i = .int .i64 k ∧ J (whereTo bs k) wr ∧ KeepsBlk b W wr)
    (fun i _ => bs.length - (intOf i).toNat)
  case atStart => exact ⟨0, Nat.zero_le _, rfl, h0, KeepsBlk.refl _ _⟩
  case round =>
    obtain ⟨k, hk, rfl, hJs, hnx⟩ := hrel
    by_cases hlt : k < bs.length
    · have hcx : wr.cell? ⟨b, off + k, none⟩ = some (.bool (bs[k]?.getD false)) := (hnx.cell (off + k)).trans (hc k hlt)
      cases hbk : bs[k]?.getD false with
      | true =>
        rw [hbk] at hcx
        obtain ⟨fn, tmps, assign, body, hy, hR⟩ := hY _ ⟨k, hlt⟩ wr hJs (whereTo_lt bs hlt hlt hbk)
        have hW := Lib.hid (whereTo_hit hlt hbk)
        clear hbk hc
        gi_wp2_with (refine ⟨wide_depth _, ?_⟩; refine hR.mono ?_; clear hR; rintro e W3 (⟨rfl, hJ3, hk3⟩ | ⟨rfl, hJx3⟩))
        · go_roundw
          case rel => exact ⟨k + 1, by omega, by simp, by rw [hW.out]; exact hJ3, hnx.trans hk3⟩
          case measure => simp [intOf]; omega
        · refine bodyPost_ret (results_none rfl _ _ _) rfl ?_
          exact ⟨⟨_, rfl⟩, .inr ⟨_, whereTo_prefix bs (show k + 1 ≤ bs.length by omega), by rw [hW.out]; exact hJx3⟩⟩
      | false =>
        rw [hbk] at hcx
        have hW := Lib.hid (whereTo_miss hlt hbk)
        clear hbk hc
        gi_wp2
        refine ⟨fun _ h => (by cases h), ?_⟩
        gi_wp2
        go_roundw
        case rel => exact ⟨k + 1, by omega, by simp, by rw [hW.out]; exact hJs, hnx⟩
        case measure => simp [intOf]; omega
    · obtain rfl : k = bs.length := by omega
      gi_wp2
      go_end0
      exact ⟨⟨_, rfl⟩, .inl ⟨_, rfl, hJs⟩⟩

theorem where_stops (n Bs b : Nat) (sv : Value) (bs : List Bool) (hreach : bs.length ≤ 9223372036854775807) (w : World) (hBs : Bs < w.heap.size) (hb : b < w.heap.size)
    (hc : w.cell? ⟨Bs, 0, none⟩ = some sv) (hI : BoolsAt b w sv bs) :
    SeqStopsK Fence.wide n Tryz.prog 179 #[.pointer (some ⟨Bs, 0, none⟩)] encFw (KeepsBlk b) (fun ys => ys = whereTo bs bs.length) (fun pre => pre <+: whereTo bs bs.length) (whereTo bs bs.length).length w := fun l J Jx W hW _ _ hY h0 => by
  have hc' := (hW.cell (p := ⟨Bs, 0, none⟩) hBs).trans hc
  rcases hI.kept (KeepsBlk.of_below hW hb) with ⟨p, cap, rfl, rfl⟩ | ⟨off, cap, rfl, hcs⟩
  · exact (where1_nil_in n l Bs p cap J W hc' h0).mono fun e W' ⟨he, hj⟩ => ⟨he, .inl ⟨_, rfl, hj⟩⟩
  · exact where1_in n l Bs b off cap bs hreach J Jx hY W hc' hcs h0
theorem ownsRow_slice {W : World} {b : Nat} {e : TypeId} {size : Nat} {v : Value} {k : Nat} {xs : List Value} (h : W.ownsRow b e size v k xs) : ∃ p cap, v = .slice p k cap := by
  rcases h.2 with ⟨rfl, rfl⟩ | ⟨g, cap, cur, rfl, _⟩
  · exact ⟨_, _, rfl⟩
  · exact ⟨_, _, rfl⟩

theorem ownsRow_pos {W : World} {b : Nat} {e : TypeId} {size : Nat} {v : Value} {k : Nat} {xs : List Value} (h : W.ownsRow b e size v k xs) (hk : 1 ≤ k) : ∃ g cap, v = .slice (some ⟨g, 0, none⟩) k cap := by
  rcases h.2 with ⟨_, h0⟩ | ⟨g, cap, _, rfl, _⟩
  · omega
  · exact ⟨g, cap, rfl⟩

theorem info4 : (Tryz.prog.info? 4).map (fun i => (i.zero, i.size, i.bytes)) = some (some (.bool false), 1, 1) := by kernel_rfl

theorem slice_nil_bools (ad : Addr) (n c : Nat) (w : World) : Sem.run Tryz.prog (binOp BinOp.eql 39 (.slice (some ad) n c) (.slice none 0 0)) w = .ok (.bool false) w := by kernel_rfl
theorem nil_nil_bools (w : World) : Sem.run Tryz.prog (binOp BinOp.eql 39 (.slice none 0 0) (.slice none 0 0)) w = .ok (.bool true) w := by kernel_rfl

/-- The slice value sv holds the bools bs. -/
def BoolsIn (W : World) (sv : Value) (bs : List Bool) : Prop :=
  (sv = .slice none 0 0 ∧ bs = []) ∨ ∃ ad cap, sv = .slice (some ad) bs.length cap ∧ ∀ j, j < bs.length → W.cell? (ad.add j) = some (.bool (bs[j]?.getD false))

def ClonePost (bs : List Bool) (w : World) (e : Ending) (W' : World) : Prop :=
  ∃ sv, e = .returned sv ∧ W'.ownsRow w.heap.size 4 1 sv bs.length (bs.map Value.bool) ∧ Below w.heap.size w W'

set_option maxHeartbeats 1000000 in
theorem clone_any (sv : Value) (bs : List Bool) (hlen : bs.length ≤ 1000000) (w : World) (h : BoolsIn w sv bs) :
    Calls Tryz.prog 178 #[sv] w (ClonePost bs w) := by
  obtain ⟨i0, hi, hz0, hz1, hz2⟩ := info_parts info4
  rcases h with ⟨rfl, rfl⟩ | ⟨ad, cap, rfl, hc⟩
  · have hn := nil_nil_bools w
    go_enter Tryz.func178, Tryz.ntmps178
    go_wp2
    go_ret
    exact ⟨_, rfl, World.ownsRow_nil _ _ _ _, Below.refl _ _⟩
  · have hn := slice_nil_bools ad bs.length cap w
    have hl := World.ownsRow_lit (base := w.heap.size) (e := 4) (size := 1) w #[] 0 (Nat.le_refl _) (by unfold maxLen; omega) rfl
    have hnews : ∀ (j : Nat) u, (bs.map Value.bool)[j]? = some u → (w.alloc (.cells #[] 4)).cell? (ad.add j) = some u := by
      intro j u hu
      have hj : j < bs.length := by
        have := (List.getElem?_eq_some_iff.1 hu).1
        simpa using this
      have h1 := hc j hj
      have : u = .bool (bs[j]?.getD false) := by simp [hj] at hu ⊢; exact hu.symm
      subst this
      exact cell_kept h1 (World.grownBy_alloc w _ none) (fun r e => by cases e)
    go_enter Tryz.func178, Tryz.ntmps178
    go_wp2_with (at_builtin; refine wpList_append_own _ rfl _ _ 39 rfl w.heap.size 4 i0 (.bool false) 1 1 Tryz.underlying39 hi hz0 hz1 hz2 rfl (by decide) _ _ _ rfl hl ad bs.length cap (bs.map Value.bool) rfl (by simp) hnews (by intro u hu; obtain ⟨b, _, rfl⟩ := List.mem_map.1 hu; rfl) (by unfold maxLen; omega) (by omega) (by simp) ?_; intro v' w1 hown' hgrow _)
    go_ret
    exact ⟨_, rfl, by simpa using hown', ((Below.refl _ w).alloc (Nat.le_refl _) _).grown hgrow (by simp) (fun k e => by cases e; exact Nat.le_refl _)⟩

/-- What a slice of its own holds, read as bools. -/
theorem boolsAt_of_owns {W : World} {base : Nat} {sv : Value} {bs : List Bool} (h : W.ownsRow base 4 1 sv bs.length (bs.map Value.bool)) (c : Nat) (hc : base ≤ c) (hs : c < W.heap.size) : ∃ b, base ≤ b ∧ b < W.heap.size ∧ BoolsAt b W sv bs := by
  by_cases h0 : bs = []
  · subst h0
    obtain ⟨p, cap, rfl⟩ : ∃ p cap, sv = .slice p 0 cap := ownsRow_slice h
    exact ⟨c, hc, hs, .inl ⟨p, cap, rfl, rfl⟩⟩
  · obtain ⟨k, hk⟩ : ∃ k, bs.length = k + 1 := ⟨bs.length - 1, by have := List.length_pos_iff.2 h0; omega⟩
    have hk' := hk
    rw [hk] at h
    obtain ⟨g, cap, rfl⟩ := ownsRow_succ h
    refine ⟨g, (h.lt g rfl).1, (h.lt g rfl).2, .inr ⟨0, cap, by rw [hk], fun j hj => ?_⟩⟩
    have := h.cellAt j (by omega)
    rw [Nat.zero_add, this]
    simp [hj]

/-- What Where leaves: an iterator over the places that are true; it leans on one block. -/
def WherePost (bs : List Bool) (w : World) (e : Ending) (W' : World) : Prop :=
  ∃ B b, e = .returned (.func (.func 179) #[] #[.pointer (some ⟨B, 0, none⟩)]) ∧ w.heap.size ≤ b ∧ b < W'.heap.size ∧
    (∀ m, SeqStopsK Fence.wide m Tryz.prog 179 #[.pointer (some ⟨B, 0, none⟩)] encFw (KeepsBlk b) (fun ys => ys = whereTo bs bs.length) (fun pre => pre <+: whereTo bs bs.length) (whereTo bs bs.length).length W') ∧ Below w.heap.size w W'
theorem enters_where : ∀ args w, (callFunc 179 args).run Tryz.prog w = .ok (.enter 179 args) w := enters_of Tryz.func179 (by kernel_rfl) rfl
set_option maxHeartbeats 1000000 in
theorem where_any (sv : Value) (bs : List Bool) (hlen : bs.length ≤ 1000000) (w : World) (h : BoolsIn w sv bs) :
    Calls Tryz.prog 157 #[sv] w (WherePost bs w) := by
  go_enter Tryz.func157, Tryz.ntmps157
  go_wp2_with (go_at_call 178; refine (clone_any sv bs hlen _ h).mono ?_; rintro e w1 ⟨sv1, rfl, hr, hb⟩; obtain ⟨p, cap, rfl⟩ := ownsRow_slice hr)
  go_ret
  have hx := (Boxed.new w1 39 (.slice p bs.length cap)).cell
  obtain ⟨b, hb0, hbl, hba⟩ := boolsAt_of_owns (hr.alloc (.cells #[.slice p bs.length cap] 39)) w1.heap.size hb.size (by simp)
  exact ⟨w1.heap.size, b, rfl, hb0, hbl, fun m => where_stops m w1.heap.size b _ bs (by omega) _ (by simp) hbl hx hba, hb.alloc hb.size _⟩
end Go.Proofs.YtnadcdgpfopcaaaGreat

namespace Go.Proofs.YtnadcdgpfopcaaaGreat

/-- Those that are looked at: the place, the count. -/
def lookFrom : Nat → List (Int × Bool) → List (Int × Int)
  | _, [] => []
  | k, p :: r => if p.2 = true then ((k : Int), p.1) :: lookFrom (k + 1) r else lookFrom (k + 1) r
theorem lookFrom_snoc (k : Nat) (zs : List (Int × Bool)) (p : Int × Bool) : lookFrom k (zs ++ [p]) = lookFrom k zs ++ (if p.2 = true then [(((k + zs.length : Nat) : Int), p.1)] else []) := by
  induction zs generalizing k with
  | nil => simp [lookFrom]
  | cons q r ih =>
    simp only [List.cons_append, lookFrom, List.length_cons]
    rw [ih (k + 1), show k + 1 + r.length = k + (r.length + 1) by omega]
    split <;> simp
theorem mem_look (k : Nat) (zs : List (Int × Bool)) (x : Int) : (x, true) ∈ zs ↔ x ∈ (lookFrom k zs).map (·.2) := by
  induction zs generalizing k with
  | nil => simp [lookFrom]
  | cons q r ih =>
    obtain ⟨y, b⟩ := q
    cases b with
    | false => simp only [lookFrom]; rw [if_neg (by decide), List.mem_cons, ih (k + 1)]; simp
    | true => simp only [lookFrom]; rw [if_pos trivial, List.mem_cons, ih (k + 1), List.map_cons, List.mem_cons]; simp
theorem seek_look (n : Int) (k : Nat) (zs : List (Int × Bool)) : seekFrom n k zs = ((lookFrom k zs).find? fun q => q.2 == n).elim (-1) (·.1) := by
  induction zs generalizing k with
  | nil => rfl
  | cons q r ih =>
    obtain ⟨y, b⟩ := q
    cases b with
    | false => simp only [seekFrom, lookFrom]; rw [if_neg (by simp), if_neg (by decide), ih (k + 1)]
    | true =>
      simp only [seekFrom, lookFrom]
      rw [if_pos (c := True) trivial]
      by_cases h : y = n
      · rw [if_pos ⟨trivial, h⟩, List.find?_cons, show (y == n) = true from by simpa using h]; rfl
      · rw [if_neg (fun e => h e.2), ih (k + 1), List.find?_cons, show (y == n) = false from by simpa using h]
theorem count_look (k : Nat) (zs : List (Int × Bool)) (n : Int) : countP' zs n = ((lookFrom k zs).map (·.2)).countP (· == n) := by
  unfold countP'
  induction zs generalizing k with
  | nil => rfl
  | cons q r ih =>
    obtain ⟨y, b⟩ := q
    cases b with
    | false => simp only [lookFrom]; rw [if_neg (by decide), ← ih (k + 1), List.countP_cons]; simp
    | true => simp only [lookFrom]; rw [if_pos trivial, List.map_cons, List.countP_cons, List.countP_cons, ← ih (k + 1)]; simp
def placesP (zs : List (Int × Bool)) : List Int := (lookFrom 0 zs).map (·.1)
def looksP (zs : List (Int × Bool)) : List Int := (lookFrom 0 zs).map (·.2)
theorem looks_len (zs : List (Int × Bool)) : (looksP zs).length = (placesP zs).length := by simp [looksP, placesP]
theorem look_len (k : Nat) (zs : List (Int × Bool)) : (lookFrom k zs).length ≤ zs.length := by
  induction zs generalizing k with
  | nil => simp [lookFrom]
  | cons q r ih =>
    simp only [lookFrom]
    have := ih (k + 1)
    split <;> simp <;> omega
theorem looks_le (zs : List (Int × Bool)) : (looksP zs).length ≤ zs.length := by
  have := look_len 0 zs
  simpa [looksP] using this
theorem mem_looks (zs : List (Int × Bool)) (x : Int) : (x, true) ∈ zs ↔ x ∈ looksP zs := mem_look 0 zs x
theorem looks_nil {zs : List (Int × Bool)} (h : looksP zs = []) : ∀ x, (x, true) ∉ zs := fun x hx => by
  have := (mem_looks zs x).1 hx
  rw [h] at this; cases this
/-- The first of the best, as it was found. -/
theorem find_best {bt : Int → Int → Bool} (hir : ∀ x, bt x x = false) {Q : List (Int × Int)} {r : Int} (h : Best bt (Q.map (·.2)) r) : (Q = [] ∧ r = -1) ∨ ∃ a, ∃ h1 : a < (Q.map (·.2)).length, ∃ h2 : a < (Q.map (·.1)).length, r = (a : Int) ∧ (∀ x ∈ Q.map (·.2), bt x (Q.map (·.2))[a] = false) ∧ (Q.find? fun q => q.2 == (Q.map (·.2))[a]) = some ((Q.map (·.1))[a], (Q.map (·.2))[a]) := by
  rcases h with ⟨h1, h2⟩ | ⟨a, ha, rfl, h1, h2⟩
  · exact .inl ⟨by simpa using h1, h2⟩
  · have hq : a < Q.length := by simpa using ha
    refine .inr ⟨a, ha, by simpa using hq, rfl, fun x hx => ?_, ?_⟩
    · obtain ⟨i, hi, rfl⟩ := List.mem_iff_getElem.1 hx
      exact h1 i hi
    · rw [List.find?_eq_some_iff_getElem]
      refine ⟨by simp, a, hq, by simp, fun j hj => ?_⟩
      have := h2 j hj
      simp only [List.getElem_map] at this ⊢
      cases e : (Q[j].2 == Q[a].2) with
      | false => rfl
      | true =>
        rw [eq_of_beq e, hir] at this
        cases this
theorem low_look {zs : List (Int × Bool)} {r : Int} (h : Best ltInt (looksP zs) r) : (looksP zs = [] ∧ r = -1 ∧ loP zs = 0 ∧ hiP zs = 0 ∧ coldP zs = -1 ∧ hotP zs = -1) ∨ ∃ a, ∃ h1 : a < (looksP zs).length, ∃ h2 : a < (placesP zs).length, r = (a : Int) ∧ (looksP zs)[a] = loP zs ∧ (placesP zs)[a] = coldP zs := by
  rcases find_best ord_ltInt.irr h with ⟨h1, h2⟩ | ⟨a, h1, h2, e, h3, h4⟩
  · have hn : looksP zs = [] := by unfold looksP; rw [h1]; rfl
    have hz := ends_none (looks_nil hn)
    have hs : ∀ n, seekP zs n = -1 := fun n => by unfold seekP; rw [seek_look, h1]; rfl
    exact .inl ⟨hn, h2, hz.1, hz.2, hs _, hs _⟩
  · have hm : (looksP zs)[a]'h1 ∈ looksP zs := List.getElem_mem h1
    have he := ends_some ((mem_looks zs _).2 hm)
    have hlo : (looksP zs)[a]'h1 = loP zs := by
      have i1 := (he.2.2 _ ((mem_looks zs _).2 hm)).1
      have i2 := h3 _ ((mem_looks zs _).1 he.1)
      simp [ltInt] at i2
      have i3 : (looksP zs)[a]'h1 ≤ loP zs := by simpa [looksP] using i2
      omega
    refine .inr ⟨a, h1, h2, e, hlo, ?_⟩
    unfold coldP seekP
    rw [seek_look, ← hlo]
    have : ((lookFrom 0 zs).find? fun q => q.2 == (looksP zs)[a]) = some ((placesP zs)[a]'h2, (looksP zs)[a]'h1) := h4
    rw [this]; rfl
theorem high_look {zs : List (Int × Bool)} {r : Int} (h : Best gtInt (looksP zs) r) : (looksP zs = [] ∧ r = -1 ∧ loP zs = 0 ∧ hiP zs = 0 ∧ coldP zs = -1 ∧ hotP zs = -1) ∨ ∃ a, ∃ h1 : a < (looksP zs).length, ∃ h2 : a < (placesP zs).length, r = (a : Int) ∧ (looksP zs)[a] = hiP zs ∧ (placesP zs)[a] = hotP zs := by
  rcases find_best ord_gtInt.irr h with ⟨h1, h2⟩ | ⟨a, h1, h2, e, h3, h4⟩
  · have hn : looksP zs = [] := by unfold looksP; rw [h1]; rfl
    have hz := ends_none (looks_nil hn)
    have hs : ∀ n, seekP zs n = -1 := fun n => by unfold seekP; rw [seek_look, h1]; rfl
    exact .inl ⟨hn, h2, hz.1, hz.2, hs _, hs _⟩
  · have hm : (looksP zs)[a]'h1 ∈ looksP zs := List.getElem_mem h1
    have he := ends_some ((mem_looks zs _).2 hm)
    have hlo : (looksP zs)[a]'h1 = hiP zs := by
      have i1 := (he.2.2 _ ((mem_looks zs _).2 hm)).2
      have i2 := h3 _ ((mem_looks zs _).1 he.2.1)
      simp [gtInt] at i2
      have i3 : hiP zs ≤ (looksP zs)[a]'h1 := by simpa [looksP] using i2
      omega
    refine .inr ⟨a, h1, h2, e, hlo, ?_⟩
    unfold hotP seekP
    rw [seek_look, ← hlo]
    have : ((lookFrom 0 zs).find? fun q => q.2 == (looksP zs)[a]) = some ((placesP zs)[a]'h2, (looksP zs)[a]'h1) := h4
    rw [this]; rfl
/-- What Where finds of those that both lists have is what is looked at. -/
theorem where_look (l : List Int) (b : List Bool) (bs : List Bool) (hbs : bs = b.take (min l.length b.length)) (j : Nat) (hj : j ≤ bs.length) :
    (whereTo bs j).map (fun x => (x.val : Int)) = (lookFrom 0 ((l.zip b).take j)).map (·.1) ∧ (whereTo bs j).map (fun x => l[x.val]?.getD 0) = (lookFrom 0 ((l.zip b).take j)).map (·.2) := by
  have hlen : bs.length = min l.length b.length := by rw [hbs]; simp
  induction j with
  | zero => simp [whereTo_zero, lookFrom]
  | succ j ih =>
    obtain ⟨i1, i2⟩ := ih (by omega)
    have hjl : j < l.length := by omega
    have hjb : j < b.length := by omega
    have hz : ((l.zip b).take j).length = j := by simp; omega
    have hb : bs[j]?.getD false = b[j] := by
      subst hbs
      rw [List.getElem?_take, if_pos (by omega), List.getElem?_eq_getElem hjb]; rfl
    rw [take_zip hjl hjb, lookFrom_snoc, hz]
    cases e : b[j] with
    | false =>
      rw [e] at hb
      rw [whereTo_miss (by omega) hb, if_neg (by simp), List.append_nil]
      exact ⟨i1, i2⟩
    | true =>
      rw [e] at hb
      rw [whereTo_hit (by omega) hb, if_pos rfl, List.map_append, List.map_append, List.map_append, List.map_append, i1, i2]
      simp [hjl]
theorem where_all (l : List Int) (b : List Bool) (bs : List Bool) (hbs : bs = b.take (min l.length b.length)) :
    (whereTo bs bs.length).map (fun x => (x.val : Int)) = placesP (l.zip b) ∧ (whereTo bs bs.length).map (fun x => l[x.val]?.getD 0) = looksP (l.zip b) := by
  have hlen : bs.length = min l.length b.length := by rw [hbs]; simp
  have := where_look l b bs hbs bs.length (Nat.le_refl _)
  rwa [List.take_of_length_le (by simp; omega)] at this
end Go.Proofs.YtnadcdgpfopcaaaGreat

namespace Go.Proofs.YtnadcdgpfopcaaaGreat
open Go.RowKit Go.Shelf

attribute [local go_sem] Oper.semAt_some

theorem info_ints : (Tryz.prog.info? 3).map (fun i => (i.zero, i.size, i.bytes)) = some (some (.int .i64 0), 1, 8) := by kernel_rfl
/-- A row of ints from B on. -/
abbrev IOw (W : World) (B : Nat) (v : Value) (l : List Int) : Prop := W.ownsRow B 3 1 v l.length (l.map (Value.int .i64))
theorem own_keepw {W W' : World} {B : Nat} {t : TypeId} {sz n : Nat} {v : Value} {xs : List Value} (h : W.ownsRow B t sz v n xs) (hk : ∀ k o, B ≤ k → v.ownBlock = some k → W.heap[k]? = some o → o.isCells = true → W'.heap[k]? = W.heap[k]?) : W'.ownsRow B t sz v n xs := by
  refine ⟨h.1, h.2.imp id ?_⟩
  rintro ⟨g, cap, cur, hv, hb, hg, hr⟩
  exact ⟨g, cap, cur, hv, hb, (hk g _ hb (by rw [hv]; rfl) hg rfl).trans hg, hr⟩
theorem own_cells {W : World} {B : Nat} {t : TypeId} {sz n : Nat} {v : Value} {xs : List Value} (h : W.ownsRow B t sz v n xs) {k : Nat} {o : Obj} (hk : v.ownBlock = some k) (ho : W.heap[k]? = some o) : o.isCells = true := by
  rcases h.2 with ⟨e, _⟩ | ⟨g', cap', cur, e, _, hgb, _⟩
  · rw [e] at hk; simp [Value.ownBlock] at hk
  · rw [e] at hk
    obtain rfl : g' = k := by simpa [Value.ownBlock] using hk
    rw [hgb] at ho; cases ho; rfl

/-- look's walk: the boxes of the counts and of the two lists, the first list's row; v2 is the second one's value. -/
structure LkB (w W : World) (B0 i1 i2 : Nat) (cv v1 v2 : Value) (P : List Int) : Prop where
  boxC : Boxed W w.heap.size 24 cv
  box1 : Boxed W i1 24 v1
  box2 : Boxed W i2 24 v2
  row1 : IOw W B0 v1 P
  own2 : ∀ k, v2.ownBlock = some k → B0 ≤ k ∧ k < W.heap.size ∧ v1.ownBlock ≠ some k
  below : Below w.heap.size w W
  sz : B0 ≤ W.heap.size
  ne : w.heap.size < i1 ∧ w.heap.size < i2 ∧ i1 ≠ i2 ∧ i1 < B0 ∧ i2 < B0
def LkG (w W : World) (B0 i1 i2 : Nat) (cv v1 v2 : Value) (P L : List Int) : Prop := LkB w W B0 i1 i2 cv v1 v2 P ∧ IOw W B0 v2 L
section
variable {w W W' W0 : World} {B0 i1 i2 : Nat} {cv v1 v2 : Value} {P L : List Int}
theorem LkG.swap (h : LkG w W B0 i1 i2 cv v1 v2 P L) : LkG w W B0 i2 i1 cv v2 v1 L P :=
  ⟨⟨h.1.boxC, h.1.box2, h.1.box1, h.2, fun k hk => ⟨(h.1.row1.lt k hk).1, (h.1.row1.lt k hk).2, fun e => (h.1.own2 k e).2.2 hk⟩, h.1.below, h.1.sz, ⟨h.1.ne.2.1, h.1.ne.1, h.1.ne.2.2.1.symm, h.1.ne.2.2.2.2, h.1.ne.2.2.2.1⟩⟩, h.1.row1⟩
theorem LkB.move (h : LkB w W B0 i1 i2 cv v1 v2 P) (hs : W.heap.size ≤ W'.heap.size) (hb : Below w.heap.size w W') (hk : ∀ k o, w.heap.size ≤ k → v2.ownBlock ≠ some k → W.heap[k]? = some o → o.isCells = true → W'.heap[k]? = W.heap[k]?) : LkB w W' B0 i1 i2 cv v1 v2 P := by
  obtain ⟨n1, n2, n3, n4, n5⟩ := h.ne
  have hne : ∀ i, i < B0 → v2.ownBlock ≠ some i := fun i hi e => by have := (h.own2 i e).1; omega
  refine ⟨(hk _ _ (Nat.le_refl _) (hne _ (by omega)) h.boxC rfl).trans h.boxC, (hk _ _ (by omega) (hne _ n4) h.box1 rfl).trans h.box1, (hk _ _ (by omega) (hne _ n5) h.box2 rfl).trans h.box2, own_keepw h.row1 fun k o hB hv ho hc => hk k o (by omega) (fun e => (h.own2 k e).2.2 hv) ho hc, fun k hk' => ?_, hb, by have := h.sz; omega, h.ne⟩
  obtain ⟨a1, a2, a3⟩ := h.own2 k hk'
  exact ⟨a1, by omega, a3⟩
theorem LkB.more (h : LkB w W B0 i1 i2 cv v1 v2 P) (hb : Below W.heap.size W W') : LkB w W' B0 i1 i2 cv v1 v2 P :=
  h.move hb.size (h.below.trans (hb.mono h.below.size)) fun k _ _ _ ho _ => hb.block k (lt_size ho)
theorem LkB.wrote (h : LkB w W B0 i1 i2 cv v1 v2 P) (hg : W.grownBy W' v2.ownBlock) : LkB w W' B0 i1 i2 cv v1 v2 P :=
  h.move hg.size (h.below.grown hg h.below.size fun r e => by have := (h.own2 r e).1; have := h.ne; omega) fun k _ _ hv ho _ => hg.block k (lt_size ho) fun e => hv e.symm
theorem LkB.grown {row : Option Nat} (h : LkB w W B0 i1 i2 cv v1 v2 P) (hg : W.grownBy W' row) (hrow : ∀ r, row = some r → w.heap.size ≤ r ∧ ∃ o : Obj, W.heap[r]? = some o ∧ o.isCells = false) : LkB w W' B0 i1 i2 cv v1 v2 P :=
  h.move hg.size (h.below.grown hg h.below.size fun r e => (hrow r e).1) fun k _ _ _ ho hc => hg.block k (lt_size ho) fun e => by
    obtain ⟨_, o', ho', hc'⟩ := hrow k e.symm
    rw [ho] at ho'; cases ho'; rw [hc] at hc'; cases hc'
theorem LkB.stored {v2' : Value} {L' : List Int} (h : LkB w W B0 i1 i2 cv v1 v2 P) (hr : IOw W B0 v2' L') (hap : ∀ k, v2'.ownBlock = some k → v1.ownBlock ≠ some k) : LkG w (W.setCell ⟨i2, 0, none⟩ v2') B0 i1 i2 cv v1 v2' P L' := by
  obtain ⟨n1, n2, n3, n4, n5⟩ := h.ne
  have far : ∀ k, k ≠ i2 → (W.setCell ⟨i2, 0, none⟩ v2').heap[k]? = W.heap[k]? := fun k hk => Below.heap_setCell W ⟨i2, 0, none⟩ _ k hk
  refine ⟨⟨(far _ (by omega)).trans h.boxC, (far _ n3).trans h.box1, h.box2.set v2', own_keepw h.row1 fun k o hB _ _ _ => far k (by omega), fun k hk => ⟨(hr.lt k hk).1, by simpa using (hr.lt k hk).2, hap k hk⟩, h.below.setCell (p := ⟨i2, 0, none⟩) (by show w.heap.size ≤ i2; omega) _, by simpa using h.sz, h.ne⟩, own_keepw hr fun k o hB _ _ _ => far k (by omega)⟩
theorem LkG.again (h : LkG w W B0 i1 i2 cv v1 v2 P L) : LkG w (W.setCell ⟨i2, 0, none⟩ v2) B0 i1 i2 cv v1 v2 P L := h.1.stored h.2 fun k hk => (h.1.own2 k hk).2.2
theorem LkG.again1 (h : LkG w W B0 i1 i2 cv v1 v2 P L) : LkG w (W.setCell ⟨i1, 0, none⟩ v1) B0 i1 i2 cv v1 v2 P L := h.swap.again.swap
theorem LkG.grown {row : Option Nat} (h : LkG w W B0 i1 i2 cv v1 v2 P L) (hg : W.grownBy W' row) (hrow : ∀ r, row = some r → w.heap.size ≤ r ∧ ∃ o : Obj, W.heap[r]? = some o ∧ o.isCells = false) : LkG w W' B0 i1 i2 cv v1 v2 P L :=
  ⟨h.1.grown hg hrow, (h.swap.1.grown hg hrow).row1⟩
theorem LkG.more (h : LkG w W B0 i1 i2 cv v1 v2 P L) (hb : Below W.heap.size W W') : LkG w W' B0 i1 i2 cv v1 v2 P L := ⟨h.1.more hb, (h.swap.1.more hb).row1⟩
theorem keeps_app {B : Nat} {v : Value} {l : List Int} (hr : IOw W B v l) (hg : W.grownBy W' v.ownBlock) : KeepsOthers W W' := KeepsOthers.of_grownBy hg fun _ _ ej hj => own_cells hr ej hj
end
/-- What look leaves: the places and the counts, each in a row of its own, in new memory. -/
def LookPost (zs : List (Int × Bool)) (w : World) (e : Ending) (W : World) : Prop :=
  ∃ v1 v2, e = .returned (.tuple #[v1, v2]) ∧ IOw W w.heap.size v1 (placesP zs) ∧ IOw W w.heap.size v2 (looksP zs) ∧ Below w.heap.size w W
/-- Which of the region's operations wait for which. -/
def waitsL : List (Nat × Nat) := [(3, 1), (3, 2), (4, 3), (5, 4), (6, 0), (6, 5), (7, 6)]
def ClosedL (d : Nat → Bool) : Prop := ∀ x ∈ waitsL, d x.1 = true → d x.2 = true
theorem ClosedL.also {d : Nat → Bool} {i : Nat} (h : ClosedL d) (hw : ∀ x ∈ waitsL, x.1 = i → d x.2 = true) : ClosedL (also d i) := fun x hx hd => by
  unfold Go.Proofs.YtnadcdgpfopcaaaGreat.also at hd ⊢
  by_cases h2 : x.2 = i
  · rw [if_pos h2]
  · rw [if_neg h2]
    by_cases h1 : x.1 = i
    · exact hw x hx h1
    · rw [if_neg h1] at hd
      exact h x hx hd
theorem ClosedL.seven {d : Nat → Bool} (h : ClosedL d) (h7 : d 7 = true) : d 0 = true ∧ d 1 = true ∧ d 2 = true ∧ d 3 = true ∧ d 4 = true ∧ d 5 = true ∧ d 6 = true := by
  have h6 := h (7, 6) (by simp [waitsL]) h7
  have h5 := h (6, 5) (by simp [waitsL]) h6
  have h4 := h (5, 4) (by simp [waitsL]) h5
  have h3 := h (4, 3) (by simp [waitsL]) h4
  exact ⟨h (6, 0) (by simp [waitsL]) h6, h (3, 1) (by simp [waitsL]) h3, h (3, 2) (by simp [waitsL]) h3, h3, h4, h5, h6⟩
theorem ClosedL.no7 {d : Nat → Bool} (h : ClosedL d) (hn : ¬ (d 0 = true ∧ d 1 = true ∧ d 2 = true ∧ d 3 = true ∧ d 4 = true ∧ d 5 = true ∧ d 6 = true)) : d 7 = false := by
  cases e : d 7 with
  | false => rfl
  | true => exact absurd (h.seven e) hn
end Go.Proofs.YtnadcdgpfopcaaaGreat

namespace Go.Proofs.YtnadcdgpfopcaaaGreat
open Go.RowKit Go.Shelf

attribute [local go_sem] Oper.semAt_some

/-- There is room up to the length; nil has none. -/
def Roomy (A : Option Addr) (c n : Nat) : Prop := n ≤ c ∧ (A = none → c = 0)
theorem bools_in {w : World} {A : Option Addr} {b : List Bool} {c m : Nat} (h : BA w A b) (hr : Roomy A c b.length) (hm : m ≤ b.length) : BoolsIn w (.slice A m c) (b.take m) := by
  obtain ⟨h1, h2⟩ := hr
  cases A with
  | none =>
    have hc := h2 rfl
    subst hc
    have hm0 : m = 0 := by omega
    subst hm0
    exact .inl ⟨rfl, rfl⟩
  | some ad =>
    refine .inr ⟨ad, c, by simp; omega, fun j hj => ?_⟩
    have hj' : j < b.length := by simp at hj; omega
    obtain ⟨B, o, e, _, hc⟩ := h (by omega)
    cases e
    have ea : (⟨B, o, none⟩ : Addr).add j = ⟨B, o + j, none⟩ := by
      unfold Addr.add
      split
      · next e => subst e; rfl
      · rfl
    rw [ea, hc j hj']
    simp at hj ⊢
    rw [List.getElem?_take, if_pos (by omega), List.getElem?_eq_getElem hj']; rfl
theorem ownsRow_mono {W : World} {b b' : Nat} {e : TypeId} {size : Nat} {v : Value} {k : Nat} {xs : List Value} (h : W.ownsRow b e size v k xs) (hb : b' ≤ b) : W.ownsRow b' e size v k xs := by
  obtain ⟨h1, h2⟩ := h
  refine ⟨h1, ?_⟩
  rcases h2 with h2 | ⟨g, cap, cur, hv, hg, r⟩
  · exact Or.inl h2
  · exact Or.inr ⟨g, cap, cur, hv, Nat.le_trans hb hg, r⟩
theorem addr_at (B o j : Nat) : (⟨B, o, none⟩ : Addr).add j = ⟨B, o + j, none⟩ := by
  unfold Addr.add
  split
  · next e => subst e; rfl
  · rfl
theorem pre_short {bs : List Bool} {pre : List (Fin bs.length)} {n : Nat} (h : pre.length < (whereTo bs n).length) : pre.length < bs.length := by
  have h2 : (whereTo bs n).length ≤ bs.length := by
    unfold whereTo
    refine Nat.le_trans (List.length_filter_le _ _) ?_
    simp
    omega
  omega
theorem wpIn_worldw {F : Fence} {n : Nat} {P : Program} {c : Code} {Q : Exit → Act → World → Prop} {a : Act} {w : World} (h : ∀ W, W = w → c.wpIn F n P Q a W) : c.wpIn F n P Q a w := h w rfl
/-- The way out: the boxes' values are the results. -/
theorem LkG.leave {w W : World} {i1 i2 B0 D m : Nat} {cv : Value} {p1 p2 : Option Addr} {c1 c2 : Nat} {P L : List Int} {zs : List (Int × Bool)} (h : LkG w W B0 i1 i2 cv (.slice p1 P.length c1) (.slice p2 L.length c2) P L) (hP : P = placesP zs) (hL : L = looksP zs) (hD : w.heap.size ≤ D) (hd : W.heap[D]? = some (.deferred (some []))) (tmps : Array Value)
    (hr : ∀ W' : World, W'.cell? ⟨i1, 0, none⟩ = some (.slice p1 P.length c1) → W'.cell? ⟨i2, 0, none⟩ = some (.slice p2 L.length c2) → (results Tryz.f140 tmps).run Tryz.prog W' = .ok (.tuple #[.slice p1 P.length c1, .slice p2 L.length c2]) W') :
    LeavesInM Fence.wide m Tryz.prog Tryz.f140 tmps (LookPost zs w) [{ target := Target.collected D, args := #[] }] .returning W := by
  subst hP hL
  refine ⟨by simp, .inl ⟨_, _, rfl, run_takeDeferred hd, ?_⟩⟩
  have hg := grownBy_putObj' W D (.deferred none)
  have h2 := h.grown hg fun r e => by cases e; exact ⟨hD, _, hd, rfl⟩
  have hlow : w.heap.size ≤ B0 := by have := h.1.ne; omega
  exact ⟨_, hr _ h2.1.box1.cell h2.1.box2.cell, _, _, rfl, ownsRow_mono h2.1.row1 hlow, ownsRow_mono h2.2 hlow, h2.1.below⟩
set_option maxRecDepth 100000 in
set_option maxHeartbeats 4000000 in
theorem look_any (A A' : Option Addr) (c c' : Nat) (l : List Int) (b : List Bool) (w : World) (hl : l.length ≤ 1000000) (hb : b.length ≤ 1000000) (hA : IA w A l) (hA' : BA w A' b) (hR : Roomy A' c' b.length) :
    Calls Tryz.prog 140 #[.slice A l.length c, .slice A' b.length c'] w (LookPost (l.zip b) w) := by
  obtain ⟨i0, hi, hz0, hz1, hz2⟩ := info_parts info_ints
  obtain ⟨bs, hbs⟩ : ∃ bs, b.take (min l.length b.length) = bs := ⟨_, rfl⟩
  have hbsl : bs.length = min l.length b.length := by rw [← hbs]; simp
  have hc1 : b.length ≤ c' := hR.1
  have HW := Lib.hid (where_all l b bs hbs.symm)
  have HB1 : Hid (b.length < l.length → ∀ W, Below w.heap.size w W → BoolsIn W (.slice A' b.length c') bs) := Lib.hid fun h W hW => by
    have := bools_in (hA'.below hW) hR (Nat.le_refl b.length)
    rwa [show b.take b.length = bs by rw [← hbs, Nat.min_eq_right (by omega)]] at this
  have HB2 : Hid (l.length ≤ b.length → ∀ W, Below w.heap.size w W → BoolsIn W (.slice A' l.length c') bs) := Lib.hid fun h W hW => by
    have := bools_in (hA'.below hW) hR h
    rwa [show b.take l.length = bs by rw [← hbs, Nat.min_eq_left h]] at this
  have HA := Lib.hid hA
  have HL := Lib.hid hbsl
  clear hA hA' hR hbs hbsl
  refine callsIn_wide.1 (callsIn_of_wp_marks (n := 3) Tryz.func140 rfl trivial ?_ rfl)
  simp only [Tryz.ntmps140, List.size_toArray, List.length_cons, List.length_nil, Nat.reduceAdd, Nat.reduceSub, Array.replicate_succ, Array.replicate_zero, List.push_toArray, List.append_toArray, List.nil_append, List.cons_append]
  have a1 := Boxed.new w 24 (.slice A l.length c)
  have a2 := Boxed.new (w.alloc (.cells #[.slice A l.length c] 24)) 24 (.slice none 0 0)
  have a3 := Boxed.new ((w.alloc (.cells #[.slice A l.length c] 24)).alloc (.cells #[.slice none 0 0] 24)) 24 (.slice none 0 0)
  simp only [World.size_alloc] at a2 a3
  obtain ⟨W0, hW0⟩ : ∃ W0, W0 = ((w.alloc (.cells #[.slice A l.length c] 24)).alloc (.cells #[.slice none 0 0] 24)).alloc (.cells #[.slice none 0 0] 24) := ⟨_, rfl⟩
  have hz : W0.heap.size = w.heap.size + 1 + 1 + 1 := by rw [hW0]; simp
  have hB0 : Below w.heap.size w W0 := by rw [hW0]; exact (((Below.refl _ w).alloc (Nat.le_refl _) _).alloc (by simp) _).alloc (by simp; omega) _
  have hM0 : ∀ w1, Below W0.heap.size W0 w1 → LkG w w1 w1.heap.size (w.heap.size + 1) (w.heap.size + 1 + 1) (.slice A l.length c) (.slice none 0 0) (.slice none 0 0) [] [] := fun w1 h1 => by
    have b1 : Boxed W0 w.heap.size 24 (.slice A l.length c) := by rw [hW0]; exact (a1.alloc _).alloc _
    have b2 : Boxed W0 (w.heap.size + 1) 24 (.slice none 0 0) := by rw [hW0]; exact a2.alloc _
    have b3 : Boxed W0 (w.heap.size + 1 + 1) 24 (.slice none 0 0) := by rw [hW0]; exact a3
    have hs := h1.size
    exact ⟨⟨(h1.block _ b1.lt).trans b1, (h1.block _ b2.lt).trans b2, (h1.block _ b3.lt).trans b3, World.ownsRow_nil _ _ _ _, (fun k e => by cases e), hB0.trans (h1.mono hB0.size), Nat.le_refl _, by omega⟩, World.ownsRow_nil _ _ _ _⟩
  have HM0 := Lib.hid hM0
  have HZ := Lib.hid hz
  have HBw := Lib.hid hB0
  clear a1 a2 a3 hz hB0 hM0
  have hlen2 : bs.length ≤ 1000000 := by rw [HL.out]; omega
  have HWh : Hid (∀ v, BoolsIn W0 v bs → CallsIn Fence.wide 2 Tryz.prog 157 #[v] W0 (WherePost bs W0)) := Lib.hid fun v hv => callsIn_wide.2 (where_any v bs hlen2 W0 hv)
  gi_wp2_with (refine ⟨trivial, ?_⟩; (try refine ⟨wide_depth _, ?_⟩); gi_at_call 157; rw [← hW0]; (first | refine (HWh.out _ (HB1.out (by assumption) W0 HBw.out)).mono ?_ | refine (HWh.out _ (HB2.out (by omega) W0 HBw.out)).mono ?_); rintro e w1 ⟨BW, bw, rfl, hb0, hb1, hseq, hbel⟩)
  all_goals
    have H1 := Lib.hid (HM0.out w1 hbel)
    have HS1 := Lib.hid hbel.size
    have Hb0 := Lib.hid hb0
    have Hb1 := Lib.hid hb1
    clear hbel hb0 hb1
    apply wpIn_rangeFunc_ownG rfl (n := 3) (by omega) (gf := 179) (lb := #[.pointer (some ⟨BW, 0, none⟩)]) rfl trivial enters_where
      (hseq (3 - 1)) (fun h k => KeepsBlk.trans h k) (keepsBlk_b Hb1.out) (Below.refl _ _) (fun _ => rfl)
      (fun pre W => ∃ v1 v2, LkG w W w1.heap.size (w.heap.size + 1) (w.heap.size + 1 + 1) (.slice A l.length c) v1 v2 (pre.map fun x => (x.val : Int)) (pre.map fun x => l[x.val]?.getD 0))
      (fun _ _ _ => False)
      ?own ?ownx ?start
    case own =>
      rintro s X Y row ⟨v1, v2, hs⟩ hg hrow
      exact ⟨v1, v2, hs.grown hg fun r e => ⟨by have := (hrow r e).1; have := HS1.out; have := HZ.out; omega, (hrow r e).2⟩⟩
    case ownx => exact fun _ _ _ _ _ h _ _ => h
    case start => exact ⟨_, _, H1.out⟩
    case hassign =>
      intro l x W K hK
      gi_wp2
      exact hK
    case hbody =>
      rintro ll pre x W ⟨v1, v2, hM⟩ hlt
      have hlt2 := pre_short hlt
      have hxl : x.val < l.length := by have := x.isLt; have := HL.out; omega
      obtain ⟨Bk, oo, hAe, hBk, hcell⟩ := HA.out (by omega)
      obtain ⟨y, hy⟩ : ∃ y, l[x.val]'hxl = y := ⟨_, rfl⟩
      have hyd : l[x.val]?.getD 0 = y := by rw [List.getElem?_eq_getElem hxl]; exact hy
      have hcy : w.cell? ⟨Bk, oo + x.val, none⟩ = some (.int .i64 y) := by rw [← hy]; exact hcell x.val hxl
      have hPl : (pre.map fun x => (x.val : Int)).length ≤ 1000000 := by simp; omega
      have hLl : (pre.map fun x => l[x.val]?.getD 0).length ≤ 1000000 := by simp; omega
      obtain ⟨P, hP⟩ : ∃ P, (pre.map fun x => (x.val : Int)) = P := ⟨_, rfl⟩
      obtain ⟨L, hL⟩ : ∃ L, (pre.map fun x => l[x.val]?.getD 0) = L := ⟨_, rfl⟩
      rw [hP] at hM hPl
      rw [hL] at hM hLl
      have HP := Lib.hid hP
      have HLL := Lib.hid hL
      have HY := Lib.hid hyd
      subst hAe
      clear hcell hy hlt hlt2 hP hL hyd
      have hc1 := hM.1.box1.cell
      have hrow := hM.1.row1
      have hsz := hM.1.sz
      have HM := Lib.hid hM
      clear hM
      gi_wp2_with (gi_at_builtin; refine wpListIn_append_own_at _ rfl _ _ 24 rfl w1.heap.size 3 i0 (.int .i64 0) 1 8 Tryz.underlying24 hi hz0 hz1 hz2 rfl (by decide) _ _ _ rfl (hrow.alloc _) ⟨W.heap.size, 0, none⟩ 1 1 [.int .i64 (x.val : Int)] rfl rfl (cell_one_new _ _ _) (by simp [Value.oneCell']) (by unfold maxLen; omega) (by omega) (by simp; omega) ?_; intro v' w2 hown' hgrow _ hat; obtain ⟨g', cap', rfl⟩ := ownsRow_succ hown'; have hB2 := (HM.out.swap.1.more ((Below.refl _ W).alloc (Nat.le_refl _) _)).wrote hgrow; have hc2 := hB2.box2.cell; have hf2 := hB2.box2.frozen; have HB2 := Lib.hid hB2; clear hB2)
      refine wpIn_worldw ?_
      intro W1 hW1
      have hown1 : IOw w2 w1.heap.size (.slice (some ⟨g', 0, none⟩) (P.length + 1) cap') (P ++ [(x.val : Int)]) := by
        unfold IOw
        rw [List.length_append, List.map_append]
        exact hown'
      have hlow := HM.out.1.ne
      have hapl := HM.out.1.own2
      have hM1 : LkG w W1 w1.heap.size (w.heap.size + 1) (w.heap.size + 1 + 1) (.slice (some ⟨Bk, oo, none⟩) l.length c) (.slice (some ⟨g', 0, none⟩) (P.length + 1) cap') v2 (P ++ [(x.val : Int)]) L := by
        rw [hW1]
        refine (HB2.out.stored hown1 fun k hk e => ?_).swap
        obtain ⟨_, k2, k3⟩ := hapl k e
        rcases hat with h | h
        · exact k3 (h.symm.trans hk)
        · rw [h] at hk
          simp at hk
          omega
      have hKO : KeepsOthers W W1 := by
        rw [hW1]
        exact ((KeepsOthers.alloc W _).trans (keeps_app (hrow.alloc _) hgrow)).trans (KeepsOthers.setCell _ _ _)
      have hbw : W1.heap[bw]? = W.heap[bw]? := by
        have h0 := Hb0.out
        have h1 := HZ.out
        have h2 := Hb1.out
        rw [hW1]
        refine (Below.heap_setCell w2 ⟨w.heap.size + 1, 0, none⟩ _ bw (by show bw ≠ w.heap.size + 1; omega)).trans ((hgrow.block bw (by simp; omega) fun e => ?_).trans (Below.heap_alloc _ _ _ (by omega)))
        have := (hrow.lt bw e.symm).1
        omega
      have hsz1 : W.heap.size ≤ W1.heap.size := hKO.size
      have HM1 := Lib.hid hM1
      have HKO := Lib.hid hKO
      have HBW := Lib.hid hbw
      obtain ⟨V1, hV1⟩ : ∃ V1 : Value, V1 = .slice (some ⟨g', 0, none⟩) (P.length + 1) cap' := ⟨_, rfl⟩
      rw [← hV1] at HM1
      have hbB : bw < w1.heap.size := Hb1.out
      have hbi : bw ≠ w.heap.size + 1 + 1 := by have := Hb0.out; have := HZ.out; omega
      clear hW1 hM1 hKO hbw hown1 hown' hgrow hat hc1 hc2 hf2 HB2 hrow hapl
      refine region_inv_in2 (fun j v w' => match j with
          | 0 => v = v2
          | 1 => v = .slice (some ⟨Bk, oo, none⟩) l.length c
          | 2 => v = .int .i64 (x.val : Int)
          | 3 => v = .pointer (some ⟨Bk, oo + x.val, none⟩)
          | 4 => v = .int .i64 y
          | 5 => ∃ Q, v = .slice (some ⟨Q, 0, none⟩) 1 1 ∧ W1.heap.size ≤ Q ∧ w'.heap[Q]? = some (.cells #[.int .i64 y] 3 (0, 0))
          | 6 => IOw w' w1.heap.size v (L ++ [y]) ∧ ∀ k, v.ownBlock = some k → V1.ownBlock ≠ some k
          | _ => True)
        (fun d w' => ClosedL d ∧ KeepsFrom w1.heap.size W1 w' ∧ W1.heap.size ≤ w'.heap.size ∧ w'.heap[bw]? = W1.heap[bw]? ∧ (d 7 = false → LkB w w' w1.heap.size (w.heap.size + 1) (w.heap.size + 1 + 1) (.slice (some ⟨Bk, oo, none⟩) l.length c) V1 v2 (P ++ [(x.val : Int)])) ∧ (d 6 = false → IOw w' w1.heap.size v2 L) ∧ (d 7 = true → ∃ v2', LkG w w' w1.heap.size (w.heap.size + 1) (w.heap.size + 1 + 1) (.slice (some ⟨Bk, oo, none⟩) l.length c) V1 v2' (P ++ [(x.val : Int)]) (L ++ [y])))
        (by kernel_rfl) (by kernel_rfl) (by kernel_rfl) (by kernel_rfl) ?hG ?hops ?hend
      case hG => exact ⟨fun _ _ h => Bool.noConfusion h, keepsFrom_below (Below.refl _ _).drew, Nat.le_refl _, rfl, fun _ => HM1.out.1.more (Below.refl _ _).drew, fun _ => (HM1.out.more (Below.refl _ _).drew).2, fun h => Bool.noConfusion h⟩
      case hops =>
        refine OpsOk2.cons ?o0 (OpsOk2.cons ?o1 (OpsOk2.cons ?o2 (OpsOk2.cons ?o3 (OpsOk2.cons ?o4 (OpsOk2.cons ?o5 (OpsOk2.cons ?o6 (OpsOk2.cons ?o7 OpsOk2.nil)))))))
        case o0 =>
          intro a w3 d Kx hd hG need old hsz hK
          obtain ⟨hc, hkf, hs, hbk, g1, g2, g3⟩ := hG
          have h7 := hc.no7 (by rw [hd]; simp)
          have cL := (g1 h7).box2.cell
          have e0 : a.tmps[5]?.getD undef = .pointer (some ⟨w.heap.size + 1 + 1, 0, none⟩) := by
            rw [← Array.getD_eq_getD_getElem?]
            exact old 5 (by kernel_rfl)
          refine op_value (v := v2) (wanted_none rfl) ?_ (hK _ w3 rfl ⟨hc.also (by simp [waitsL]), hkf, hs, hbk, g1, g2, g3⟩ fun _ _ _ _ h => h)
          obtain ⟨p2, cap2, hv2⟩ := ownsRow_slice HM1.out.2
          rw [hv2] at cL ⊢
          simp [execOp, go_sem, e0, cL]
        case o1 =>
          intro a w3 d Kx hd hG need old hsz hK
          obtain ⟨hc, hkf, hs, hbk, g1, g2, g3⟩ := hG
          have h7 := hc.no7 (by rw [hd]; simp)
          have cL := (g1 h7).boxC.cell
          have e0 : a.tmps[2]?.getD undef = .pointer (some ⟨w.heap.size, 0, none⟩) := by
            rw [← Array.getD_eq_getD_getElem?]
            exact old 2 (by kernel_rfl)
          refine op_value (v := .slice (some ⟨Bk, oo, none⟩) l.length c) (wanted_none rfl) ?_ (hK _ w3 rfl ⟨hc.also (by simp [waitsL]), hkf, hs, hbk, g1, g2, g3⟩ fun _ _ _ _ h => h)
          simp [execOp, go_sem, e0, cL]
        case o2 =>
          intro a w3 d Kx hd hG need old hsz hK
          obtain ⟨hc, hkf, hs, hbk, g1, g2, g3⟩ := hG
          have e0 : a.tmps[7]?.getD undef = .int .i64 (x.val : Int) := by
            rw [← Array.getD_eq_getD_getElem?]
            exact old 7 (by kernel_rfl)
          refine op_value (v := .int .i64 (x.val : Int)) (wanted_none rfl) ?_ (hK _ w3 rfl ⟨hc.also (by simp [waitsL]), hkf, hs, hbk, g1, g2, g3⟩ fun _ _ _ _ h => h)
          simp [execOp, go_sem, e0]
        case o3 =>
          intro a w3 d Kx hd hG need old hsz hK
          obtain ⟨hc, hkf, hs, hbk, g1, g2, g3⟩ := hG
          obtain ⟨d1, n1⟩ := need 1 (by kernel_rfl) (by kernel_rfl)
          obtain ⟨d2, n2⟩ := need 2 (by kernel_rfl) (by kernel_rfl)
          have e0 : a.tmps[23]?.getD undef = .slice (some ⟨Bk, oo, none⟩) l.length c := by
            rw [← Array.getD_eq_getD_getElem?]
            exact n1
          have e1 : a.tmps[24]?.getD undef = .int .i64 (x.val : Int) := by
            rw [← Array.getD_eq_getD_getElem?]
            exact n2
          refine op_value (v := .pointer (some ⟨Bk, oo + x.val, none⟩)) (wanted_none rfl) ?_ (hK _ w3 rfl ⟨hc.also fun y hy e => ?_, hkf, hs, hbk, g1, g2, g3⟩ fun _ _ _ _ h => h)
          · simp [execOp, go_sem, e0, e1, hxl]
          · simp [waitsL] at hy
            rcases hy with rfl | rfl | rfl | rfl | rfl | rfl | rfl <;> first | exact d1 | exact d2 | (exact absurd e (by decide))
        case o4 =>
          intro a w3 d Kx hd hG need old hsz hK
          obtain ⟨hc, hkf, hs, hbk, g1, g2, g3⟩ := hG
          have h7 := hc.no7 (by rw [hd]; simp)
          obtain ⟨d3, n3⟩ := need 3 (by kernel_rfl) (by kernel_rfl)
          have cy := ((g1 h7).below.cell (p := ⟨Bk, oo + x.val, none⟩) hBk).trans hcy
          have e0 : a.tmps[25]?.getD undef = .pointer (some ⟨Bk, oo + x.val, none⟩) := by
            rw [← Array.getD_eq_getD_getElem?]
            exact n3
          refine op_value (v := .int .i64 y) (wanted_none rfl) ?_ (hK _ w3 rfl ⟨hc.also fun y hy e => ?_, hkf, hs, hbk, g1, g2, g3⟩ fun _ _ _ _ h => h)
          · simp [execOp, go_sem, e0, cy]
          · simp [waitsL] at hy
            rcases hy with rfl | rfl | rfl | rfl | rfl | rfl | rfl <;> first | exact d3 | (exact absurd e (by decide))
        case o5 =>
          intro a w3 d Kx hd hG need old hsz hK
          obtain ⟨hc, hkf, hs, hbk, g1, g2, g3⟩ := hG
          have h7 := hc.no7 (by rw [hd]; simp)
          obtain ⟨d4, n4⟩ := need 4 (by kernel_rfl) (by kernel_rfl)
          have e0 : a.tmps[26]?.getD undef = .int .i64 y := by
            rw [← Array.getD_eq_getD_getElem?]
            exact n4
          have hbw3 : Below w3.heap.size w3 (w3.alloc (.cells #[.int .i64 y] 3)) := (Below.refl _ _).alloc (Nat.le_refl _) _
          refine op_value (v := .slice (some ⟨w3.heap.size, 0, none⟩) 1 1) (w' := w3.alloc (.cells #[.int .i64 y] 3)) (wanted_none rfl) ?_
            (hK _ _ ⟨w3.heap.size, rfl, hs, heap_alloc_new _ _⟩ ⟨hc.also fun y hy e => ?_, hkf.trans (keepsFrom_below hbw3), Nat.le_trans hs hbw3.size, (hbw3.block _ (by omega)).trans hbk, fun _ => (g1 h7).more hbw3, fun h6 => own_keepw (g2 h6) fun k _ _ _ ho _ => hbw3.block k (lt_size ho), fun h => absurd (h7.symm.trans h) (by decide)⟩ ?_)
          · simp [execOp, go_sem, e0]
          · simp [waitsL] at hy
            rcases hy with rfl | rfl | rfl | rfl | rfl | rfl | rfl <;> first | exact d4 | (exact absurd e (by decide))
          · intro j u hj hdj hu
            match j, hu with
            | 0, hu => exact hu
            | 1, hu => exact hu
            | 2, hu => exact hu
            | 3, hu => exact hu
            | 4, hu => exact hu
            | 5, _ => exact absurd rfl hj
            | 6, hu => exact ⟨own_keepw hu.1 fun k _ _ _ ho _ => hbw3.block k (lt_size ho), hu.2⟩
            | _ + 7, _ => trivial
        case o6 =>
          intro a w3 d Kx hd hG need old hsz hK
          obtain ⟨hc, hkf, hs, hbk, g1, g2, g3⟩ := hG
          have h7 := hc.no7 (by rw [hd]; simp)
          obtain ⟨d0, n0⟩ := need 0 (by kernel_rfl) (by kernel_rfl)
          obtain ⟨d5, Q, n5, hQ, hq⟩ := need 5 (by kernel_rfl) (by kernel_rfl)
          have hr2 := g2 hd
          have hB := g1 h7
          have e0 : a.tmps[22]?.getD undef = v2 := by
            rw [← Array.getD_eq_getD_getElem?]
            exact n0
          have e1 : a.tmps[27]?.getD undef = .slice (some ⟨Q, 0, none⟩) 1 1 := by
            rw [← Array.getD_eq_getD_getElem?]
            exact n5
          have hnews : ∀ (k : Nat) (u : Value), ([.int .i64 y] : List Value)[k]? = some u → w3.cell? ((⟨Q, 0, none⟩ : Addr).add k) = some u := fun k u hu => by
            rw [addr_at]
            simp only [World.cell?, hq]
            simpa using hu
          refine step_append_at rfl (.tmp 22) (.tmp 27) 24 rfl w1.heap.size 3 i0 (.int .i64 0) 1 8 Tryz.underlying24 hi hz0 hz1 hz2 rfl (by decide) v2 L.length (L.map (Value.int .i64)) (by simp [go_sem, e0]) hr2 ⟨Q, 0, none⟩ 1 1 [.int .i64 y] (by simp [go_sem, e1]) rfl hnews (by simp [Value.oneCell']) (by unfold maxLen; omega) (by omega) hB.sz ?_
          intro q2 cap2 w4 hown2 hg2 hob2
          have hnew : IOw w4 w1.heap.size (.slice q2 (L.length + 1) cap2) (L ++ [y]) := by
            unfold IOw
            rw [List.length_append, List.map_append]
            exact hown2
          have hV1lt := hB.row1.lt
          have hap : ∀ k, (Value.slice q2 (L.length + 1) cap2).ownBlock = some k → V1.ownBlock ≠ some k := fun k hk e => by
            rcases hob2 with h | h
            · exact (hB.own2 k (h.symm.trans hk)).2.2 e
            · rw [h] at hk
              simp at hk
              have := (hV1lt k e).2
              omega
          refine hK _ w4 ⟨hnew, hap⟩ ⟨hc.also fun y hy e => ?_, hkf.trans ((keeps_app hr2 hg2).from _), Nat.le_trans hs hg2.size, (hg2.block bw (by omega) fun e => by have := (hB.own2 bw e.symm).1; omega).trans hbk, fun _ => hB.wrote hg2, fun h6 => absurd h6 (by unfold also; simp), fun h => absurd (h7.symm.trans h) (by decide)⟩ ?_
          · simp [waitsL] at hy
            rcases hy with rfl | rfl | rfl | rfl | rfl | rfl | rfl <;> first | exact d0 | exact d5 | (exact absurd e (by decide))
          · intro j u hj hdj hu
            match j, hu with
            | 0, hu => exact hu
            | 1, hu => exact hu
            | 2, hu => exact hu
            | 3, hu => exact hu
            | 4, hu => exact hu
            | 5, ⟨Q', e, h1, h2⟩ => exact ⟨Q', e, h1, (hg2.block _ (lt_size h2) fun e => by have := (HM1.out.1.own2 _ e.symm).2.1; omega).trans h2⟩
            | 6, _ => exact absurd rfl hj
            | _ + 7, _ => trivial
        case o7 =>
          intro a w3 d Kx hd hG need old hsz hK
          obtain ⟨hc, hkf, hs, hbk, g1, g2, g3⟩ := hG
          obtain ⟨d6, hr6, hap⟩ := need 6 (by kernel_rfl) (by kernel_rfl)
          have hB := g1 hd
          obtain ⟨A2, c2, hv2⟩ := ownsRow_slice hr6
          have e0 : a.tmps[5]?.getD undef = .pointer (some ⟨w.heap.size + 1 + 1, 0, none⟩) := by
            rw [← Array.getD_eq_getD_getElem?]
            exact old 5 (by kernel_rfl)
          have e1 : a.tmps[28]?.getD undef = .slice A2 (L ++ [y]).length c2 := by
            rw [← Array.getD_eq_getD_getElem?]
            exact hv2
          rw [hv2] at hr6 hap
          have cL := hB.box2.cell
          have fL := hB.box2.frozen
          refine op_skip (wanted_none rfl) (w' := w3.setCell ⟨w.heap.size + 1 + 1, 0, none⟩ (.slice A2 (L ++ [y]).length c2)) ?_ (hK _ _ trivial ⟨hc.also fun y hy e => ?_, hkf.trans ((KeepsOthers.setCell _ _ _).from _), by simpa using hs, (Below.heap_setCell w3 ⟨w.heap.size + 1 + 1, 0, none⟩ _ bw hbi).trans hbk, fun h => absurd h (by unfold also; simp), fun h => absurd (d6.symm.trans h) (by decide), fun _ => ⟨_, hB.stored hr6 hap⟩⟩ ?_)
          · simp [execOp, go_sem, e0, e1, cL, fL]
          · simp [waitsL] at hy
            rcases hy with rfl | rfl | rfl | rfl | rfl | rfl | rfl <;> first | exact d6 | (exact absurd e (by decide))
          · intro j u hj hdj hu
            match j, hu with
            | 0, hu => exact hu
            | 1, hu => exact hu
            | 2, hu => exact hu
            | 3, hu => exact hu
            | 4, hu => exact hu
            | 5, ⟨Q', e, h1, h2⟩ => exact ⟨Q', e, h1, (Below.heap_setCell w3 ⟨w.heap.size + 1 + 1, 0, none⟩ _ Q' (fun e => by have e' : Q' = w.heap.size + 1 + 1 := e; omega)).trans h2⟩
            | 6, hu => exact ⟨own_keepw hu.1 fun k _ hk _ _ _ => Below.heap_setCell w3 ⟨w.heap.size + 1 + 1, 0, none⟩ _ k (fun e => by have e' : k = w.heap.size + 1 + 1 := e; omega), hu.2⟩
            | _ + 7, _ => trivial
      case hend =>
        intro a w' d hG hφ _ _ _
        obtain ⟨hc, hkf, hs, hbk, g1, g2, g3⟩ := hG
        obtain ⟨v2', h1⟩ := g3 (hφ 7 (by kernel_rfl)).1
        refine ⟨(HKO.out.from _).trans hkf, hbk.trans HBW.out, V1, v2', ?_⟩
        rw [List.map_append, List.map_append, HP.out, HLL.out, List.map_singleton, List.map_singleton, HY.out]
        exact h1
    case hdone =>
      rintro D ys W hD rfl ⟨v1, v2, hM⟩ hK
      rw [HW.out.1, HW.out.2] at hM
      obtain ⟨p1, k1, rfl⟩ := ownsRow_slice hM.1.row1
      obtain ⟨p2, k2, rfl⟩ := ownsRow_slice hM.2
      have hc1 := hM.1.box1.cell
      have hc2 := hM.1.box2.cell
      have hf1 := hM.1.box1.frozen
      have hf2 := hM.1.box2.frozen
      have HM := Lib.hid hM
      clear hM
      gi_wp2
      gi_region
      gi_wp2
      exact LkG.leave ((HM.out.again1.again).more (Below.refl _ _).drew) rfl rfl (by have := HS1.out; have := HZ.out; omega) (((KeepsOthers.setCell W _ _).trans (KeepsOthers.setCell _ _ _)).same D _ hK rfl) _ (fun W' h1 h2 => by simp [results, Tryz.f140, go_sem, h1, h2])
    case hstop =>
      rintro D c pre W hD hpre h hK
      exact h.elim
end Go.Proofs.YtnadcdgpfopcaaaGreat

namespace Go.Proofs.YtnadcdgpfopcaaaGreat
open Go.RowKit

/-- What the landed Buckets tells: a row, or none. -/
def BuckPostW (zs : List (Int × Bool)) (w : World) (e : Ending) (w' : World) : Prop :=
  ∃ A c, e = .returned (.slice A (bucketsP zs).length c) ∧ IA w' A (bucketsP zs) ∧ (∀ ad, A = some ad → w.heap.size ≤ ad.block) ∧ Below w.heap.size w w'
theorem roomy_some {ad : Addr} {c n : Nat} (h : n ≤ c) : Roomy (some ad) c n := ⟨h, fun e => by cases e⟩
theorem Roomy.le {A : Option Addr} {c n m : Nat} (h : Roomy A c n) (hm : m ≤ n) : Roomy A c m := ⟨Nat.le_trans hm h.1, h.2⟩
theorem rowL_of {W : World} {B : Nat} {v : Value} {l : List Int} (h : IOw W B v l) : RowL (Value.int .i64) W v l := by
  rcases h.2 with ⟨rfl, h0⟩ | ⟨g, cap, cur, rfl, hg⟩
  · exact .inl ⟨rfl, List.eq_nil_of_length_eq_zero h0⟩
  · refine .inr ⟨⟨g, 0, none⟩, cap, rfl, fun j hj => ?_⟩
    have := World.ownsRow.cellAt h j (by simpa using hj)
    rw [addr_at, Nat.zero_add, this]
    simp [hj]
theorem best_at {α : Type} {bt : α → α → Bool} (O : Ord bt) (zs : List α) : zs.reverse = [] ∨ ∃ a, BestAt bt zs.reverse a := by
  induction zs with
  | nil => exact .inl rfl
  | cons x r ih =>
    right
    rw [List.reverse_cons]
    rcases ih with h | ⟨a, h⟩
    · rw [h]; exact ⟨0, bestAt_first O x⟩
    · obtain ⟨ha, _⟩ := id h
      cases e : bt x r.reverse[a] with
      | true => exact ⟨_, bestAt_turn O ha h x e⟩
      | false => exact ⟨a, bestAt_keep ha h x e⟩
theorem best_is {α : Type} {bt : α → α → Bool} (O : Ord bt) (zs : List α) : ∃ r, Best bt zs r := by
  have := best_at O zs.reverse
  rw [List.reverse_reverse] at this
  rcases this with h | ⟨a, h⟩
  · exact ⟨-1, .inl ⟨h, rfl⟩⟩
  · exact ⟨a, best_of h⟩
theorem best_one {α : Type} {bt : α → α → Bool} {zs : List α} {r r' : Int} (h : Best bt zs r) (h' : Best bt zs r') : r = r' := by
  rcases h with ⟨h1, h2⟩ | ⟨a, ha, rfl, h1, h2⟩
  · rcases h' with ⟨_, h3⟩ | ⟨a', ha', _⟩
    · omega
    · subst h1; simp at ha'
  · rcases h' with ⟨h3, _⟩ | ⟨a', ha', rfl, h3, h4⟩
    · subst h3; simp at ha
    · rcases Nat.lt_trichotomy a a' with h | h | h
      · have i1 := h4 a h
        have i2 := h1 a' ha'
        rw [i1] at i2; cases i2
      · omega
      · have i1 := h2 a' h
        have i2 := h3 a ha
        rw [i1] at i2; cases i2
theorem low_is {v : Value} {l : List Int} {B : Nat} {r : Int} (hr : Best ltInt l r) (hl : l.length ≤ 1000000) (w : World) (h : IOw w B v l) : Calls Tryz.prog 141 #[v] w fun e w' => e = .returned (.int .i64 r) ∧ w = w' := by
  refine (low_int_any v l w (rowL_of h) (by omega)).mono ?_
  rintro e w' ⟨r', rfl, hr', rfl⟩
  exact ⟨ret_int (best_one hr' hr), rfl⟩
theorem high_is {v : Value} {l : List Int} {B : Nat} {r : Int} (hr : Best gtInt l r) (hl : l.length ≤ 1000000) (w : World) (h : IOw w B v l) : Calls Tryz.prog 142 #[v] w fun e w' => e = .returned (.int .i64 r) ∧ w = w' := by
  refine (high_int_any v l w (rowL_of h) (by omega)).mono ?_
  rintro e w' ⟨r', rfl, hr', rfl⟩
  exact ⟨ret_int (best_one hr' hr), rfl⟩
theorem low_q {v : Value} {l : List Int} {B : Nat} {r : Int} (hr : Best ltInt l r) (hl : l.length ≤ 1000000) (w : World) (h : IOw w B v l) (n : Nat) : Calls Tryz.prog 141 #[v] (w.drewN n) fun e w' => e = .returned (.int .i64 r) ∧ w' = w.drewN n :=
  (low_is hr hl (w.drewN n) (own_keepw h fun _ _ _ _ _ _ => rfl)).mono fun _ _ h => ⟨h.1, h.2.symm⟩
theorem high_q {v : Value} {l : List Int} {B : Nat} {r : Int} (hr : Best gtInt l r) (hl : l.length ≤ 1000000) (w : World) (h : IOw w B v l) (n : Nat) : Calls Tryz.prog 142 #[v] (w.drewN n) fun e w' => e = .returned (.int .i64 r) ∧ w' = w.drewN n :=
  (high_is hr hl (w.drewN n) (own_keepw h fun _ _ _ _ _ _ => rfl)).mono fun _ _ h => ⟨h.1, h.2.symm⟩
theorem pick_none (v : Value) (w : World) : Calls Tryz.prog 162 #[v, .int .i64 (-1)] w fun e w' => e = .returned (.int .i64 (-1)) ∧ w = w' := by
  go_enter Tryz.func162, Tryz.ntmps162
  go_wp2_with fail
  go_ret
  exact ⟨rfl, rfl⟩
theorem ow_cell {W : World} {B : Nat} {v : Value} {l : List Int} (h : IOw W B v l) {a : Nat} (ha : a < l.length) : ∃ g cap, v = .slice (some ⟨g, 0, none⟩) l.length cap ∧ W.cell? ⟨g, a, none⟩ = some (.int .i64 l[a]) := by
  rcases h.2 with ⟨_, h0⟩ | ⟨g, cap, cur, rfl, hg⟩
  · omega
  · refine ⟨g, cap, rfl, ?_⟩
    have := World.ownsRow.cellAt h a (by simpa using ha)
    rw [this]
    simp [ha]
theorem pick_at {v : Value} {l : List Int} {B : Nat} (a : Nat) (ha : a < l.length) (w : World) (h : IOw w B v l) : Calls Tryz.prog 162 #[v, .int .i64 (a : Int)] w fun e w' => e = .returned (.int .i64 l[a]) ∧ w = w' := by
  obtain ⟨g, cap, rfl, hc⟩ := ow_cell h ha
  generalize l[a] = y at hc ⊢
  clear h
  go_enter Tryz.func162, Tryz.ntmps162
  go_wp2_with fail
  go_ret
  exact ⟨rfl, rfl⟩
def farP (lo hi : Int) : Int := if hi - lo ≤ 9223372036854775807 then hi - lo else 9223372036854775807
theorem between_any (lo hi : Int) (w : World) (h1 : -9223372036854775808 ≤ lo) (h2 : hi ≤ 9223372036854775807) (h3 : lo ≤ hi) : Calls Tryz.prog 111 #[.int .i64 lo, .int .i64 hi] w fun e w' => e = .returned (.int .i64 (farP lo hi)) ∧ w = w' := by
  by_cases c1 : lo < 0
  · by_cases c2 : 9223372036854775807 + lo < hi
    · go_enter Tryz.func111, Tryz.ntmps111
      go_wp2_with fail
      go_ret
      exact ⟨ret_int (by unfold farP; rw [if_neg (by omega)]), rfl⟩
    · go_enter Tryz.func111, Tryz.ntmps111
      go_wp2_with fail
      go_ret
      exact ⟨ret_int (by unfold farP; rw [if_pos (by omega)]), rfl⟩
  · go_enter Tryz.func111, Tryz.ntmps111
    go_wp2_with fail
    go_ret
    exact ⟨ret_int (by unfold farP; rw [if_pos (by omega)]), rfl⟩
section
variable (A A' : Option Addr) (c c' : Nat) (l : List Int) (b : List Bool) (w : World) (hl : l.length ≤ 1000) (hb : b.length ≤ 1000) (hA : IA w A l) (hA' : BA w A' b) (hw : ∀ x ∈ l, (Lit.int .i64 x).wf = true) (hR : Roomy A' c' b.length)
include hl hb hA hA' hw hR
set_option maxRecDepth 100000 in
set_option maxHeartbeats 1000000 in
theorem ends_any : Calls Tryz.prog 110 #[.slice A l.length c, .slice A' b.length c'] w fun e w' => e = .returned (.tuple #[.int .i64 (loP (l.zip b)), .int .i64 (hiP (l.zip b))]) ∧ Below w.heap.size w w' := by
  have HLk := Lib.hid (look_any A A' c c' l b w (by omega) (by omega) hA hA' hR)
  have hle : (looksP (l.zip b)).length ≤ 1000 := by
    have := looks_le (l.zip b)
    simp at this; omega
  obtain ⟨r1, hr1⟩ := best_is ord_ltInt (looksP (l.zip b))
  obtain ⟨r2, hr2⟩ := best_is ord_gtInt (looksP (l.zip b))
  have HR1 := Lib.hid hr1
  have HR2 := Lib.hid hr2
  have hrng := ends_range l b hw
  clear hA hA' hw hR
  generalize l.zip b = zs at *
  rcases low_look hr1 with ⟨hn, _, e1, e2, _⟩ | ⟨a, ha, _, rfl, ea, _⟩
  · have hn0 : (looksP zs).length = 0 := by rw [hn]; rfl
    have E := Lib.hid (And.intro e1 e2)
    clear hr1 hr2 e1 e2 hn
    go_enter Tryz.func110, Tryz.ntmps110
    go_wp2_with (go_at_call 140; refine HLk.out.mono ?_; rintro e w1 ⟨v1, v2, rfl, h1, h2, hb1⟩; obtain ⟨p2, k2, rfl⟩ := ownsRow_slice h2; rw [hn0])
    go_ret2
    refine ⟨?_, hb1⟩
    rw [E.out.1, E.out.2]; rfl
  · rcases high_look hr2 with ⟨hn, _⟩ | ⟨a2, ha2, _, rfl, eb, _⟩
    · rw [hn] at ha; simp at ha
    · obtain ⟨n, hn⟩ : ∃ n, (looksP zs).length = n + 1 := ⟨(looksP zs).length - 1, by omega⟩
      have E := Lib.hid (And.intro ea eb)
      have HN := Lib.hid hn
      clear hr1 hr2 ea eb hn
      go_enter Tryz.func110, Tryz.ntmps110
      go_wp2_with (go_at_call 140; refine HLk.out.mono ?_; rintro e w1 ⟨v1, v2, rfl, h1, h2, hb1⟩; obtain ⟨g, cap, rfl, c1⟩ := ow_cell h2 ha; rw [E.out.1] at c1; obtain ⟨g2, cap2, hv2, c2⟩ := ow_cell h2 ha2; cases hv2; rw [E.out.2] at c2; have HLo := Lib.hid (low_q HR1.out (by omega) w1 h2); have HHi := Lib.hid (high_q HR2.out (by omega) w1 h2); clear h1 h2)
      go_quiet (first | (go_at_call 141; refine Calls.quiet_of_same (HLo.out _)) | (go_at_call 142; refine Calls.quiet_of_same (HHi.out _)))
      go_wp2_with fail
      go_ret2
      exact ⟨rfl, drewN_below hb1 _⟩
set_option maxRecDepth 100000 in
set_option maxHeartbeats 1000000 in
theorem apart_any : Calls Tryz.prog 77 #[.slice A l.length c, .slice A' b.length c'] w fun e w' => e = .returned (.int .i64 (apartP (l.zip b))) ∧ Below w.heap.size w w' := by
  have HE := Lib.hid (ends_any A A' c c' l b w hl hb hA hA' hw hR)
  have hrng := ends_range l b hw
  have hlo := lo_le_hi (l.zip b)
  have HB := Lib.hid (fun W => between_any (loP (l.zip b)) (hiP (l.zip b)) W hrng.1.1 hrng.2.2 hlo)
  have HP := Lib.hid (show farP (loP (l.zip b)) (hiP (l.zip b)) = apartP (l.zip b) from rfl)
  clear hA hA' hw hR hrng hlo
  go_enter Tryz.func77, Tryz.ntmps77
  go_wp2_with (first
    | (go_at_call 110; refine HE.out.mono ?_; rintro e w1 ⟨rfl, h1⟩)
    | (go_at_call 111; refine (HB.out _).mono ?_; rintro e w2 ⟨rfl, rfl⟩))
  go_ret
  exact ⟨ret_int HP.out, h1⟩
set_option maxRecDepth 100000 in
set_option maxHeartbeats 1000000 in
theorem cold_any : Calls Tryz.prog 147 #[.slice A l.length c, .slice A' b.length c'] w fun e w' => e = .returned (.int .i64 (coldP (l.zip b))) ∧ Below w.heap.size w w' := by
  have HLk := Lib.hid (look_any A A' c c' l b w (by omega) (by omega) hA hA' hR)
  have hle : (looksP (l.zip b)).length ≤ 1000 := by
    have := looks_le (l.zip b)
    simp at this; omega
  obtain ⟨r1, hr1⟩ := best_is ord_ltInt (looksP (l.zip b))
  have HR1 := Lib.hid hr1
  have _k := hw
  clear hA hA' hw hR _k
  generalize l.zip b = zs at *
  have hle6 : (looksP zs).length ≤ 1000000 := by omega
  rcases low_look hr1 with ⟨-, rfl, -, -, e3, -⟩ | ⟨a, -, hp, rfl, -, e3⟩
  · have E := Lib.hid e3
    clear hr1 e3
    go_enter Tryz.func147, Tryz.ntmps147
    go_wp2_with (first
      | (go_at_call 140; refine HLk.out.mono ?_; rintro e w1 ⟨v1, v2, rfl, h1, h2, hb1⟩; have H1 := Lib.hid h1; have H2 := Lib.hid h2; obtain ⟨p1, k1, rfl⟩ := ownsRow_slice h1; obtain ⟨p2, k2, rfl⟩ := ownsRow_slice h2; have HLo := Lib.hid (low_is HR1.out hle6 w1 h2); clear h1 h2)
      | (go_at_call 141; refine HLo.out.mono ?_; rintro e w2 ⟨rfl, rfl⟩)
      | (go_at_call 162; refine (pick_none _ _).mono ?_; rintro e w2 ⟨rfl, rfl⟩))
    go_ret
    exact ⟨ret_int E.out.symm, hb1⟩
  · have E := Lib.hid e3
    clear hr1 e3
    go_enter Tryz.func147, Tryz.ntmps147
    go_wp2_with (first
      | (go_at_call 140; refine HLk.out.mono ?_; rintro e w1 ⟨v1, v2, rfl, h1, h2, hb1⟩; have H1 := Lib.hid h1; have H2 := Lib.hid h2; obtain ⟨p1, k1, rfl⟩ := ownsRow_slice h1; obtain ⟨p2, k2, rfl⟩ := ownsRow_slice h2; have HLo := Lib.hid (low_is HR1.out hle6 w1 h2); clear h1 h2)
      | (go_at_call 141; refine HLo.out.mono ?_; rintro e w2 ⟨rfl, rfl⟩)
      | (go_at_call 162; refine (pick_at a hp _ H1.out).mono ?_; rintro e w2 ⟨rfl, rfl⟩))
    go_ret
    exact ⟨ret_int E.out, hb1⟩
set_option maxRecDepth 100000 in
set_option maxHeartbeats 1000000 in
theorem hot_any : Calls Tryz.prog 188 #[.slice A l.length c, .slice A' b.length c'] w fun e w' => e = .returned (.int .i64 (hotP (l.zip b))) ∧ Below w.heap.size w w' := by
  have HLk := Lib.hid (look_any A A' c c' l b w (by omega) (by omega) hA hA' hR)
  have hle : (looksP (l.zip b)).length ≤ 1000 := by
    have := looks_le (l.zip b)
    simp at this; omega
  obtain ⟨r1, hr1⟩ := best_is ord_gtInt (looksP (l.zip b))
  have HR1 := Lib.hid hr1
  have _k := hw
  clear hA hA' hw hR _k
  generalize l.zip b = zs at *
  have hle6 : (looksP zs).length ≤ 1000000 := by omega
  rcases high_look hr1 with ⟨-, rfl, -, -, -, e3⟩ | ⟨a, -, hp, rfl, -, e3⟩
  · have E := Lib.hid e3
    clear hr1 e3
    go_enter Tryz.func188, Tryz.ntmps188
    go_wp2_with (first
      | (go_at_call 140; refine HLk.out.mono ?_; rintro e w1 ⟨v1, v2, rfl, h1, h2, hb1⟩; have H1 := Lib.hid h1; have H2 := Lib.hid h2; obtain ⟨p1, k1, rfl⟩ := ownsRow_slice h1; obtain ⟨p2, k2, rfl⟩ := ownsRow_slice h2; have HLo := Lib.hid (high_is HR1.out hle6 w1 h2); clear h1 h2)
      | (go_at_call 142; refine HLo.out.mono ?_; rintro e w2 ⟨rfl, rfl⟩)
      | (go_at_call 162; refine (pick_none _ _).mono ?_; rintro e w2 ⟨rfl, rfl⟩))
    go_ret
    exact ⟨ret_int E.out.symm, hb1⟩
  · have E := Lib.hid e3
    clear hr1 e3
    go_enter Tryz.func188, Tryz.ntmps188
    go_wp2_with (first
      | (go_at_call 140; refine HLk.out.mono ?_; rintro e w1 ⟨v1, v2, rfl, h1, h2, hb1⟩; have H1 := Lib.hid h1; have H2 := Lib.hid h2; obtain ⟨p1, k1, rfl⟩ := ownsRow_slice h1; obtain ⟨p2, k2, rfl⟩ := ownsRow_slice h2; have HLo := Lib.hid (high_is HR1.out hle6 w1 h2); clear h1 h2)
      | (go_at_call 142; refine HLo.out.mono ?_; rintro e w2 ⟨rfl, rfl⟩)
      | (go_at_call 162; refine (pick_at a hp _ H1.out).mono ?_; rintro e w2 ⟨rfl, rfl⟩))
    go_ret
    exact ⟨ret_int E.out, hb1⟩
set_option maxRecDepth 100000 in
set_option maxHeartbeats 1000000 in
theorem due_any (most : Int) (_hm : (Lit.int .i64 most).wf = true) : Calls Tryz.prog 195 #[.slice A l.length c, .slice A' b.length c', .int .i64 most] w fun e w' => e = .returned (.int .i64 (dueP (l.zip b) most)) ∧ Below w.heap.size w w' := by
  have HE := Lib.hid (apart_any A A' c c' l b w hl hb hA hA' hw hR)
  have HC : Hid (∀ w1, Below w.heap.size w w1 → Calls Tryz.prog 147 #[.slice A l.length c, .slice A' b.length c'] w1 fun e w' => e = .returned (.int .i64 (coldP (l.zip b))) ∧ Below w1.heap.size w1 w') := Lib.hid fun w1 h1 => cold_any A A' c c' l b w1 hl hb (hA.below h1) (hA'.below h1) hw hR
  clear hA hA' hw hR
  by_cases hd : apartP (l.zip b) ≤ most
  · have HD := Lib.hid (show dueP (l.zip b) most = -1 from if_pos hd)
    generalize apartP (l.zip b) = ap at *
    go_enter Tryz.func195, Tryz.ntmps195
    go_wp2_with (go_at_call 77; refine HE.out.mono ?_; rintro e w1 ⟨rfl, h1⟩)
    go_ret
    exact ⟨ret_int HD.out.symm, h1⟩
  · have HD := Lib.hid (show dueP (l.zip b) most = coldP (l.zip b) from if_neg hd)
    generalize apartP (l.zip b) = ap at *
    go_enter Tryz.func195, Tryz.ntmps195
    go_wp2_with (first
      | (go_at_call 77; refine HE.out.mono ?_; rintro e w1 ⟨rfl, h1⟩)
      | (go_at_call 147; refine (HC.out w1 h1).mono ?_; rintro e w2 ⟨rfl, h2⟩))
    go_ret
    exact ⟨ret_int HD.out.symm, h1.trans (h2.mono h1.size)⟩
end
end Go.Proofs.YtnadcdgpfopcaaaGreat
