/- Counts that are looked at: the lowest and the greatest, the first place of a count, how many have each: the mathematics, of no program, no conditions. -/
namespace Go.Proofs.Ytjgpjmlnmjgdmaa

/-- The lowest and the greatest of those that are looked at. -/
def endsStep (o : Option (Int × Int)) (p : Int × Bool) : Option (Int × Int) :=
  if p.2 = true then some (match o with | none => (p.1, p.1) | some q => (min q.1 p.1, max q.2 p.1)) else o
def endsP (zs : List (Int × Bool)) : Option (Int × Int) := zs.foldl endsStep none
theorem endsP_snoc (zs : List (Int × Bool)) (p : Int × Bool) : endsP (zs ++ [p]) = endsStep (endsP zs) p := by simp [endsP]
def loP (zs : List (Int × Bool)) : Int := ((endsP zs).map (·.1)).getD 0
def hiP (zs : List (Int × Bool)) : Int := ((endsP zs).map (·.2)).getD 0
/-- What says which they are. -/
def EndsOf (zs : List (Int × Bool)) (lo hi : Int) : Prop := (lo, true) ∈ zs ∧ (hi, true) ∈ zs ∧ ∀ x, (x, true) ∈ zs → lo ≤ x ∧ x ≤ hi
theorem EndsOf.uniq {zs : List (Int × Bool)} {lo hi lo' hi' : Int} (h : EndsOf zs lo hi) (h' : EndsOf zs lo' hi') : lo = lo' ∧ hi = hi' := by
  have h1 := h.2.2 lo' h'.1
  have h2 := h'.2.2 lo h.1
  have h3 := h.2.2 hi' h'.2.1
  have h4 := h'.2.2 hi h.2.1
  omega
theorem ends_fold (zs : List (Int × Bool)) : ((∀ x, (x, true) ∉ zs) ∧ endsP zs = none) ∨ ∃ lo hi, endsP zs = some (lo, hi) ∧ EndsOf zs lo hi := by
  suffices h : ∀ zs : List (Int × Bool), ((∀ x, (x, true) ∉ zs.reverse) ∧ endsP zs.reverse = none) ∨ ∃ lo hi, endsP zs.reverse = some (lo, hi) ∧ EndsOf zs.reverse lo hi by
    have := h zs.reverse
    rwa [List.reverse_reverse] at this
  intro zs
  induction zs with
  | nil => exact .inl ⟨by simp, rfl⟩
  | cons p r ih =>
    obtain ⟨n, b⟩ := p
    rw [List.reverse_cons, endsP_snoc]
    cases b with
    | false =>
      rcases ih with ⟨h1, h2⟩ | ⟨lo, hi, h1, h2, h3, h4⟩
      · exact .inl ⟨fun x hx => by simp at hx; exact h1 x (by simpa using hx), by rw [h2]; rfl⟩
      · exact .inr ⟨lo, hi, by rw [h1]; rfl, by simpa using h2, by simpa using h3, fun x hx => h4 x (by simpa using hx)⟩
    | true =>
      rcases ih with ⟨h1, h2⟩ | ⟨lo, hi, h1, h2, h3, h4⟩
      · refine .inr ⟨n, n, by rw [h2]; rfl, by simp, by simp, fun x hx => ?_⟩
        rcases List.mem_append.1 hx with hx | hx
        · exact absurd hx (h1 x)
        · simp at hx; omega
      · refine .inr ⟨min lo n, max hi n, by rw [h1]; rfl, ?_, ?_, fun x hx => ?_⟩
        · rcases Int.le_total lo n with h | h
          · rw [Int.min_eq_left h]; exact List.mem_append.2 (.inl h2)
          · rw [Int.min_eq_right h]; simp
        · rcases Int.le_total hi n with h | h
          · rw [Int.max_eq_right h]; simp
          · rw [Int.max_eq_left h]; exact List.mem_append.2 (.inl h3)
        · rcases List.mem_append.1 hx with hx | hx
          · have := h4 x hx; omega
          · simp at hx; omega
theorem ends_of {zs : List (Int × Bool)} {lo hi : Int} (h : EndsOf zs lo hi) : loP zs = lo ∧ hiP zs = hi := by
  unfold loP hiP
  rcases ends_fold zs with ⟨h1, h2⟩ | ⟨lo', hi', h1, h2⟩
  · exact absurd h.1 (h1 lo)
  · rw [h1]; exact h2.uniq h
theorem ends_none {zs : List (Int × Bool)} (h : ∀ x, (x, true) ∉ zs) : loP zs = 0 ∧ hiP zs = 0 := by
  unfold loP hiP
  rcases ends_fold zs with ⟨h1, h2⟩ | ⟨lo', hi', h1, h2⟩
  · rw [h2]; exact ⟨rfl, rfl⟩
  · exact absurd h2.1 (h lo')
theorem ends_some {zs : List (Int × Bool)} {x : Int} (h : (x, true) ∈ zs) : EndsOf zs (loP zs) (hiP zs) := by
  rcases ends_fold zs with ⟨h1, h2⟩ | ⟨lo', hi', h1, h2⟩
  · exact absurd h (h1 x)
  · have := ends_of h2
    rw [this.1, this.2]; exact h2
theorem lo_le_hi (zs : List (Int × Bool)) : loP zs ≤ hiP zs := by
  rcases ends_fold zs with ⟨h1, h2⟩ | ⟨lo', hi', h1, h2⟩
  · have := ends_none h1; omega
  · have := ends_of h2
    have := h2.2.2 _ h2.1
    omega
/-- The same are looked at: the same ends. -/
theorem ends_same {zs zs' : List (Int × Bool)} (h : ∀ x, (x, true) ∈ zs ↔ (x, true) ∈ zs') : loP zs = loP zs' ∧ hiP zs = hiP zs' := by
  rcases ends_fold zs with ⟨h1, _⟩ | ⟨lo, hi, _, h2⟩
  · have e1 := ends_none h1
    have e2 := ends_none (zs := zs') fun x hx => h1 x ((h x).2 hx)
    omega
  · have e1 := ends_of h2
    have e2 := ends_of (zs := zs') (lo := lo) (hi := hi) ⟨(h lo).1 h2.1, (h hi).1 h2.2.1, fun x hx => h2.2.2 x ((h x).2 hx)⟩
    omega
/-- How far apart; what would go round is held. -/
def apartP (zs : List (Int × Bool)) : Int := if hiP zs - loP zs ≤ 9223372036854775807 then hiP zs - loP zs else 9223372036854775807
theorem apart_nonneg (zs : List (Int × Bool)) : 0 ≤ apartP zs := by
  have := lo_le_hi zs
  unfold apartP; split <;> omega
/-- The first place of n among those that are looked at, or -1. -/
def seekFrom (n : Int) : Nat → List (Int × Bool) → Int
  | _, [] => -1
  | k, p :: r => if p.2 = true ∧ p.1 = n then (k : Int) else seekFrom n (k + 1) r
def seekP (zs : List (Int × Bool)) (n : Int) : Int := seekFrom n 0 zs
theorem seekFrom_spec (n : Int) (zs : List (Int × Bool)) (k : Nat) : (seekFrom n k zs = -1 ∧ (n, true) ∉ zs) ∨ ∃ i, ∃ h : i < zs.length, seekFrom n k zs = ((k + i : Nat) : Int) ∧ zs[i] = (n, true) ∧ ∀ j (hj : j < i), zs[j]'(Nat.lt_trans hj h) ≠ (n, true) := by
  induction zs generalizing k with
  | nil => exact .inl ⟨rfl, by simp⟩
  | cons p r ih =>
    obtain ⟨x, b⟩ := p
    unfold seekFrom
    by_cases hp : b = true ∧ x = n
    · rw [if_pos hp]
      obtain ⟨rfl, rfl⟩ := hp
      exact .inr ⟨0, by simp, by simp, rfl, fun j hj => absurd hj (by omega)⟩
    · rw [if_neg hp]
      have hne : (x, b) ≠ (n, true) := fun e => hp ⟨congrArg Prod.snd e, congrArg Prod.fst e⟩
      rcases ih (k + 1) with ⟨h1, h2⟩ | ⟨i, hi, h1, h2, h3⟩
      · refine .inl ⟨h1, fun h => ?_⟩
        rcases List.mem_cons.1 h with h | h
        · exact hne h.symm
        · exact h2 h
      · refine .inr ⟨i + 1, by simp; omega, by rw [h1]; omega, by simpa using h2, fun j hj => ?_⟩
        cases j with
        | zero => exact hne
        | succ j => simpa using h3 j (by omega)
theorem seek_spec (zs : List (Int × Bool)) (n : Int) : (seekP zs n = -1 ∧ (n, true) ∉ zs) ∨ ∃ i, ∃ h : i < zs.length, seekP zs n = (i : Int) ∧ zs[i] = (n, true) ∧ ∀ j (hj : j < i), zs[j]'(Nat.lt_trans hj h) ≠ (n, true) := by
  have := seekFrom_spec n zs 0
  simpa [seekP] using this
theorem seekFrom_snoc (n : Int) (zs : List (Int × Bool)) (k : Nat) (p : Int × Bool) : seekFrom n k (zs ++ [p]) = if seekFrom n k zs = -1 then (if p.2 = true ∧ p.1 = n then ((k + zs.length : Nat) : Int) else -1) else seekFrom n k zs := by
  induction zs generalizing k with
  | nil => simp [seekFrom]
  | cons q r ih =>
    simp only [List.cons_append, seekFrom]
    split
    · rw [if_neg (by omega)]
    · rw [ih (k + 1), List.length_cons, show k + 1 + r.length = k + (r.length + 1) by omega]
def coldP (zs : List (Int × Bool)) : Int := seekP zs (loP zs)
def hotP (zs : List (Int × Bool)) : Int := seekP zs (hiP zs)
def dueP (zs : List (Int × Bool)) (most : Int) : Int := if apartP zs ≤ most then -1 else coldP zs
theorem cold_none {zs : List (Int × Bool)} (h : ∀ x, (x, true) ∉ zs) : coldP zs = -1 := by
  rcases seek_spec zs (loP zs) with ⟨h1, _⟩ | ⟨i, hi, _, h2, _⟩
  · exact h1
  · exact absurd (h2 ▸ List.getElem_mem hi) (h _)
theorem cold_some {zs : List (Int × Bool)} {x : Int} (h : (x, true) ∈ zs) : ∃ i, ∃ hi : i < zs.length, coldP zs = (i : Int) ∧ zs[i] = (loP zs, true) := by
  rcases seek_spec zs (loP zs) with ⟨_, h2⟩ | ⟨i, hi, h1, h2, _⟩
  · exact absurd (ends_some h).1 h2
  · exact ⟨i, hi, h1, h2⟩
/-- How many have a count. -/
def countP' (zs : List (Int × Bool)) (n : Int) : Nat := zs.countP fun p => p.2 && p.1 == n
def bucketsP (zs : List (Int × Bool)) : List Int :=
  if coldP zs < 0 ∨ 1000 < apartP zs then [] else (List.range (apartP zs + 1).toNat).map fun (k : Nat) => ((countP' zs (loP zs + (k : Int)) : Nat) : Int)
/-- Those that are looked at: how many. -/
def lookedN (zs : List (Int × Bool)) : Nat := zs.countP (·.2)
theorem sum_range_ite (a : Int) (n : Nat) (x : Int) : ((List.range n).map fun (k : Nat) => if a + (k : Int) = x then (1 : Int) else 0).sum = if a ≤ x ∧ x < a + n then 1 else 0 := by
  induction n with
  | zero => rw [if_neg (by omega)]; rfl
  | succ n ih =>
    rw [List.range_succ, List.map_append, List.sum_append, ih]
    simp only [List.map_cons, List.map_nil, List.sum_cons, List.sum_nil]
    by_cases h1 : a + (n : Int) = x
    · rw [if_neg (by omega), if_pos h1, if_pos (by omega)]; rfl
    · by_cases h2 : a ≤ x ∧ x < a + n
      · rw [if_pos h2, if_neg h1, if_pos (by omega)]; rfl
      · rw [if_neg h2, if_neg h1, if_neg (by omega)]; rfl
theorem sum_counts (zs : List (Int × Bool)) (a : Int) (n : Nat) (h : ∀ x, (x, true) ∈ zs → a ≤ x ∧ x < a + n) : ((List.range n).map fun (k : Nat) => ((countP' zs (a + (k : Int)) : Nat) : Int)).sum = (lookedN zs : Int) := by
  induction zs with
  | nil =>
    have : ∀ m : Nat, ((List.range m).map fun (k : Nat) => ((countP' [] (a + (k : Int)) : Nat) : Int)).sum = 0 := by
      intro m
      induction m with
      | zero => rfl
      | succ m ih => rw [List.range_succ, List.map_append, List.sum_append, ih]; rfl
    exact this n
  | cons p r ih =>
    obtain ⟨x, b⟩ := p
    have ih := ih fun y hy => h y (List.mem_cons_of_mem _ hy)
    cases b with
    | false =>
      have e : ∀ m, countP' ((x, false) :: r) m = countP' r m := fun m => by simp [countP']
      simp only [e]
      rw [ih]; simp [lookedN]
    | true =>
      have hx := h x (List.mem_cons_self ..)
      have e : ∀ m : Int, ((countP' ((x, true) :: r) m : Nat) : Int) = ((countP' r m : Nat) : Int) + if m = x then 1 else 0 := fun m => by
        unfold countP'
        rw [List.countP_cons]
        by_cases hm : m = x
        · simp [hm]
        · have : ¬ x = m := fun e => hm e.symm
          simp [hm, this]
      simp only [e]
      have hs : ∀ (f g : Nat → Int) (m : Nat), ((List.range m).map fun k => f k + g k).sum = ((List.range m).map f).sum + ((List.range m).map g).sum := by
        intro f g m
        induction m with
        | zero => rfl
        | succ m ih => rw [List.range_succ, List.map_append, List.map_append, List.map_append, List.sum_append, List.sum_append, List.sum_append, ih]; simp; omega
      rw [hs, ih, sum_range_ite, if_pos hx]
      simp [lookedN]
end Go.Proofs.Ytjgpjmlnmjgdmaa
