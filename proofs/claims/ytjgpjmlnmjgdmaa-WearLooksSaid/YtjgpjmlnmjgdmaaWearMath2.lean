/- Counts that are looked at: what one raise turns; who is not looked at: the mathematics of the laws, of no program, no conditions. -/
import Derived.Test.YtjgpjmlnmjgdmaaWearMath
namespace Go.Proofs.Ytjgpjmlnmjgdmaa

theorem mem_set {zs : List (Int × Bool)} {i : Nat} {x : Int} (hi : i < zs.length) (hx : zs[i] = (x, true)) (v : Int) :
    ((v, true) ∈ zs.set i (v, true)) ∧ (∀ y, (y, true) ∈ zs.set i (v, true) → y = v ∨ (y, true) ∈ zs) ∧ (∀ y, (y, true) ∈ zs → (y, true) ∈ zs.set i (v, true) ∨ y = x) := by
  refine ⟨List.mem_set hi _, fun y hy => ?_, fun y hy => ?_⟩
  · rcases List.mem_or_eq_of_mem_set hy with h | h
    · exact .inr h
    · exact .inl (congrArg Prod.fst h)
  · obtain ⟨j, hj, e⟩ := List.getElem_of_mem hy
    by_cases hij : i = j
    · subst hij
      rw [hx] at e
      exact .inr (congrArg Prod.fst e).symm
    · refine .inl ?_
      have h2 : (zs.set i (v, true))[j]'(by simpa using hj) = (y, true) := by rw [List.getElem_set_ne hij]; exact e
      exact h2 ▸ List.getElem_mem _
theorem mem_of_at {zs : List (Int × Bool)} {i : Nat} {x : Int} (hi : i < zs.length) (hx : zs[i] = (x, true)) : (x, true) ∈ zs := hx ▸ List.getElem_mem hi
/-- One more erase of one that is looked at. -/
theorem raise_any {zs : List (Int × Bool)} {i : Nat} {x : Int} (hi : i < zs.length) (hx : zs[i] = (x, true)) :
    loP zs ≤ loP (zs.set i (x + 1, true)) ∧ loP (zs.set i (x + 1, true)) ≤ loP zs + 1 ∧ hiP zs ≤ hiP (zs.set i (x + 1, true)) ∧ hiP (zs.set i (x + 1, true)) ≤ hiP zs + 1 := by
  obtain ⟨m1, m2, m3⟩ := mem_set hi hx (x + 1)
  obtain ⟨a1, a2, a3⟩ := ends_some (mem_of_at hi hx)
  obtain ⟨b1, b2, b3⟩ := ends_some m1
  have hxb := a3 x (mem_of_at hi hx)
  have hxc := b3 (x + 1) m1
  refine ⟨?_, ?_, ?_, ?_⟩
  · rcases m2 _ b1 with h | h
    · omega
    · exact (a3 _ h).1
  · rcases m3 _ a1 with h | h
    · have := (b3 _ h).1; omega
    · omega
  · rcases m3 _ a2 with h | h
    · exact (b3 _ h).2
    · omega
  · rcases m2 _ b2 with h | h
    · omega
    · have := (a3 _ h).2; omega
/-- The coldest is raised. -/
theorem raise_cold {zs : List (Int × Bool)} {i : Nat} {x : Int} (hi : i < zs.length) (hx : zs[i] = (x, true)) (hlt : x < hiP zs) : hiP (zs.set i (x + 1, true)) = hiP zs := by
  obtain ⟨m1, m2, m3⟩ := mem_set hi hx (x + 1)
  obtain ⟨a1, a2, a3⟩ := ends_some (mem_of_at hi hx)
  obtain ⟨b1, b2, b3⟩ := ends_some m1
  have h1 : hiP zs ≤ hiP (zs.set i (x + 1, true)) := by
    rcases m3 _ a2 with h | h
    · exact (b3 _ h).2
    · omega
  have h2 : hiP (zs.set i (x + 1, true)) ≤ hiP zs := by
    rcases m2 _ b2 with h | h
    · omega
    · exact (a3 _ h).2
  omega
/-- How far all that are looked at are from 39, together. -/
def roomL (zs : List (Int × Bool)) : Nat := (zs.map fun p => if p.2 = true then (39 - p.1).toNat else 0).sum
theorem roomL_set (zs : List (Int × Bool)) (i : Nat) (x : Int) (hi : i < zs.length) (hx : zs[i] = (x, true)) (h : x < 39) : roomL (zs.set i (x + 1, true)) + 1 = roomL zs := by
  induction zs generalizing i with
  | nil => simp at hi
  | cons p r ih =>
    cases i with
    | zero =>
      obtain rfl : p = (x, true) := hx
      simp [roomL]
      omega
    | succ i =>
      have := ih i (by simpa using hi) (by simpa using hx)
      simp only [roomL, List.set_cons_succ, List.map_cons, List.sum_cons] at this ⊢
      omega
theorem roomL_le (zs : List (Int × Bool)) (h : ∀ x, (x, true) ∈ zs → 0 ≤ x) : roomL zs ≤ zs.length * 39 := by
  induction zs with
  | nil => exact Nat.le_refl _
  | cons p r ih =>
    have h1 := ih fun x hx => h x (List.mem_cons_of_mem _ hx)
    have h2 : (if p.2 = true then (39 - p.1).toNat else 0) ≤ 39 := by
      split
      · next hp =>
        have := h p.1 (by rw [show (p.1, true) = p from Prod.ext rfl hp.symm]; exact List.mem_cons_self ..)
        omega
      · omega
    simp only [roomL, List.map_cons, List.sum_cons, List.length_cons] at h1 ⊢
    omega
theorem apart_small {zs : List (Int × Bool)} (h : hiP zs - loP zs ≤ 100000) : apartP zs = hiP zs - loP zs := if_pos (by omega)
/-- What Due tells, where counts are small. -/
theorem due_cases (zs : List (Int × Bool)) (most : Int) (hm : 0 ≤ most) (h : hiP zs - loP zs ≤ 100000) :
    (dueP zs most = -1 ∧ apartP zs ≤ most) ∨ ∃ i, ∃ hi : i < zs.length, dueP zs most = (i : Int) ∧ zs[i] = (loP zs, true) ∧ most < hiP zs - loP zs := by
  unfold dueP
  by_cases ha : apartP zs ≤ most
  · exact .inl ⟨if_pos ha, ha⟩
  · rw [if_neg ha]
    rw [apart_small h] at ha
    have hne : ∃ x, (x, true) ∈ zs := by
      rcases ends_fold zs with ⟨h1, _⟩ | ⟨lo, hi, _, h2⟩
      · have := ends_none h1; omega
      · exact ⟨lo, h2.1⟩
    obtain ⟨x, hx⟩ := hne
    obtain ⟨i, hi, h1, h2⟩ := cold_some hx
    exact .inr ⟨i, hi, h1, h2, by omega⟩
/-- How many have a count, behind a raise. -/
theorem count_set (zs : List (Int × Bool)) (i : Nat) (x : Int) (hi : i < zs.length) (hx : zs[i] = (x, true)) (m : Int) :
    ((countP' (zs.set i (x + 1, true)) m : Nat) : Int) = ((countP' zs m : Nat) : Int) - (if m = x then 1 else 0) + (if m = x + 1 then 1 else 0) := by
  induction zs generalizing i with
  | nil => simp at hi
  | cons p r ih =>
    cases i with
    | zero =>
      obtain rfl : p = (x, true) := hx
      simp only [List.set_cons_zero, countP', List.countP_cons, Bool.true_and]
      by_cases h1 : m = x
      · subst h1
        have a1 : ¬ m + 1 = m := by omega
        have a2 : ¬ m = m + 1 := by omega
        simp [a1, a2]
      · by_cases h2 : m = x + 1
        · subst h2
          have a2 : ¬ x = x + 1 := by omega
          simp [h1, a2]
        · have h3 : ¬ x = m := fun e => h1 e.symm
          have h4 : ¬ x + 1 = m := fun e => h2 e.symm
          simp [h1, h2, h3, h4]
    | succ i =>
      have := ih i (by simpa using hi) (by simpa using hx)
      simp only [List.set_cons_succ, countP', List.countP_cons] at this ⊢
      omega
theorem count_mem {zs : List (Int × Bool)} {m : Int} : 0 < countP' zs m ↔ (m, true) ∈ zs := by
  unfold countP'
  rw [List.countP_pos_iff]
  constructor
  · rintro ⟨⟨x, b⟩, hx, h⟩
    simp only [Bool.and_eq_true, beq_iff_eq] at h
    obtain ⟨rfl, rfl⟩ := h
    exact hx
  · exact fun h => ⟨_, h, by simp⟩
/-- One that is neither the greatest nor the only lowest is raised: the ends stay. -/
theorem raise_mid {zs : List (Int × Bool)} {i : Nat} {x : Int} (hi : i < zs.length) (hx : zs[i] = (x, true)) (h1 : x ≠ hiP zs) (h2 : ¬ (x = loP zs ∧ countP' zs (loP zs) = 1)) :
    loP (zs.set i (x + 1, true)) = loP zs ∧ hiP (zs.set i (x + 1, true)) = hiP zs := by
  obtain ⟨a1, a2, a3⟩ := ends_some (mem_of_at hi hx)
  have hxb := a3 x (mem_of_at hi hx)
  have r := raise_any hi hx
  refine ⟨?_, raise_cold hi hx (by omega)⟩
  obtain ⟨m1, m2, m3⟩ := mem_set hi hx (x + 1)
  have hm : (loP zs, true) ∈ zs.set i (x + 1, true) := by
    rw [← count_mem]
    have := count_set zs i x hi hx (loP zs)
    have hc := count_mem.2 a1
    by_cases hxl : x = loP zs
    · have h3 : countP' zs (loP zs) ≠ 1 := fun h => h2 ⟨hxl, h⟩
      rw [if_pos hxl.symm, if_neg (by omega)] at this
      omega
    · rw [if_neg (fun e => hxl e.symm)] at this
      split at this <;> omega
  have := ((ends_some m1).2.2 _ hm).1
  omega
/-- The same but where nobody looks. -/
def Alike : List (Int × Bool) → List (Int × Bool) → Prop
  | [], [] => True
  | p :: r, q :: s => p.2 = q.2 ∧ (p.2 = true → p.1 = q.1) ∧ Alike r s
  | _, _ => False
theorem Alike.mem : ∀ {zs zs' : List (Int × Bool)}, Alike zs zs' → ∀ x, (x, true) ∈ zs ↔ (x, true) ∈ zs'
  | [], [], _, _ => Iff.rfl
  | [], _ :: _, h, _ => h.elim
  | _ :: _, [], h, _ => h.elim
  | (a, b) :: r, (c, d) :: s, h, x => by
    obtain ⟨h1, h2, h3⟩ := h
    obtain rfl : b = d := h1
    rw [List.mem_cons, List.mem_cons, Alike.mem h3 x]
    cases b with
    | false => simp
    | true =>
      obtain rfl : a = c := h2 rfl
      exact Iff.rfl
theorem Alike.seek (n : Int) : ∀ {zs zs' : List (Int × Bool)} (k : Nat), Alike zs zs' → seekFrom n k zs = seekFrom n k zs'
  | [], [], _, _ => rfl
  | [], _ :: _, _, h => h.elim
  | _ :: _, [], _, h => h.elim
  | (a, b) :: r, (c, d) :: s, k, h => by
    obtain ⟨h1, h2, h3⟩ := h
    obtain rfl : b = d := h1
    unfold seekFrom
    rw [Alike.seek n (k + 1) h3]
    cases b with
    | false => simp
    | true =>
      obtain rfl : a = c := h2 rfl
      rfl
theorem Alike.all {zs zs' : List (Int × Bool)} (h : Alike zs zs') : loP zs = loP zs' ∧ hiP zs = hiP zs' ∧ apartP zs = apartP zs' ∧ coldP zs = coldP zs' ∧ ∀ most, dueP zs most = dueP zs' most := by
  obtain ⟨e1, e2⟩ := ends_same h.mem
  have e3 : apartP zs = apartP zs' := by unfold apartP; rw [e1, e2]
  have e4 : coldP zs = coldP zs' := by unfold coldP seekP; rw [e1, Alike.seek _ 0 h]
  exact ⟨e1, e2, e3, e4, fun most => by unfold dueP; rw [e3, e4]⟩
theorem alike_zip : ∀ (l m : List Int) (b : List Bool), l.length = m.length → (∀ i (h : i < l.length) (h' : i < m.length) (hb : i < b.length), b[i] = true → l[i] = m[i]) → Alike (l.zip b) (m.zip b)
  | [], [], _, _, _ => by simp [Alike]
  | [], _ :: _, _, h, _ => by simp at h
  | _ :: _, [], _, h, _ => by simp at h
  | _ :: _, _ :: _, [], _, _ => by simp [Alike]
  | x :: l, y :: m, b :: bs, h, hh => by
    refine ⟨rfl, fun hb => ?_, alike_zip l m bs (by simpa using h) fun i h1 h2 h3 hb => ?_⟩
    · exact hh 0 (by simp) (by simp) (by simp) hb
    · have := hh (i + 1) (by simpa using h1) (by simpa using h2) (by simpa using h3) (by simpa using hb)
      simpa using this
theorem zip_more : ∀ (l : List Int) (b : List Bool) (x : Int), (l ++ [x]).zip (b.take (min b.length l.length)) = l.zip b
  | [], b, x => by simp
  | _ :: _, [], _ => by simp
  | y :: l, c :: b, x => by
    have := zip_more l b x
    simp only [List.length_cons, List.cons_append]
    rw [show min (b.length + 1) (l.length + 1) = min b.length l.length + 1 by omega, List.take_succ_cons, List.zip_cons_cons, List.zip_cons_cons, this]
theorem zip_set (l : List Int) (b : List Bool) (i : Nat) (v : Int) (hb : i < b.length) : (l.set i v).zip b = (l.zip b).set i (v, b[i]) := by
  apply List.ext_getElem
  · simp
  · intro k h1 h2
    simp only [List.getElem_zip, List.getElem_set]
    by_cases hk : i = k
    · subst hk; simp
    · simp [hk]
theorem zip_set_out (l : List Int) (b : List Bool) (i : Nat) (v : Int) (hb : b.length ≤ i) : (l.set i v).zip b = l.zip b := by
  apply List.ext_getElem
  · simp
  · intro k h1 h2
    simp only [List.getElem_zip, List.getElem_set]
    rw [if_neg (by simp at h2; omega)]
/-- One that is not looked at is raised. -/
theorem alike_off (l : List Int) (b : List Bool) (i : Nat) (v : Int) (h : ∀ hb : i < b.length, b[i] = false) : Alike ((l.set i v).zip b) (l.zip b) := by
  refine alike_zip _ _ _ (by simp) fun k h1 h2 hb hk => ?_
  rw [List.getElem_set_ne]
  intro e
  subst e
  rw [h hb] at hk
  cases hk
theorem buck_len (zs : List (Int × Bool)) : (bucketsP zs).length ≤ 1001 := by
  unfold bucketsP
  split
  · exact Nat.zero_le _
  · simp; omega
end Go.Proofs.Ytjgpjmlnmjgdmaa
