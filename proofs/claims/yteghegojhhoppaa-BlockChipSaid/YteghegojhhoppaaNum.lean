/- Numbers as digits to the base 128, the highest one first: what is written, what is read, and that what is written is read as it was; plain mathematics, no conditions. -/
import Derived.Lib.BitFns
namespace Go.Proofs.Yteghegojhhoppaa

def byteOf (n : Nat) : UInt8 := UInt8.ofNat n
theorem byteOf_nat (n : Nat) (h : n < 256) : (byteOf n).toNat = n := by
  unfold byteOf; rw [UInt8.toNat_ofNat']; omega
/-- The digits ahead of the last one: 128 is added to each. -/
def hiL (n : Nat) : List UInt8 := if _h : n = 0 then [] else hiL (n / 128) ++ [byteOf (n % 128 + 128)]
termination_by n
decreasing_by omega
def numL (n : Nat) : List UInt8 := hiL (n / 128) ++ [byteOf (n % 128)]
theorem hiL_zero : hiL 0 = [] := by rw [hiL]; simp
theorem hiL_pos (n : Nat) (h : n ≠ 0) : hiL n = hiL (n / 128) ++ [byteOf (n % 128 + 128)] := by rw [hiL]; simp [h]
theorem hiL_len (k : Nat) : ∀ n, n < 128 ^ k → (hiL n).length ≤ k := by
  induction k with
  | zero => intro n h; obtain rfl : n = 0 := by simpa using h
            rw [hiL_zero]; simp
  | succ k ih =>
    intro n h
    by_cases h0 : n = 0
    · subst h0; rw [hiL_zero]; simp
    · rw [hiL_pos n h0]
      have := ih (n / 128) (by rw [Nat.pow_succ] at h; omega)
      simp; omega
theorem hiL_len_ge (k : Nat) : ∀ n, 128 ^ k ≤ n → k + 1 ≤ (hiL n).length := by
  induction k with
  | zero => intro n h
            rw [hiL_pos n (by simp at h; omega)]; simp
  | succ k ih =>
    intro n h
    have h1 : 128 ^ k ≤ n / 128 := by rw [Nat.pow_succ] at h; omega
    have h2 : 0 < 128 ^ k := Nat.pow_pos (by decide)
    rw [hiL_pos n (by omega)]
    have := ih _ h1
    simp; omega
theorem numL_len (n : Nat) (h : n < 4398046511104) : 1 ≤ (numL n).length ∧ (numL n).length ≤ 6 := by
  have := hiL_len 5 (n / 128) (by simp; omega)
  unfold numL; simp; omega
/-- How many digits: by the bits of the number. -/
theorem numL_cnt (n : Nat) (h : n < 4398046511104) : (numL n).length = max 1 ((Lib.bitLen n + 6) / 7) := by
  have key : ∀ j, j ≤ 5 → 128 ^ j ≤ n → n < 128 ^ (j + 1) → (numL n).length = max 1 ((Lib.bitLen n + 6) / 7) := by
    intro j hj h1 h2
    have e1 : (hiL (n / 128)).length = j := by
      have a := hiL_len j (n / 128) (by rw [Nat.pow_succ] at h2; omega)
      cases j with
      | zero => omega
      | succ j => have b := hiL_len_ge j (n / 128) (by rw [Nat.pow_succ] at h1; omega); omega
    have e2 := Lib.bitLen_shift (7 * j) n (by rw [Nat.pow_mul]; exact h1) (by omega)
    have e3 := Lib.bitLen_le (n / 2 ^ (7 * j)) 7 (by omega) (by
      rw [Nat.pow_mul, Nat.div_lt_iff_lt_mul (Nat.pow_pos (by decide))]
      rw [Nat.pow_succ] at h2; simp at h2 ⊢; omega)
    have e4 : 1 ≤ Lib.bitLen (n / 2 ^ (7 * j)) := by
      have hp : n / 2 ^ (7 * j) ≠ 0 := by
        rw [Nat.pow_mul]
        have : 0 < n / (2 ^ 7) ^ j := Nat.div_pos (by simpa using h1) (Nat.pow_pos (by decide))
        omega
      have := Lib.bitLen_half (n / 2 ^ (7 * j)) hp (Nat.lt_of_le_of_lt (Nat.div_le_self _ _) (by omega))
      omega
    unfold numL
    simp [e1]
    omega
  by_cases h0 : n = 0
  · subst h0; unfold numL; rw [Nat.zero_div, hiL_zero]; rfl
  · by_cases h1 : n < 128
    · exact key 0 (by omega) (by simp; omega) (by simpa using h1)
    · by_cases h2 : n < 16384
      · exact key 1 (by omega) (by omega) (by omega)
      · by_cases h3 : n < 2097152
        · exact key 2 (by omega) (by omega) (by omega)
        · by_cases h4 : n < 268435456
          · exact key 3 (by omega) (by omega) (by omega)
          · by_cases h5 : n < 34359738368
            · exact key 4 (by omega) (by omega) (by omega)
            · exact key 5 (by omega) (by omega) (by omega)
/-- The digit at a place, the lowest one at the end. -/
theorem hiL_at (i : Nat) : ∀ n, i < (hiL n).length → (hiL n)[i]? = some (byteOf (n / 128 ^ ((hiL n).length - 1 - i) % 128 + 128)) := by
  intro n
  induction n using Nat.strongRecOn with
  | ind n ih =>
    intro h
    by_cases h0 : n = 0
    · subst h0; rw [hiL_zero] at h; simp at h
    · rw [hiL_pos n h0] at h ⊢
      simp at h
      by_cases h1 : i < (hiL (n / 128)).length
      · rw [List.getElem?_append_left h1, ih (n / 128) (by omega) h1]
        have e : (hiL (n / 128) ++ [byteOf (n % 128 + 128)]).length - 1 - i = ((hiL (n / 128)).length - 1 - i) + 1 := by simp; omega
        rw [e, Nat.pow_succ, Nat.mul_comm, ← Nat.div_div_eq_div_mul]
      · have e : i = (hiL (n / 128)).length := by omega
        subst e
        simp
theorem numL_at (n i : Nat) (h : i < (numL n).length) : (numL n)[i]? = some (byteOf (n / 128 ^ ((numL n).length - 1 - i) % 128 + if i + 1 < (numL n).length then 128 else 0)) := by
  unfold numL at h ⊢
  simp at h
  by_cases h1 : i < (hiL (n / 128)).length
  · rw [List.getElem?_append_left h1, hiL_at i (n / 128) h1, if_pos (by simp; omega)]
    have e : (hiL (n / 128) ++ [byteOf (n % 128)]).length - 1 - i = ((hiL (n / 128)).length - 1 - i) + 1 := by simp; omega
    rw [e, Nat.pow_succ, Nat.mul_comm, ← Nat.div_div_eq_div_mul]
  · have e : i = (hiL (n / 128)).length := by omega
    subst e
    simp

/-- What is read: a number no greater than most, and how many bytes it has. -/
def scanL (most : Int) : Nat → Nat → List UInt8 → Option (Nat × Nat)
  | _, _, [] => none
  | acc, i, d :: t => if most < ((acc * 128 + d.toNat % 128 : Nat) : Int) then none else if d.toNat < 128 then some (acc * 128 + d.toNat % 128, i + 1) else scanL most (acc * 128 + d.toNat % 128) (i + 1) t
def readL (l : List UInt8) (most : Int) : Option (Nat × Nat) := if l[0]? = some 128 then none else scanL most 0 0 (l.take 6)
theorem scan_hi (most : Int) : ∀ (n : Nat) (t : List UInt8), (n : Int) ≤ most → scanL most 0 0 (hiL n ++ t) = scanL most n (hiL n).length t := by
  intro n
  induction n using Nat.strongRecOn with
  | ind n ih =>
    intro t h
    by_cases h0 : n = 0
    · subst h0; simp [hiL_zero]
    · rw [hiL_pos n h0, List.append_assoc, ih (n / 128) (by omega) _ (by omega)]
      have e : n / 128 * 128 + (byteOf (n % 128 + 128)).toNat % 128 = n := by rw [byteOf_nat _ (by omega)]; omega
      rw [List.cons_append, List.nil_append, scanL]
      simp only [e]
      rw [if_neg (by omega), if_neg (by rw [byteOf_nat _ (by omega)]; omega)]
      simp
/-- No needless nought ahead. -/
theorem hiL_head (n : Nat) (h : n ≠ 0) : ∃ d t, hiL n = d :: t ∧ d ≠ 128 := by
  induction n using Nat.strongRecOn with
  | ind n ih =>
    rw [hiL_pos n h]
    by_cases h0 : n / 128 = 0
    · rw [h0, hiL_zero]
      refine ⟨_, [], rfl, fun e => ?_⟩
      have := congrArg UInt8.toNat e
      rw [byteOf_nat _ (by omega)] at this
      have h128 : (128 : UInt8).toNat = 128 := rfl
      omega
    · obtain ⟨d, t, e, hd⟩ := ih (n / 128) (by omega) h0
      exact ⟨d, t ++ [byteOf (n % 128 + 128)], by rw [e]; rfl, hd⟩
theorem numL_head (n : Nat) : ∃ d t, numL n = d :: t ∧ d ≠ 128 := by
  unfold numL
  by_cases h : n / 128 = 0
  · rw [h, hiL_zero]
    refine ⟨_, [], rfl, fun e => ?_⟩
    have := congrArg UInt8.toNat e
    rw [byteOf_nat _ (by omega)] at this
    have h128 : (128 : UInt8).toNat = 128 := rfl
    omega
  · obtain ⟨d, t, e, hd⟩ := hiL_head (n / 128) h
    exact ⟨d, t ++ [byteOf (n % 128)], by rw [e]; rfl, hd⟩
/-- WHAT IS WRITTEN IS READ AS IT WAS. -/
theorem read_num (n : Nat) (t : List UInt8) (most : Int) (h : n < 4398046511104) (hm : (n : Int) ≤ most) : readL (numL n ++ t) most = some (n, (numL n).length) := by
  have hl := numL_len n h
  obtain ⟨d, r, e, hd⟩ := numL_head n
  unfold readL
  rw [if_neg (by rw [e]; simpa using hd), List.take_append, List.take_of_length_le hl.2]
  show scanL most 0 0 (numL n ++ _) = _
  unfold numL
  rw [List.append_assoc, scan_hi most (n / 128) _ (by omega), List.cons_append, scanL]
  have e1 : n / 128 * 128 + (byteOf (n % 128)).toNat % 128 = n := by rw [byteOf_nat _ (by omega)]; omega
  simp only [e1]
  rw [if_neg (by omega), if_pos (by rw [byteOf_nat _ (by omega)]; omega)]
  simp
theorem read_above (n : Nat) (t : List UInt8) (most : Int) (h : n < 4398046511104) (hm : most < (n : Int)) : readL (numL n ++ t) most = none := by
  have hl := numL_len n h
  have key : ∀ (m : Nat) (t : List UInt8), (m : Int) ≤ most ∨ scanL most 0 0 (hiL m ++ t) = none := by
    intro m
    induction m using Nat.strongRecOn with
    | ind m ih =>
      intro t
      by_cases hc : (m : Int) ≤ most
      · exact .inl hc
      · right
        by_cases h0 : m = 0
        · subst h0
          rw [hiL_zero, List.nil_append]
          cases t with
          | nil => rfl
          | cons d t => rw [scanL, if_pos (by omega)]
        · rw [hiL_pos m h0, List.append_assoc]
          rcases ih (m / 128) (by omega) ([byteOf (m % 128 + 128)] ++ t) with h1 | h1
          · rw [scan_hi most (m / 128) _ h1, List.cons_append, scanL]
            have e : m / 128 * 128 + (byteOf (m % 128 + 128)).toNat % 128 = m := by rw [byteOf_nat _ (by omega)]; omega
            simp only [e]
            rw [if_pos (by omega)]
          · exact h1
  unfold readL
  split
  · rfl
  · rw [List.take_append, List.take_of_length_le hl.2]
    unfold numL
    rw [List.append_assoc]
    rcases key (n / 128) ([byteOf (n % 128)] ++ List.take (6 - (hiL (n / 128) ++ [byteOf (n % 128)]).length) t) with h1 | h1
    · rw [scan_hi most (n / 128) _ h1, List.cons_append, scanL]
      have e1 : n / 128 * 128 + (byteOf (n % 128)).toNat % 128 = n := by rw [byteOf_nat _ (by omega)]; omega
      simp only [e1]
      rw [if_pos (by omega)]
    · exact h1
/-- Cut short it is none. -/
theorem scan_short (most : Int) : ∀ (l : List UInt8) (acc i : Nat), (∀ d ∈ l, 128 ≤ d.toNat) → scanL most acc i l = none := by
  intro l
  induction l with
  | nil => intro acc i _; rfl
  | cons d t ih =>
    intro acc i h
    rw [scanL]
    split
    · rfl
    · rw [if_neg (by have := h d (by simp); omega)]
      exact ih _ _ fun x hx => h x (by simp [hx])
theorem hiL_big (n : Nat) : ∀ d ∈ hiL n, 128 ≤ d.toNat := by
  induction n using Nat.strongRecOn with
  | ind n ih =>
    intro d hd
    by_cases h0 : n = 0
    · subst h0; rw [hiL_zero] at hd; simp at hd
    · rw [hiL_pos n h0] at hd
      rcases List.mem_append.1 hd with h | h
      · exact ih (n / 128) (by omega) d h
      · obtain rfl : d = _ := by simpa using h
        rw [byteOf_nat _ (by omega)]; omega
theorem read_short (n c : Nat) (most : Int) (h : c < (numL n).length) : readL ((numL n).take c) most = none := by
  unfold readL
  split
  · rfl
  · refine scan_short most _ _ _ fun d hd => ?_
    have h1 : c ≤ (hiL (n / 128)).length := by unfold numL at h; simp at h; omega
    have h2 : (numL n).take c = (hiL (n / 128)).take c := by unfold numL; rw [List.take_append_of_le_length h1]
    rw [h2] at hd
    exact hiL_big _ d (List.mem_of_mem_take (List.mem_of_mem_take hd))
/-- What is read is all that is written of it. -/
theorem scan_back (most : Int) : ∀ (t : List UInt8) (acc i a k : Nat), (acc ≠ 0 ∨ t[0]? ≠ some 128) → scanL most acc i t = some (a, k) → i < k ∧ k ≤ i + t.length ∧ hiL acc ++ t.take (k - i) = numL a ∧ (a : Int) ≤ most := by
  intro t
  induction t with
  | nil => intro acc i a k _ h; simp [scanL] at h
  | cons d t ih =>
    intro acc i a k hne h
    rw [scanL] at h
    split at h
    · simp at h
    · rename_i hm
      split at h
      · rename_i hd
        obtain ⟨rfl, rfl⟩ : acc * 128 + d.toNat % 128 = a ∧ i + 1 = k := by simpa using h
        refine ⟨by omega, by simp, ?_, by omega⟩
        unfold numL
        have e1 : (acc * 128 + d.toNat % 128) / 128 = acc := by omega
        have e2 : byteOf ((acc * 128 + d.toNat % 128) % 128) = d := by
          have : (acc * 128 + d.toNat % 128) % 128 = d.toNat := by omega
          rw [this]; unfold byteOf; simp
        rw [e1, e2]
        simp
      · rename_i hd
        have hacc : acc * 128 + d.toNat % 128 ≠ 0 := by
          rcases hne with h0 | h0
          · omega
          · intro e
            refine h0 ?_
            have hd2 : d.toNat < 256 := d.toNat_lt
            have : d = 128 := by apply UInt8.toNat.inj; show d.toNat = 128; omega
            simp [this]
        obtain ⟨h1, h2, h3, h4⟩ := ih _ _ _ _ (.inl hacc) h
        refine ⟨by omega, by simp; omega, ?_, h4⟩
        rw [hiL_pos _ hacc] at h3
        have e1 : (acc * 128 + d.toNat % 128) / 128 = acc := by omega
        have e2 : byteOf ((acc * 128 + d.toNat % 128) % 128 + 128) = d := by
          have hd2 : d.toNat < 256 := d.toNat_lt
          have : (acc * 128 + d.toNat % 128) % 128 + 128 = d.toNat := by omega
          rw [this]; unfold byteOf; simp
        rw [e1, e2] at h3
        have e3 : k - i = (k - (i + 1)) + 1 := by omega
        rw [e3, List.take_succ_cons, ← h3]
        simp
theorem read_back (l : List UInt8) (most : Int) (a k : Nat) (h : readL l most = some (a, k)) : 1 ≤ k ∧ k ≤ 6 ∧ k ≤ l.length ∧ l.take k = numL a ∧ (a : Int) ≤ most ∧ a < 4398046511104 := by
  unfold readL at h
  split at h
  · simp at h
  · rename_i h0
    have hh : (l.take 6)[0]? ≠ some 128 := by rw [List.getElem?_take]; simpa using h0
    obtain ⟨h1, h2, h3, h4⟩ := scan_back most (l.take 6) 0 0 a k (.inr hh) h
    simp [hiL_zero] at h3 h2
    have hk : k ≤ 6 := by omega
    rw [List.take_take, Nat.min_eq_left hk] at h3
    refine ⟨by omega, hk, by omega, h3, h4, ?_⟩
    have hl : (numL a).length ≤ 6 := by rw [← h3]; simp; omega
    refine Nat.lt_of_not_le fun hc => ?_
    have := hiL_len_ge 5 (a / 128) (by simp; omega)
    unfold numL at hl
    simp at hl; omega
/-- The order of numbers is that of their lengths and bytes. -/
theorem lt_snoc {x y : List UInt8} (h : x.length = y.length) (hlt : x < y) (a b : UInt8) : x ++ [a] < y ++ [b] := by
  induction x generalizing y with
  | nil => cases y with
    | nil => exact absurd hlt (List.lt_irrefl _)
    | cons d y => simp at h
  | cons c x ih => cases y with
    | nil => simp at h
    | cons d y =>
      rw [List.cons_append, List.cons_append, List.cons_lt_cons_iff]
      rcases List.cons_lt_cons_iff.1 hlt with h1 | ⟨h1, h2⟩
      · exact .inl h1
      · exact .inr ⟨h1, ih (by simpa using h) h2⟩
theorem lt_last (x : List UInt8) {a b : UInt8} (h : a < b) : x ++ [a] < x ++ [b] := by
  induction x with
  | nil => exact List.cons_lt_cons_iff.2 (.inl h)
  | cons c x ih => exact List.cons_lt_cons_iff.2 (.inr ⟨rfl, ih⟩)
theorem byteOf_lt {a b : Nat} (h : a < b) (hb : b < 256) : byteOf a < byteOf b := by
  rw [UInt8.lt_iff_toNat_lt, byteOf_nat a (by omega), byteOf_nat b hb]; exact h
theorem hiL_lt : ∀ (m n : Nat), n < m → (hiL n).length < (hiL m).length ∨ (hiL n).length = (hiL m).length ∧ hiL n < hiL m := by
  intro m
  induction m using Nat.strongRecOn with
  | ind m ih =>
    intro n h
    by_cases h0 : n = 0
    · subst h0; rw [hiL_zero, hiL_pos m (by omega)]; simp
    · rw [hiL_pos n h0, hiL_pos m (by omega)]
      by_cases hd : n / 128 < m / 128
      · rcases ih (m / 128) (by omega) (n / 128) hd with h1 | ⟨h1, h2⟩
        · left; simp; omega
        · right; exact ⟨by simp; omega, lt_snoc h1 h2 _ _⟩
      · have e : n / 128 = m / 128 := by omega
        right
        rw [e]
        exact ⟨by simp, lt_last _ (byteOf_lt (by omega) (by omega))⟩
theorem numL_lt {n m : Nat} (h : n < m) : (numL n).length < (numL m).length ∨ (numL n).length = (numL m).length ∧ numL n < numL m := by
  unfold numL
  by_cases hd : n / 128 < m / 128
  · rcases hiL_lt _ _ hd with h1 | ⟨h1, h2⟩
    · left; simp; omega
    · right; exact ⟨by simp; omega, lt_snoc h1 h2 _ _⟩
  · have e : n / 128 = m / 128 := by omega
    right
    rw [e]
    exact ⟨by simp, lt_last _ (byteOf_lt (by omega) (by omega))⟩
theorem numL_order (n m : Nat) : (n < m) ↔ ((numL n).length < (numL m).length ∨ (numL n).length = (numL m).length ∧ numL n < numL m) := by
  constructor
  · exact numL_lt
  · intro h
    rcases Nat.lt_trichotomy n m with h1 | rfl | h1
    · exact h1
    · rcases h with h | ⟨_, h⟩
      · omega
      · exact absurd h (List.lt_irrefl _)
    · rcases numL_lt h1 with h2 | ⟨h2, h3⟩
      · rcases h with h | ⟨h, _⟩ <;> omega
      · rcases h with h | ⟨_, h⟩
        · omega
        · exact absurd (List.lt_trans h h3) (List.lt_irrefl _)
/-- A number held to what may be written. -/
def heldW (n : Int) : Nat := if n < 0 then 0 else if n > 1099511627776 then 1099511627776 else n.toNat
theorem heldW_le (n : Int) : heldW n ≤ 1099511627776 := by unfold heldW; split; omega; split <;> omega
theorem heldW_in (n : Int) (h0 : 0 ≤ n) (h1 : n ≤ 1099511627776) : (heldW n : Int) = n := by unfold heldW; rw [if_neg (by omega), if_neg (by omega)]; omega
end Go.Proofs.Yteghegojhhoppaa
