/- Numbers and texts one behind the other: read back one by one; cut short they end in an error; plain mathematics. -/
import Derived.Test.YtmnaboeffdhhjaaLaws
namespace Go.Proofs.Ytmnaboeffdhhjaa

def encN (xs : List Nat) : List UInt8 := xs.flatMap numL
def txt (t : List UInt8) : List UInt8 := numL t.length ++ t
def encT (ts : List (List UInt8)) : List UInt8 := ts.flatMap txt
theorem encN_more (xs : List Nat) (k : Nat) (h : k < xs.length) : encN (xs.take (k + 1)) = encN (xs.take k) ++ numL xs[k] := by
  unfold encN; rw [List.take_succ_eq_append_getElem h, List.flatMap_append]; simp
theorem encN_drop (xs : List Nat) (k : Nat) (h : k < xs.length) : encN (xs.drop k) = numL xs[k] ++ encN (xs.drop (k + 1)) := by
  unfold encN; rw [List.drop_eq_getElem_cons h, List.flatMap_cons]
theorem encT_more (ts : List (List UInt8)) (k : Nat) (h : k < ts.length) : encT (ts.take (k + 1)) = encT (ts.take k) ++ txt ts[k] := by
  unfold encT; rw [List.take_succ_eq_append_getElem h, List.flatMap_append]; simp
theorem encT_drop (ts : List (List UInt8)) (k : Nat) (h : k < ts.length) : encT (ts.drop k) = txt ts[k] ++ encT (ts.drop (k + 1)) := by
  unfold encT; rw [List.drop_eq_getElem_cons h, List.flatMap_cons]
theorem encN_len (xs : List Nat) (h : ∀ x ∈ xs, x ≤ 1099511627776) : (encN xs).length ≤ 6 * xs.length := by
  induction xs with
  | nil => simp [encN]
  | cons x xs ih =>
    have h1 := (numL_len x (by have := h x (by simp); omega)).2
    have h2 := ih fun y hy => h y (by simp [hy])
    simp [encN] at h2 ⊢
    omega
theorem encT_len (ts : List (List UInt8)) (h : ∀ t ∈ ts, t.length ≤ 300) : (encT ts).length ≤ 306 * ts.length := by
  induction ts with
  | nil => simp [encT]
  | cons t ts ih =>
    have h0 := h t (by simp)
    have h1 := (numL_len t.length (by omega)).2
    have h2 := ih fun y hy => h y (by simp [hy])
    simp [encT, txt] at h2 ⊢
    omega
/-- What a reader of bytes that were cut short is at: it has met the error, or less than all is left. -/
def Cutt (rest : List UInt8) (s : RS) : Prop := s.2 = 5 ∨ (s.2 = 0 ∧ ∃ c, c < rest.length ∧ s.1 = rest.take c)
theorem cut_end {s : RS} (h : Cutt [] s) : s.2 = 5 := by
  rcases h with h | ⟨_, c, h, _⟩
  · exact h
  · simp at h
theorem cut_num {x : Nat} {rest : List UInt8} {s : RS} (h : Cutt (numL x ++ rest) s) (hx : x ≤ 1099511627776) : Cutt rest (numStep s 1099511627776).2 := by
  rcases h with h | ⟨h0, c, hc, he⟩
  · left; rw [numStep_err s _ (by rw [h]; decide)]; exact h
  · obtain ⟨l, er⟩ := s
    obtain rfl : er = 0 := h0
    obtain rfl : l = _ := he
    simp at hc
    by_cases hlt : c < (numL x).length
    · left
      have e : (numL x ++ rest).take c = (numL x).take c := by rw [List.take_append_of_le_length (by omega)]
      rw [e, numStep_short x c _ hlt]
    · right
      have e : (numL x ++ rest).take c = numL x ++ rest.take (c - (numL x).length) := by rw [List.take_append, List.take_of_length_le (by omega)]
      rw [e, numStep_num x _ _ (by omega) (by omega)]
      exact ⟨rfl, c - (numL x).length, by omega, rfl⟩
theorem cut_txt {t rest : List UInt8} {s : RS} (h : Cutt (txt t ++ rest) s) (ht : t.length ≤ 300) : Cutt rest (textStep s 300).2 := by
  rcases h with h | ⟨h0, c, hc, he⟩
  · left; rw [textStep_err s _ (by rw [h]; decide)]; exact h
  · obtain ⟨l, er⟩ := s
    obtain rfl : er = 0 := h0
    obtain rfl : l = _ := he
    have hnl := numL_len t.length (by omega)
    simp [txt] at hc
    by_cases h1 : c < (numL t.length).length
    · left
      have e : (txt t ++ rest).take c = (numL t.length).take c := by unfold txt; rw [List.append_assoc, List.take_append_of_le_length (by omega)]
      rw [e]
      unfold textStep
      simp [read_short t.length c 300 h1]
    · by_cases h2 : c < (numL t.length).length + t.length
      · left
        have e : (txt t ++ rest).take c = numL t.length ++ t.take (c - (numL t.length).length) := by
          unfold txt
          rw [List.append_assoc, List.take_append, List.take_of_length_le (by omega), List.take_append_of_le_length (by omega)]
        rw [e]
        unfold textStep
        have hr := read_num t.length (t.take (c - (numL t.length).length)) 300 (by omega) (by omega)
        simp only [hr]
        rw [if_neg (by simp), if_pos (by simp; omega)]
      · right
        have e : (txt t ++ rest).take c = numL t.length ++ t ++ rest.take (c - ((numL t.length).length + t.length)) := by
          unfold txt
          rw [List.take_append, List.take_of_length_le (by simp; omega)]; simp
        rw [e, textStep_text t _ _ (by omega) (by omega)]
        exact ⟨rfl, _, by omega, rfl⟩
theorem cut_start (l : List UInt8) (c : Nat) (h : c < l.length) : Cutt l (l.take c, 0) := .inr ⟨rfl, c, h, rfl⟩
end Go.Proofs.Ytmnaboeffdhhjaa
