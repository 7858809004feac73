/- PlacePlays: what the law looks up in its own row, step by step, and what the table answers: the mathematics. -/
import Derived.Test.YtbebbnkolpgndaaPlcSort
namespace Go.Proofs.Ytbebbnkolpgndaa
open Go.RowKit

/-- Among the first j: where r stands (an index, or -1). -/
def Mine (T : List Fd) (r : P2) (j : Nat) (m : Int) : Prop := (m = -1 ∧ ∀ k (h : k < T.length), k < j → T[k].1 ≠ r) ∨ ∃ k, ∃ h : k < T.length, k < j ∧ m = (k : Int) ∧ T[k].1 = r
/-- Among the first j: where another one stands on s. -/
def Other (T : List Fd) (r s : P2) (j : Nat) (m : Int) : Prop := (m = -1 ∧ ∀ k (h : k < T.length), k < j → T[k].2 = s → T[k].1 = r) ∨ ∃ k, ∃ h : k < T.length, k < j ∧ m = (k : Int) ∧ T[k].2 = s ∧ T[k].1 ≠ r
theorem mine_start (T : List Fd) (r : P2) : Mine T r 0 (-1) := .inl ⟨rfl, fun _ _ h => absurd h (Nat.not_lt_zero _)⟩
theorem other_start (T : List Fd) (r s : P2) : Other T r s 0 (-1) := .inl ⟨rfl, fun _ _ h => absurd h (Nat.not_lt_zero _)⟩
theorem mine_yes {T : List Fd} {r : P2} {j : Nat} (h : j < T.length) (e : T[j].1 = r) : Mine T r (j + 1) (j : Int) := .inr ⟨j, h, Nat.lt_succ_self _, rfl, e⟩
theorem mine_no {T : List Fd} {r : P2} {j : Nat} {m : Int} (hm : Mine T r j m) (h : j < T.length) (e : T[j].1 ≠ r) : Mine T r (j + 1) m := by
  rcases hm with ⟨rfl, hk⟩ | ⟨k, hk, hkj, rfl, he⟩
  · refine .inl ⟨rfl, fun k h2 h3 => ?_⟩
    rcases Nat.lt_or_ge k j with h4 | h4
    · exact hk k h2 h4
    · obtain rfl : k = j := by omega
      exact e
  · exact .inr ⟨k, hk, by omega, rfl, he⟩
theorem other_yes {T : List Fd} {r s : P2} {j : Nat} (h : j < T.length) (e : T[j].2 = s) (e2 : T[j].1 ≠ r) : Other T r s (j + 1) (j : Int) := .inr ⟨j, h, Nat.lt_succ_self _, rfl, e, e2⟩
theorem other_no {T : List Fd} {r s : P2} {j : Nat} {m : Int} (hm : Other T r s j m) (h : j < T.length) (e : T[j].2 = s → T[j].1 = r) : Other T r s (j + 1) m := by
  rcases hm with ⟨rfl, hk⟩ | ⟨k, hk, hkj, rfl, he⟩
  · refine .inl ⟨rfl, fun k h2 h3 => ?_⟩
    rcases Nat.lt_or_ge k j with h4 | h4
    · exact hk k h2 h4
    · obtain rfl : k = j := by omega
      exact e
  · exact .inr ⟨k, hk, by omega, rfl, he⟩
/-- None is mine: none is there. -/
theorem mine_none {T : List Fd} {r : P2} (h : Mine T r T.length (-1)) : hasR T r = false := by
  rcases h with ⟨_, h⟩ | ⟨k, _, _, e, _⟩
  · cases e : hasR T r with
    | false => rfl
    | true =>
      obtain ⟨f, hf, he⟩ := (hasR_iff _ _).1 e
      obtain ⟨k, hk, rfl⟩ := List.mem_iff_getElem.1 hf
      exact absurd he (h k hk hk)
  · omega
theorem mine_some {T : List Fd} {r : P2} {m : Int} (h : Mine T r T.length m) (h0 : 0 ≤ m) : ∃ k, ∃ hk : k < T.length, m = (k : Int) ∧ T[k].1 = r ∧ hasR T r = true := by
  rcases h with ⟨e, _⟩ | ⟨k, hk, _, e, he⟩
  · omega
  · exact ⟨k, hk, e, he, (hasR_iff _ _).2 ⟨_, List.getElem_mem hk, he⟩⟩
theorem mine_cases {T : List Fd} {r : P2} {j : Nat} {m : Int} (h : Mine T r j m) : m = -1 ∨ (0 ≤ m ∧ m < T.length) := by
  rcases h with ⟨e, _⟩ | ⟨k, hk, _, e, _⟩
  · exact .inl e
  · exact .inr ⟨by omega, by omega⟩
theorem other_cases {T : List Fd} {r s : P2} {j : Nat} {m : Int} (h : Other T r s j m) : m = -1 ∨ (0 ≤ m ∧ m < T.length) := by
  rcases h with ⟨e, _⟩ | ⟨k, hk, _, e, _⟩
  · exact .inl e
  · exact .inr ⟨by omega, by omega⟩
/-- May it be put? -/
theorem can_eq {T : List Fd} {r s : P2} {o : Int} (h : Other T r s T.length o) : canT T r s = (decide (o < 0) && decide (0 ≤ s.1) && decide (0 ≤ s.2)) := by
  unfold canT
  have ha : (T.all fun f => f.2 != s || f.1 == r) = decide (o < 0) := by
    rcases h with ⟨rfl, h⟩ | ⟨k, hk, _, rfl, he, he2⟩
    · rw [show decide ((-1 : Int) < 0) = true from by decide, List.all_eq_true]
      intro f hf
      obtain ⟨k, hk, rfl⟩ := List.mem_iff_getElem.1 hf
      by_cases e : T[k].2 = s
      · simp [h k hk hk e]
      · simp [e]
    · rw [show decide ((k : Int) < 0) = false from by simp, List.all_eq_false]
      exact ⟨T[k], List.getElem_mem hk, by simp [he, he2]⟩
  rw [ha]
  cases decide (o < 0) <;> cases decide (0 ≤ s.1) <;> cases decide (0 ≤ s.2) <;> rfl
theorem nodup_idx {T : List Fd} (hw : WfT T) {i k : Nat} (hi : i < T.length) (hk : k < T.length) (e : T[i].1 = T[k].1) : i = k := by
  have h := hw.refs
  rw [List.nodup_iff_pairwise_ne] at h
  rcases Nat.lt_trichotomy i k with hl | hl | hl
  · have := List.pairwise_iff_getElem.1 h i k (by simpa using hi) (by simpa using hk) hl
    simp [e] at this
  · exact hl
  · have := List.pairwise_iff_getElem.1 h k i (by simpa using hk) (by simpa using hi) hl
    simp [e] at this
theorem nodup_ids {T : List Fd} (hw : WfT T) {i k : Nat} (hi : i < T.length) (hk : k < T.length) (e : T[i].2 = T[k].2) : i = k := by
  have h := hw.spots
  rw [List.nodup_iff_pairwise_ne] at h
  rcases Nat.lt_trichotomy i k with hl | hl | hl
  · have := List.pairwise_iff_getElem.1 h i k (by simpa using hi) (by simpa using hk) hl
    simp [e] at this
  · exact hl
  · have := List.pairwise_iff_getElem.1 h k i (by simpa using hk) (by simpa using hi) hl
    simp [e] at this
/-- What is put anew. -/
theorem put_at {T : List Fd} {r s : P2} (hw : WfT T) (hc : canT T r s = true) {k : Nat} (hk : k < T.length) (he : T[k].1 = r) : putT T r s = T.set k (r, s) := by
  unfold putT
  rw [if_pos hc, if_pos ((hasR_iff _ _).2 ⟨_, List.getElem_mem hk, he⟩)]
  refine List.ext_getElem (by simp) fun i h1 h2 => ?_
  have hi : i < T.length := by simpa using h1
  rw [List.getElem_map, List.getElem_set]
  by_cases e : k = i
  · subst e
    rw [if_pos he, if_pos rfl]
  · rw [if_neg (fun h => e (nodup_idx hw hk hi (he.trans h.symm))), if_neg e]
theorem put_new {T : List Fd} {r s : P2} (hc : canT T r s = true) (hr : hasR T r = false) : putT T r s = T ++ [(r, s)] := by
  unfold putT
  rw [if_pos hc, if_neg (by rw [hr]; decide)]
theorem put_no {T : List Fd} {r s : P2} (hc : canT T r s = false) : putT T r s = T := by
  unfold putT
  rw [if_neg (by rw [hc]; decide)]
/-- What is cut. -/
theorem cut_at {T : List Fd} {r : P2} (hw : WfT T) {k : Nat} (hk : k < T.length) (he : T[k].1 = r) : cutT T r = T.take k ++ T.drop (k + 1) := by
  unfold cutT
  have hT : T = T.take k ++ T[k] :: T.drop (k + 1) := by rw [List.getElem_cons_drop, List.take_append_drop]
  have h1 : (T.take k).filter (fun f => f.1 != r) = T.take k := by
    rw [List.filter_eq_self]
    intro f hf
    obtain ⟨i, hi, rfl⟩ := List.mem_iff_getElem.1 hf
    rw [List.length_take] at hi
    rw [List.getElem_take]
    have : T[i].1 ≠ r := fun e => by
      have := nodup_idx hw (by omega) hk (e.trans he.symm)
      omega
    simpa using this
  have h2 : (T.drop (k + 1)).filter (fun f => f.1 != r) = T.drop (k + 1) := by
    rw [List.filter_eq_self]
    intro f hf
    obtain ⟨i, hi, rfl⟩ := List.mem_iff_getElem.1 hf
    rw [List.length_drop] at hi
    rw [List.getElem_drop]
    have : T[k + 1 + i].1 ≠ r := fun e => by
      have := nodup_idx hw (by omega) hk (e.trans he.symm)
      omega
    simpa using this
  conv => lhs; rw [hT]
  rw [List.filter_append, List.filter_cons, if_neg (by simp [he]), h1, h2]
/-- The first j + 1, looked through for r. -/
theorem at_take {T : List Fd} (hw : WfT T) (r : P2) {j : Nat} (h : j < T.length) : atT (T.take (j + 1)) r = if T[j].1 = r then some T[j].2 else atT (T.take j) r := by
  unfold atT
  rw [List.take_succ_eq_append_getElem h, List.find?_append]
  by_cases e : T[j].1 = r
  · rw [if_pos e]
    have hn : (T.take j).find? (fun f => f.1 == r) = none := by
      rw [List.find?_eq_none]
      intro f hf he
      obtain ⟨i, hi, rfl⟩ := List.mem_iff_getElem.1 hf
      rw [List.length_take] at hi
      rw [List.getElem_take] at he
      have := nodup_idx hw (by omega) h ((by simpa using he : T[i].1 = r).trans e.symm)
      omega
    rw [hn]
    simp [e]
  · rw [if_neg e]
    have hn : [T[j]].find? (fun f => f.1 == r) = none := by simp [e]
    rw [hn, Option.or_none]
theorem on_take {T : List Fd} (hw : WfT T) (s : P2) {j : Nat} (h : j < T.length) : onT (T.take (j + 1)) s = if T[j].2 = s then some T[j].1 else onT (T.take j) s := by
  unfold onT
  rw [List.take_succ_eq_append_getElem h, List.find?_append]
  by_cases e : T[j].2 = s
  · rw [if_pos e]
    have hn : (T.take j).find? (fun f => f.2 == s) = none := by
      rw [List.find?_eq_none]
      intro f hf he
      obtain ⟨i, hi, rfl⟩ := List.mem_iff_getElem.1 hf
      rw [List.length_take] at hi
      rw [List.getElem_take] at he
      have := nodup_ids hw (by omega) h ((by simpa using he : T[i].2 = s).trans e.symm)
      omega
    rw [hn]
    simp [e]
  · rw [if_neg e]
    have hn : [T[j]].find? (fun f => f.2 == s) = none := by simp [e]
    rw [hn, Option.or_none]
/-- A call: Cut, or Put. -/
def doT (T : List Fd) (c : Cl) : List Fd := if c.1 = 0 then cutT T c.2.1 else putT T c.2.1 c.2.2
def dosT (l : List Cl) : List Fd := l.foldl doT []
theorem dos_take {l : List Cl} {j : Nat} (h : j < l.length) : dosT (l.take (j + 1)) = doT (dosT (l.take j)) l[j] := by
  unfold dosT
  rw [List.take_succ_eq_append_getElem h, List.foldl_append]
  rfl
theorem do_len (T : List Fd) (c : Cl) : (doT T c).length ≤ T.length + 1 := by
  unfold doT
  split
  · exact Nat.le_succ_of_le (List.length_filter_le _ _)
  · exact put_len _ _ _
theorem dos_len (l : List Cl) : (dosT l).length ≤ l.length := by
  suffices h : ∀ (l : List Cl) (T : List Fd), (l.foldl doT T).length ≤ T.length + l.length by
    have := h l []
    simpa [dosT] using this
  intro l
  induction l with
  | nil => intro T; simp
  | cons c l ih =>
    intro T
    rw [List.foldl_cons]
    have h1 := ih (doT T c)
    have h2 := do_len T c
    simp only [List.length_cons]
    omega
end Go.Proofs.Ytbebbnkolpgndaa
