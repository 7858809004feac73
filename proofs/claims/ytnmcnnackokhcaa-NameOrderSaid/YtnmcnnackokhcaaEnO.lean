/- NameOrder: in whatever order they are put in, the entries are the same: the mathematics. -/
import Derived.Test.YtnmcnnackokhcaaEnK
namespace Go.Proofs.Ytnmcnnackokhcaa
open Go.RowKit Go.Lib

def insA (P : List Ent) : List Ent := P.foldl putE []
theorem ins_perm : ∀ (P acc : List Ent), (P.foldl putE acc).Perm (acc ++ P)
  | [], acc => by simp
  | e :: P, acc => by
    rw [List.foldl_cons]
    refine (ins_perm P (putE acc e)).trans ?_
    refine ((putE_perm acc e).append_right P).trans ?_
    exact (List.perm_middle (l₁ := acc) (l₂ := P) (a := e)).symm
theorem insA_perm (P : List Ent) : (insA P).Perm P := by simpa [insA] using ins_perm P []
theorem has_mem {l : List Ent} {s : ByteArray} : hasE l s = true ↔ s ∈ l.map (·.1) := by
  unfold hasE
  rw [List.any_eq_true, List.mem_map]
  exact ⟨fun ⟨e, h1, h2⟩ => ⟨e, h1, by simpa using h2⟩, fun ⟨e, h1, h2⟩ => ⟨e, h1, by simpa using h2⟩⟩
theorem ins_ri : ∀ (P acc : List Ent), Ri acc → ((acc ++ P).map (·.1)).Nodup → Ri (P.foldl putE acc)
  | [], _, h, _ => h
  | e :: P, acc, h, hn => by
    rw [List.foldl_cons]
    have hp : (putE acc e ++ P).Perm (acc ++ e :: P) := ((putE_perm acc e).append_right P).trans (List.perm_middle (l₁ := acc) (l₂ := P) (a := e)).symm
    refine ins_ri P _ (putE_ri h ?_) ((hp.map _).nodup_iff.2 hn)
    cases hh : hasE acc e.1 with
    | false => rfl
    | true =>
      rw [List.map_append, List.map_cons, List.nodup_append] at hn
      exact absurd rfl (hn.2.2 e.1 (has_mem.1 hh) e.1 (List.mem_cons_self ..))
/-- Entries that may be put in, one after the other. -/
structure Puts (E : List Ent) : Prop where
  nd : (E.map (·.1)).Nodup
  may : ∀ e ∈ E, mayE e = true
  len : E.length ≤ 10
theorem Puts.take {E : List Ent} (h : Puts E) (j : Nat) : Puts (E.take j) :=
  ⟨h.nd.sublist ((List.take_sublist j E).map _), fun e he => h.may e (List.mem_of_mem_take he), by rw [List.length_take]; have := h.len; omega⟩
theorem Puts.perm {E F : List Ent} (h : Puts E) (hp : F.Perm E) : Puts F :=
  ⟨(hp.map _).nodup_iff.2 h.nd, fun e he => h.may e (hp.mem_iff.1 he), by rw [hp.length_eq]; exact h.len⟩
theorem Puts.mayEs {E : List Ent} (h : Puts E) : mayEs (insA E) = true :=
  mayEs_iff.2 ⟨by rw [(insA_perm E).length_eq]; exact h.len, fun e he => h.may e ((insA_perm E).mem_iff.1 he), ins_ri E [] List.Pairwise.nil (by simpa using h.nd)⟩
theorem Puts.len_ins {E : List Ent} (_ : Puts E) : (insA E).length = E.length := (insA_perm E).length_eq
theorem Puts.step {E : List Ent} (h : Puts E) {j : Nat} (hj : j < E.length) : withE (insA (E.take j)) E[j].1 E[j].2 = (insA (E.take (j + 1)), 0) := by
  have ht := h.take j
  have hno : hasE (insA (E.take j)) E[j].1 = false := by
    cases hh : hasE (insA (E.take j)) E[j].1 with
    | false => rfl
    | true =>
      have h1 := has_mem.1 hh
      rw [((insA_perm (E.take j)).map _).mem_iff] at h1
      have h2 := (h.take (j + 1)).nd
      rw [List.take_succ_eq_append_getElem hj, List.map_append, List.nodup_append] at h2
      exact absurd rfl (h2.2.2 _ h1 _ (by simp))
  have hl : (insA (E.take j)).length ≠ 10 := by
    rw [ht.len_ins, List.length_take]
    have := h.len
    omega
  have hm : mayE (E[j].1, E[j].2) = true := h.may _ (List.getElem_mem hj)
  unfold withE
  rw [if_neg (by rw [ht.mayEs, hm]; simp), if_neg (by rw [hno]; simp), if_neg hl]
  congr 1
  unfold insA
  rw [List.take_succ_eq_append_getElem hj, List.foldl_append]
  rfl
theorem Puts.same {E F : List Ent} (h : Puts E) (hp : F.Perm E) : insA F = insA E :=
  ri_one (mayEs_iff.1 (h.perm hp).mayEs).2.2 (mayEs_iff.1 h.mayEs).2.2 ((insA_perm F).trans (hp.trans (insA_perm E).symm))
/-- The entries of texts: of the first one node 1, and so on. -/
def entsO (l : List ByteArray) : List Ent := (List.range l.length).map fun i => (l.getD i ⟨#[]⟩, ((1 + i : Nat) : Int))
theorem entsO_len (l : List ByteArray) : (entsO l).length = l.length := by simp [entsO]
theorem entsO_at (l : List ByteArray) (i : Nat) (h : i < l.length) : (entsO l)[i]'(by rw [entsO_len]; exact h) = (l[i], ((1 + i : Nat) : Int)) := by
  simp [entsO, List.getD, List.getElem?_eq_getElem h]
theorem entsO_names (l : List ByteArray) : (entsO l).map (·.1) = l := by
  refine List.ext_getElem (by simp [entsO]) fun i h1 h2 => ?_
  rw [List.getElem_map, entsO_at l i h2]
theorem entsO_puts {l : List ByteArray} (h : l.length ≤ 10) (hm : ∀ s ∈ l, mayL s.data.toList = true) (hn : l.Nodup) : Puts (entsO l) := by
  refine ⟨by rw [entsO_names]; exact hn, fun e he => ?_, by rw [entsO_len]; exact h⟩
  obtain ⟨i, hi, rfl⟩ := List.getElem_of_mem he
  rw [entsO_len] at hi
  rw [entsO_at l i hi, mayE_eq, hm _ (List.getElem_mem hi)]
  simp
  omega
/-- Begun with the k-th one. -/
def rotE (E : List Ent) (k : Nat) : List Ent := E.drop k ++ E.take k
theorem rot_perm (E : List Ent) (k : Nat) : (rotE E k).Perm E := by
  unfold rotE
  refine List.perm_append_comm.trans ?_
  rw [List.take_append_drop]
theorem rot_len (E : List Ent) (k : Nat) : (rotE E k).length = E.length := (rot_perm E k).length_eq
theorem rot_at (E : List Ent) (k i : Nat) (hk : k ≤ E.length) (hi : i < E.length) : (rotE E k)[i]'(by rw [rot_len]; exact hi) = E[(i + k) % E.length]'(Nat.mod_lt _ (by omega)) := by
  unfold rotE
  by_cases h : i + k < E.length
  · rw [List.getElem_append_left (by rw [List.length_drop]; omega), List.getElem_drop]
    simp only [Nat.mod_eq_of_lt h]
    congr 1
    omega
  · rw [List.getElem_append_right (by rw [List.length_drop]; omega), List.getElem_take]
    have e : (i + k) % E.length = i + k - E.length := by
      rw [Nat.mod_eq_sub_mod (by omega), Nat.mod_eq_of_lt (by omega)]
    simp only [e, List.length_drop]
    congr 1
    omega
end Go.Proofs.Ytnmcnnackokhcaa
