/- What is picked of two blocks of which one was copied into the other. -/
import Derived.Test.YtnadcdgpfopcaaaMoZ
namespace Go.Proofs.Ytnadcdgpfopcaaa
open Go.RowKit

def twoF (a b : Nat) (l m : List Sh) : Nat → List Sh := fun k => if k = a then l else if k = b then m else []
theorem twoF_nil (a b : Nat) : twoF a b [] [] = fun _ => [] := by funext k; unfold twoF; split; rfl; split <;> rfl
theorem twoF_a (a b : Nat) (l m : List Sh) : twoF a b l m a = l := if_pos rfl
theorem twoF_b {a b : Nat} (h : b ≠ a) (l m : List Sh) : twoF a b l m b = m := by unfold twoF; rw [if_neg h, if_pos rfl]
theorem twoF_upda (a b : Nat) (l m : List Sh) (x : Sh) : updS (twoF a b l m) a x = twoF a b (l ++ [x]) m := by
  funext k
  unfold updS twoF
  by_cases h : k = a
  · rw [if_pos h, if_pos rfl, if_pos h]
  · rw [if_neg h, if_neg h, if_neg h]
theorem twoF_updb {a b : Nat} (hab : b ≠ a) (l m : List Sh) (x : Sh) : updS (twoF a b l m) b x = twoF a b l (m ++ [x]) := by
  funext k
  unfold updS twoF
  by_cases h : k = b
  · rw [if_pos h, if_neg hab, if_pos rfl, if_neg (by rw [h]; exact hab), if_pos h]
  · rw [if_neg h, if_neg h, if_neg h]
theorem pm_mem {L : List P2} (hn : (L.map (·.1)).Nodup) {r : P2} (hr : r ∈ L) : pmF L r.1 = some r.2 := by
  obtain ⟨m, hm⟩ : ∃ m, m = L.length := ⟨_, rfl⟩
  induction m generalizing L with
  | zero =>
    obtain rfl := List.eq_nil_of_length_eq_zero hm.symm
    cases hr
  | succ m ih =>
    rcases List.eq_nil_or_concat L with rfl | ⟨L', x, rfl⟩
    · simp at hm
    · rw [List.concat_eq_append] at *
      rw [pmF_snoc]
      rw [List.map_append, List.nodup_append] at hn
      obtain ⟨n1, -, n3⟩ := hn
      unfold pmStep
      rcases List.mem_append.1 hr with h | h
      · rw [if_neg fun e => n3 _ (List.mem_map_of_mem h) x.1 (by simp) (by exact e)]
        exact ih n1 h (by simp at hm; exact hm)
      · rw [List.mem_singleton.1 h, if_pos rfl]
theorem filter_block (F : Nat → List Sh) (b : Nat) (p : Fd → Bool) (B : Nat) (hp : ∀ f ∈ ((List.range B).flatMap fun (k : Nat) => fdL (k : Int) 0 (F k)), p f = true) : (((List.range B).flatMap fun (k : Nat) => fdL (k : Int) 0 (F k)).filter fun f => p f && decide (f.2.1.toNat = b)) = if b < B then fdL (b : Int) 0 (F b) else [] := by
  induction B with
  | zero => simp
  | succ B ih =>
    rw [List.range_succ, List.flatMap_append, List.flatMap_singleton] at hp ⊢
    rw [List.filter_append, ih fun f hf => hp f (List.mem_append_left _ hf)]
    by_cases h1 : b < B
    · rw [if_pos h1, if_pos (by omega), List.filter_eq_nil_iff.2, List.append_nil]
      intro f hf
      obtain ⟨i, hi, rfl⟩ := fdL_mem hf
      have : ¬ B = b := by omega
      simp [this]
    · rw [if_neg h1, List.nil_append]
      by_cases h2 : b = B
      · subst h2
        rw [if_pos (by omega), List.filter_eq_self.2]
        intro f hf
        have h3 := hp f (List.mem_append_right _ hf)
        obtain ⟨i, hi, rfl⟩ := fdL_mem hf
        rw [h3]; simp
      · rw [if_neg (by omega), List.filter_eq_nil_iff.2]
        intro f hf
        obtain ⟨i, hi, rfl⟩ := fdL_mem hf
        have : ¬ B = b := by omega
        simp [this]
abbrev refOf (x : Sh) : P2 := (x.1, x.2.1)
theorem fdL_refs (b : Int) (l : List Sh) : ∀ i, (fdL b i l).map (·.1) = l.map refOf := by
  induction l with
  | nil => exact fun i => rfl
  | cons x l ih => exact fun i => by show _ :: (fdL b (i + 1) l).map (·.1) = _; rw [ih]; rfl
theorem refs_nodup {l : List Sh} (h : (l.map (·.1)).Nodup) : (l.map refOf).Nodup := by
  unfold List.Nodup at h ⊢
  rw [List.pairwise_map] at h ⊢
  exact h.imp fun h e => h (congrArg (fun z : P2 => z.1) e)
theorem nodup_at {α : Type} {l : List α} (h : l.Nodup) {i j : Nat} (hi : i < l.length) (hj : j < l.length) (e : l[i] = l[j]) : i = j := by
  have key := List.pairwise_iff_getElem.1 h
  rcases Nat.lt_trichotomy i j with k | k | k
  · exact absurd e (key i j hi hj k)
  · exact k
  · exact absurd e.symm (key j i hj hi k)
/-- Where a ref stands in a block's table. -/
theorem at_back {b : Int} {l : List Sh} (h : (l.map (·.1)).Nodup) {j : Nat} (hj : j < l.length) : atT (fdL b 0 l).reverse (refOf l[j]) = some (b, (j : Int)) := by
  have hh : hasR (fdL b 0 l).reverse (refOf l[j]) = true := by
    unfold hasR
    refine List.any_eq_true.2 ⟨_, List.mem_reverse.2 (List.mem_of_getElem? (fdL_get b l 0 j hj)), by simp⟩
  obtain ⟨f, hf, e1, e2⟩ := at_some hh
  obtain ⟨i, hi, rfl⟩ := fdL_mem (List.mem_reverse.1 hf)
  rw [e2]
  have : i = j := nodup_at (refs_nodup h) (by simpa using hi) (by simpa using hj) (by simpa using e1)
  subst this
  show some (b, ((0 + i : Nat) : Int)) = _
  rw [Nat.zero_add]
theorem at_not {b : Int} {l : List Sh} {r : P2} (h : r ∉ l.map refOf) : atT (fdL b 0 l).reverse r = none := by
  refine at_noneX fun f hf e => h ?_
  obtain ⟨i, hi, rfl⟩ := fdL_mem (List.mem_reverse.1 hf)
  rw [← e]
  exact List.mem_map_of_mem (f := refOf) (List.getElem_mem hi)
section
variable {M : MS} {l : List Sh} {a b c : Nat}
theorem tabs_two (hnd : (l.map (·.1)).Nodup) : tabsF (l.map refOf) ((List.range 3).flatMap fun (k : Nat) => fdL (k : Int) 0 (twoF a b l (l.take c) k)) = fun (k : Nat) => if k < 3 then (fdL (k : Int) 0 (twoF a b l (l.take c) k)).reverse else [] := by
  funext k
  have hsub : ∀ k, (twoF a b l (l.take c) k).Sublist l := by
    intro k
    unfold twoF
    split
    · exact List.Sublist.refl _
    · split
      · exact List.take_sublist _ _
      · exact List.nil_sublist _
  rw [tabs_block, List.filter_reverse, filter_block (twoF a b l (l.take c)) k (fun f => decide (pmF (l.map refOf) f.1.1 = some f.1.2)) 3 ?_]
  · split
    · refine puts_same ?_ ?_
      · have := apart_rev (fdL_apart (k : Int) (by omega) 0 (twoF a b l (l.take c) k)) fun _ => true
        rwa [List.filter_eq_self.2 fun _ _ => rfl] at this
      · rw [List.map_reverse, fdL_refs]
        exact nodup_rev ((refs_nodup hnd).sublist ((hsub k).map _))
    · rfl
  · intro f hf
    obtain ⟨k', hk', hf⟩ := List.mem_flatMap.1 hf
    obtain ⟨i, hi, rfl⟩ := fdL_mem hf
    have hm : refOf (twoF a b l (l.take c) k')[i] ∈ l.map refOf := List.mem_map_of_mem ((hsub k').mem (List.getElem_mem hi))
    have hp : ((l.map refOf).map (·.1)).Nodup := by rw [List.map_map]; exact hnd
    have := pm_mem hp hm
    simpa using this
theorem best_two (hab : a = 0 ∧ b = 2 ∨ a = 2 ∧ b = 0) (hnd : (l.map (·.1)).Nodup) (hc : c ≤ l.length) {j : Nat} (hj : j < l.length) : ∃ n, 0 < n ∧ bestTo (tabsF (l.map refOf) ((List.range 3).flatMap fun (k : Nat) => fdL (k : Int) 0 (twoF a b l (l.take c) k))) (refOf l[j]) 3 = ((((if a = 0 ∨ c < l.length then a else b : Nat) : Int), (j : Int)), n) := by
  rw [tabs_two hnd, bestTo3]
  have hA : ∀ d : Nat, atT (fdL (d : Int) 0 l).reverse (refOf l[j]) = some ((d : Int), (j : Int)) := fun d => at_back hnd hj
  have hB : ∀ d : Nat, atT (fdL (d : Int) 0 (l.take c)).reverse (refOf l[j]) = if j < c then some ((d : Int), (j : Int)) else none := by
    intro d
    split
    · next h =>
      have hj' : j < (l.take c).length := by simp; omega
      have := at_back (b := (d : Int)) (l := l.take c) (hnd.sublist ((List.take_sublist _ _).map _)) hj'
      rwa [List.getElem_take] at this
    · next h =>
      refine at_not fun hm => ?_
      obtain ⟨x, hx, e⟩ := List.mem_map.1 hm
      obtain ⟨i, hi, rfl⟩ := List.getElem_of_mem hx
      have hi2 : i < c ∧ i < l.length := by simp at hi; omega
      rw [List.getElem_take] at e
      have : i = j := nodup_at (refs_nodup hnd) (by simpa using hi2.2) (by simpa using hj) (by simpa using e)
      omega
  have hlA : ∀ d : Int, (fdL d 0 l).reverse.length = l.length := fun d => by rw [List.length_reverse, fdL_length]
  have hlB : ∀ d : Int, (fdL d 0 (l.take c)).reverse.length = c := fun d => by rw [List.length_reverse, fdL_length, List.length_take]; omega
  have hnil : ∀ st : P2 × Nat, bestStep (refOf l[j]) st (if (1 : Nat) < 3 then (fdL ((1 : Nat) : Int) 0 (twoF a b l (l.take c) 1)).reverse else []) = st := by
    intro st
    have : twoF a b l (l.take c) 1 = [] := by unfold twoF; rw [if_neg (by omega), if_neg (by omega)]
    rw [this]
    exact best_nil _ _
  simp only [hnil, if_pos (show (0 : Nat) < 3 by decide), if_pos (show (2 : Nat) < 3 by decide)]
  rcases hab with ⟨rfl, rfl⟩ | ⟨rfl, rfl⟩
  · refine ⟨l.length, by omega, ?_⟩
    rw [twoF_a, twoF_b (by decide), if_pos (.inl rfl)]
    have s0 : bestStep (refOf l[j]) ((0, 0), 0) (fdL ((0 : Nat) : Int) 0 l).reverse = ((((0 : Nat) : Int), (j : Int)), l.length) := by
      unfold bestStep
      rw [hA, hlA, if_pos ⟨rfl, by show 0 < l.length; omega⟩]; rfl
    rw [s0]
    unfold bestStep
    rw [hlB, if_neg fun h => by have := h.2; simp only at this; omega]
  · rw [twoF_a, twoF_b (by decide)]
    have s0 : bestStep (refOf l[j]) ((0, 0), 0) (fdL ((0 : Nat) : Int) 0 (l.take c)).reverse = if j < c then ((((0 : Nat) : Int), (j : Int)), c) else ((0, 0), 0) := by
      unfold bestStep
      rw [hB, hlB]
      by_cases h : j < c
      · rw [if_pos h, if_pos ⟨rfl, by show 0 < c; omega⟩, if_pos h]; rfl
      · rw [if_neg h, if_neg (by simp), if_neg h]
    rw [s0]
    by_cases h : c < l.length
    · rw [if_pos (show 2 = 0 ∨ c < l.length from .inr h)]
      refine ⟨l.length, by omega, ?_⟩
      by_cases hjc : j < c
      · rw [if_pos hjc]
        unfold bestStep
        rw [hA, hlA, if_pos ⟨rfl, by show c < l.length; omega⟩]; rfl
      · rw [if_neg hjc]
        unfold bestStep
        rw [hA, hlA, if_pos ⟨rfl, by show 0 < l.length; omega⟩]; rfl
    · have hjc : j < c := by omega
      rw [if_neg (show ¬ (2 = 0 ∨ c < l.length) by omega), if_pos hjc]
      refine ⟨c, by omega, ?_⟩
      unfold bestStep
      rw [hlA, if_neg fun h2 => by have h3 : c < l.length := h2.2; omega]
/-- All are picked out of one block. -/
theorem picks_two (ht : M.thr = true) (hB : M.B = 3) (hab : a = 0 ∧ b = 2 ∨ a = 2 ∧ b = 0) (hfd : M.fd = (List.range 3).flatMap fun (k : Nat) => fdL (k : Int) 0 (twoF a b l (l.take c) k)) (hnd : (l.map (·.1)).Nodup) (hc : c ≤ l.length) : ∃ D : Nat, D < 3 ∧ M.pickF (l.map refOf) = fdL (D : Int) 0 l ∧ M.pickE (l.map refOf) = 0 := by
  have hall : allB (tabsF (l.map refOf) M.fd) M.B (l.map refOf) = true := by
    unfold allB
    rw [hB, hfd, List.all_eq_true]
    intro r hr
    obtain ⟨x, hx, rfl⟩ := List.mem_map.1 hr
    obtain ⟨j, hj, rfl⟩ := List.getElem_of_mem hx
    obtain ⟨n, hn, e⟩ := best_two (a := a) (b := b) (c := c) hab hnd hc hj
    rw [e]; simpa using hn
  have hn2 : ((l.map refOf).map (·.1)).Nodup := by rw [List.map_map]; exact hnd
  refine ⟨if a = 0 ∨ c < l.length then a else b, by split <;> omega, ?_, ?_⟩
  · unfold MS.pickF
    rw [if_pos ⟨ht, hn2, hall⟩]
    unfold resB
    apply List.ext_getElem
    · simp [fdL_length]
    · intro j h1 h2
      simp only [List.length_map] at h1
      obtain ⟨n, hn, e⟩ := best_two (a := a) (b := b) (c := c) hab hnd hc h1
      have hg := fdL_get ((if a = 0 ∨ c < l.length then a else b : Nat) : Int) l 0 j h1
      rw [List.getElem?_eq_getElem h2] at hg
      rw [Option.some.inj hg]
      simp only [List.getElem_map, hB, hfd]
      rw [e, Nat.zero_add]
  · unfold MS.pickE
    rw [if_neg (by rw [ht]; simp), if_neg (by simpa using hn2), if_pos hall]
end
end Go.Proofs.Ytnadcdgpfopcaaa
