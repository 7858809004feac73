/- What is found and picked where one block has sheets, or two have. -/
import Derived.Test.YtnadcdgpfopcaaaMoX
namespace Go.Proofs.Ytnadcdgpfopcaaa
open Go.RowKit

/-- Block b alone has sheets. -/
def oneF (b : Nat) (l : List Sh) : Nat → List Sh := fun k => if k = b then l else []
theorem oneF_nil (b : Nat) : oneF b [] = fun _ => [] := by funext k; unfold oneF; split <;> rfl
theorem oneF_upd (b : Nat) (l : List Sh) (x : Sh) : updS (oneF b l) b x = oneF b (l ++ [x]) := by
  funext k
  unfold updS oneF
  by_cases h : k = b
  · rw [if_pos h, if_pos rfl, if_pos h]
  · rw [if_neg h, if_neg h, if_neg h]
theorem oneF_fd (B b : Nat) (l : List Sh) (hb : b < B) : ((List.range B).flatMap fun (k : Nat) => fdL (k : Int) 0 (oneF b l k)) = fdL (b : Int) 0 l := by
  have key : ∀ n, ((List.range n).flatMap fun (k : Nat) => fdL (k : Int) 0 (oneF b l k)) = if b < n then fdL (b : Int) 0 l else [] := by
    intro n
    induction n with
    | zero => simp
    | succ n ih =>
      rw [List.range_succ, List.flatMap_append, ih, List.flatMap_singleton]
      by_cases h1 : b < n
      · rw [if_pos h1, if_pos (by omega)]
        unfold oneF
        rw [if_neg (by omega)]
        simp [fdL]
      · rw [if_neg h1]
        by_cases h2 : n = b
        · subst h2
          rw [if_pos (by omega)]
          unfold oneF
          rw [if_pos rfl]; rfl
        · rw [if_neg (by omega)]
          unfold oneF
          rw [if_neg h2]; rfl
  rw [key, if_pos hb]
section
variable {S : LS} {B P : Nat} {F : Nat → List Sh} {rd : Nat}
/-- A whole scan of such a chip. -/
theorem Laid.whole (h : Laid S B P F rd) (hB : 1 ≤ B ∧ B ≤ 64) (hP : 1 ≤ P ∧ P ≤ 32) (hr : rd ≤ 1000000) : (scanned S (B * P)).thr = true ∧ (scanned S (B * P)).fd = ((List.range B).flatMap fun (b : Nat) => fdL (b : Int) 0 (F b)) ∧ (scanned S (B * P)).B = B ∧ (scanned S (B * P)).rd.length ≤ 2000 := by
  have hBP : B * P ≤ 64 * 32 := Nat.mul_le_mul hB.2 hP.2
  obtain ⟨h1, h2, -⟩ := h.scan (by omega) hr (by omega) (B * P) (Nat.le_refl _)
  obtain ⟨a1, a2, a3, a4, a5⟩ := scanned_S S (B * P)
  refine ⟨?_, ?_, by rw [a3, h.len], h2⟩
  · unfold MS.thr
    rw [a3, a4, a5, h.len, h.np, decide_eq_true rfl]
  · rw [h1, range_blocks B P F h.le]
theorem wfp_of {a : P2} (h1 : -9223372036854775808 ≤ a.1 ∧ a.1 ≤ 9223372036854775807) (h2 : -9223372036854775808 ≤ a.2 ∧ a.2 ≤ 9223372036854775807) : WfP a := by
  have h0 : IntKind.min .i64 = -9223372036854775808 := by decide
  have h3 : IntKind.max .i64 = 9223372036854775807 := by decide
  unfold WfP
  constructor
  · simpa [Lit.wf, h0, h3] using h1
  · simpa [Lit.wf, h0, h3] using h2
theorem Laid.fd_wf (h : Laid S B P F rd) (hB : 1 ≤ B ∧ B ≤ 64) (hP : P ≤ 32) : ∀ f ∈ ((List.range B).flatMap fun (b : Nat) => fdL (b : Int) 0 (F b)), WfP f.1 ∧ WfP f.2 ∧ 0 ≤ f.2.1 ∧ f.2.1 < B := by
  intro f hf
  obtain ⟨b, hb, hf⟩ := List.mem_flatMap.1 hf
  rw [List.mem_range] at hb
  obtain ⟨j, hj, rfl⟩ := fdL_mem hf
  have hm := h.may b _ (List.getElem_mem hj)
  have hle := h.le b
  obtain ⟨⟨m1, m2⟩, ⟨m3, m4⟩, -⟩ := hm
  exact ⟨wfp_of ⟨by show -9223372036854775808 ≤ (F b)[j].1; omega, by show (F b)[j].1 ≤ _; omega⟩ ⟨by show _ ≤ (F b)[j].2.1; omega, by show (F b)[j].2.1 ≤ _; omega⟩, wfp_of ⟨by show -9223372036854775808 ≤ (b : Int); omega, by show (b : Int) ≤ _; omega⟩ ⟨by show _ ≤ ((0 + j : Nat) : Int); omega, by show ((0 + j : Nat) : Int) ≤ _; omega⟩, by show (0 : Int) ≤ (b : Int); omega, by show (b : Int) < B; omega⟩
theorem fd_len (B : Nat) (F : Nat → List Sh) (m : Nat) (h : ∀ b, (F b).length ≤ m) : ((List.range B).flatMap fun (b : Nat) => fdL (b : Int) 0 (F b)).length ≤ B * m := by
  induction B with
  | zero => simp
  | succ B ih =>
    rw [List.range_succ, List.flatMap_append, List.length_append, List.flatMap_singleton, fdL_length]
    have := h B
    rw [Nat.add_mul, Nat.one_mul]
    omega
end
/-! ### Picking -/
theorem pm_one (r : P2) (k : Int) : pmF [r] k = if k = r.1 then some r.2 else none := rfl
theorem bestTo3 (Ts : Nat → List Fd) (r : P2) : bestTo Ts r 3 = bestStep r (bestStep r (bestStep r ((0, 0), 0) (Ts 0)) (Ts 1)) (Ts 2) := rfl
theorem best_nil (r : P2) (st : P2 × Nat) : bestStep r st [] = st := by unfold bestStep; rw [if_neg (by simp [atT])]
/-- Of one block's sheets one is picked. -/
theorem pick_one {l : List Sh} {j : Nat} (hj : j < l.length) {r : P2} (hr : r = (l[j].1, l[j].2.1)) : ∃ sp : P2, sp.1 = 1 ∧ bestTo (tabsF [r] (fdL 1 0 l)) r 3 = (sp, (tabsF [r] (fdL 1 0 l) 1).length) ∧ 0 < (tabsF [r] (fdL 1 0 l) 1).length := by
  have hno : ∀ b : Nat, b ≠ 1 → tabsF [r] (fdL 1 0 l) b = [] := by
    intro b hb
    rw [tabs_block, List.filter_eq_nil_iff.2]
    · rfl
    · intro f hf
      obtain ⟨i, hi, rfl⟩ := fdL_mem (by simpa using hf : f ∈ fdL 1 0 l)
      have : ¬ 1 = b := fun e => hb e.symm
      simp [this]
  obtain ⟨T, hT⟩ : ∃ T, tabsF [r] (fdL 1 0 l) 1 = T := ⟨_, rfl⟩
  have ha := apart_rev (fdL_apart 1 (by decide) 0 l) fun f => decide (pmF [r] f.1.1 = some f.1.2) && decide (f.2.1.toNat = 1)
  obtain ⟨p1, p2⟩ := puts_has ha
  rw [tabs_block] at hT
  rw [hT] at p1 p2
  have hmem : ((l[j].1, l[j].2.1), ((1 : Int), ((0 + j : Nat) : Int))) ∈ (fdL 1 0 l).reverse.filter fun f => decide (pmF [r] f.1.1 = some f.1.2) && decide (f.2.1.toNat = 1) := by
    refine List.mem_filter.2 ⟨List.mem_reverse.2 (List.mem_of_getElem? (fdL_get 1 l 0 j hj)), ?_⟩
    simp [pm_one, hr]
  have hh := p2 _ hmem
  rw [show ((l[j].1, l[j].2.1), ((1 : Int), ((0 + j : Nat) : Int))).1 = r from hr.symm] at hh
  obtain ⟨f, hf, e1, e2⟩ := at_some hh
  have hpos : 0 < T.length := List.length_pos_of_mem hf
  have hf1 := p1 f hf
  obtain ⟨i, hi, rfl⟩ := fdL_mem (by simpa using (List.mem_filter.1 hf1).1 : f ∈ fdL 1 0 l)
  refine ⟨(1, ((0 + i : Nat) : Int)), rfl, ?_, by rw [tabs_block, hT]; exact hpos⟩
  rw [bestTo3, hno 0 (by decide), hno 2 (by decide), best_nil, best_nil, tabs_block, hT]
  unfold bestStep
  rw [e2, if_pos ⟨rfl, hpos⟩]
  rfl
theorem pick_not {l : List Sh} (h : ∀ x ∈ l, ShOk x) : (bestTo (tabsF [(5, 1099511627777)] (fdL 1 0 l)) (5, 1099511627777) 3).2 = 0 := by
  have hno : ∀ b : Nat, tabsF [(5, 1099511627777)] (fdL 1 0 l) b = [] := by
    intro b
    rw [tabs_block, List.filter_eq_nil_iff.2]
    · rfl
    · intro f hf
      obtain ⟨i, hi, rfl⟩ := fdL_mem (by simpa using hf : f ∈ fdL 1 0 l)
      obtain ⟨-, ⟨m3, m4⟩, -⟩ := h _ (List.getElem_mem hi)
      rw [pm_one]
      have : ¬ (1099511627777 : Int) = l[i].2.1 := by omega
      split
      · simp [this]
      · simp
  rw [bestTo3, hno, hno, hno, best_nil, best_nil, best_nil]
section
variable {M : MS} {l : List Sh}
theorem picks_one (ht : M.thr = true) (hB : M.B = 3) (hfd : M.fd = fdL 1 0 l) {j : Nat} (hj : j < l.length) {r : P2} (hr : r = (l[j].1, l[j].2.1)) : ∃ z : Int, M.pickF [r] = [(r, ((1 : Int), z))] ∧ M.pickE [r] = 0 := by
  obtain ⟨sp, h1, h2, h3⟩ := pick_one hj hr
  have hall : allB (tabsF [r] M.fd) M.B [r] = true := by
    unfold allB
    rw [hB, hfd]
    simp only [List.all_cons, List.all_nil, Bool.and_true, decide_eq_true_eq]
    rw [h2]; exact h3
  obtain ⟨s1, s2⟩ := sp
  obtain rfl : s1 = 1 := h1
  refine ⟨s2, ?_, ?_⟩
  · unfold MS.pickF
    rw [if_pos ⟨ht, by simp, hall⟩]
    unfold resB
    rw [hB, hfd, List.map_cons, List.map_nil, h2]
  · unfold MS.pickE
    rw [if_neg (by rw [ht]; simp), if_neg (by simp), if_pos hall]
theorem picks_twice (ht : M.thr = true) (a b c : Int) : M.pickE [(a, b), (a, c)] = 1 := by
  unfold MS.pickE
  rw [if_neg (by rw [ht]; simp), if_pos (by simp)]
theorem picks_not (ht : M.thr = true) (hB : M.B = 3) (hfd : M.fd = fdL 1 0 l) (h : ∀ x ∈ l, ShOk x) : M.pickE [(5, 1099511627777)] = 8 := by
  have hall : ¬ allB (tabsF [(5, 1099511627777)] M.fd) M.B [(5, 1099511627777)] = true := by
    unfold allB
    rw [hB, hfd]
    simp only [List.all_cons, List.all_nil, Bool.and_true, decide_eq_true_eq]
    rw [pick_not h]; simp
  unfold MS.pickE
  rw [if_neg (by rw [ht]; simp), if_neg (by simp), if_neg hall]
theorem picks_none (ht : M.thr = true) : M.pickE [] = 0 ∧ M.pickF [] = [] := by
  constructor
  · unfold MS.pickE
    rw [if_neg (by rw [ht]; simp), if_neg (by simp), if_pos (show allB (tabsF [] M.fd) M.B [] = true from rfl)]
  · unfold MS.pickF
    rw [if_pos ⟨ht, by simp, rfl⟩]; rfl
end
/-- The greatest number of sheets. -/
def mxS (l : List Sh) : Int := l.foldl (fun m x => max m x.2.1) 0
theorem mxS_snoc (l : List Sh) (x : Sh) : mxS (l ++ [x]) = max (mxS l) x.2.1 := by simp [mxS]
theorem seqL_fdL (b : Int) (l : List Sh) (i : Nat) : seqL (fdL b i l) = mxS l := by
  have key : ∀ (l : List Sh) (i : Nat) (m : Int), (fdL b i l).foldl (fun m f => max m f.1.2) m = l.foldl (fun m x => max m x.2.1) m := by
    intro l
    induction l with
    | nil => exact fun i m => rfl
    | cons x l ih => exact fun i m => ih (i + 1) _
  exact key l i 0
theorem mxS_le (l : List Sh) (h : ∀ x ∈ l, ShOk x) : 0 ≤ mxS l ∧ mxS l ≤ 1099511627776 := by
  have key : ∀ (l : List Sh) (m : Int), (∀ x ∈ l, ShOk x) → 0 ≤ m ∧ m ≤ 1099511627776 → 0 ≤ l.foldl (fun m x => max m x.2.1) m ∧ l.foldl (fun m x => max m x.2.1) m ≤ 1099511627776 := by
    intro l
    induction l with
    | nil => exact fun m _ h => h
    | cons x l ih =>
      intro m h hm
      have := (h x (by simp)).2.1
      exact ih _ (fun y hy => h y (by simp [hy])) ⟨by show 0 ≤ max m x.2.1; omega, by show max m x.2.1 ≤ _; omega⟩
  exact key l 0 h ⟨Int.le_refl _, by decide⟩
/-- Where block 0 alone has sheets, no more pages are read than it has; where it has none, none. -/
theorem seen_one {S : LS} {B P : Nat} {l : List Sh} {rd : Nat} (h : Laid S B P (oneF 0 l) rd) (hP : 0 < P) (e : Nat) (he : e ≤ B * P) : ((List.range e).flatMap (seenQ S P)).length ≤ (if l = [] then 0 else P) := by
  have one : ∀ q, q < B * P → (seenQ S P q).length ≤ (if l = [] then 0 else if q < P then 1 else 0) := by
    intro q hq
    have hbP : q / P < B := Nat.div_lt_of_lt_mul (by rw [Nat.mul_comm]; omega)
    have hbl : q / P < S.bl.length := by rw [h.len]; exact hbP
    obtain ⟨b1, b2, b3⟩ := h.bl _ hbl
    have htell : tellB S ((q / P : Nat) : Int) = S.bl[q / P] := by unfold tellB; rw [isLn_at hbl, if_pos rfl, blkL_at hbl]
    unfold seenQ
    rw [htell, b2]
    by_cases h0 : q < P
    · rw [Nat.div_eq_of_lt h0]
      by_cases hl : l = []
      · rw [if_pos hl]
        subst hl
        simp [oneF]
      · rw [if_neg hl, if_pos h0]
        split <;> simp
    · have : ¬ q / P = 0 := fun k => h0 (by
        rcases Nat.div_eq_zero_iff.1 k with k | k
        · omega
        · exact k)
      have e0 : oneF 0 l (q / P) = [] := if_neg this
      rw [e0]
      simp
  have key : ((List.range e).flatMap (seenQ S P)).length ≤ (if l = [] then 0 else min e P) := by
    have hh := h.len
    clear h
    induction e with
    | zero => simp
    | succ e ih =>
      rw [List.range_succ, List.flatMap_append, List.length_append, List.flatMap_singleton]
      have h1 := ih (by omega)
      have h2 := one e (by omega)
      by_cases hl : l = []
      · rw [if_pos hl] at h1 h2 ⊢; omega
      · rw [if_neg hl] at h1 h2 ⊢
        by_cases h3 : e < P
        · rw [if_pos h3] at h2; omega
        · rw [if_neg h3] at h2; omega
  by_cases hl : l = []
  · rw [if_pos hl] at key ⊢; exact key
  · rw [if_neg hl] at key ⊢; omega
end Go.Proofs.Ytnadcdgpfopcaaa
