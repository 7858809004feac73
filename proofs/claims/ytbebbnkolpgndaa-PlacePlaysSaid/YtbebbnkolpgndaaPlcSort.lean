/- Tables told in order: blocks rise; how many stand in each, together, are all: the mathematics. -/
import Derived.Test.YtbebbnkolpgndaaPlcEmpty
namespace Go.Proofs.Ytbebbnkolpgndaa
open Go.RowKit

/-- Blocks rise, or stay. -/
def Asc (L : List Fd) : Prop := L.Pairwise fun f g => f.2.1 ≤ g.2.1
theorem insT_asc {l : List Fd} (h : Asc l) (f : Fd) : Asc (insT l f) := by
  have hs : Asc (l.takeWhile (fun g => ltS g.2 f.2) ++ l.dropWhile (fun g => ltS g.2 f.2)) := by rw [List.takeWhile_append_dropWhile]; exact h
  unfold Asc at hs ⊢
  rw [List.pairwise_append] at hs
  obtain ⟨h1, h2, h3⟩ := hs
  have t1 : ∀ g ∈ l.takeWhile (fun g => ltS g.2 f.2), g.2.1 ≤ f.2.1 := fun g hg => by
    have h9 := List.all_takeWhile (p := fun g : Fd => ltS g.2 f.2) (l := l)
    rw [List.all_eq_true] at h9
    have := h9 g hg
    simp [ltS] at this
    omega
  have t2 : ∀ g ∈ l.dropWhile (fun g => ltS g.2 f.2), f.2.1 ≤ g.2.1 := fun g hg => by
    have hne : l.dropWhile (fun g => ltS g.2 f.2) ≠ [] := fun e => by rw [e] at hg; cases hg
    have hh := List.head_dropWhile_not (fun g : Fd => ltS g.2 f.2) hne
    obtain ⟨a, r, e⟩ := List.exists_cons_of_ne_nil hne
    have ha : ltS a.2 f.2 = false := by
      simp only [e, List.head_cons] at hh
      exact hh
    have hfa : f.2.1 ≤ a.2.1 := by
      simp [ltS] at ha
      omega
    rw [e] at hg h2
    rcases List.mem_cons.1 hg with rfl | hg
    · exact hfa
    · have := (List.pairwise_cons.1 h2).1 g hg
      omega
  unfold insT
  rw [List.pairwise_append]
  refine ⟨h1, List.pairwise_cons.2 ⟨t2, h2⟩, fun x hx y hy => ?_⟩
  rcases List.mem_cons.1 hy with rfl | hy
  · exact t1 x hx
  · exact h3 x hx y hy
theorem foldl_asc (T : List Fd) : ∀ l : List Fd, Asc l → Asc (T.foldl insT l) := by
  induction T with
  | nil => intro l h; exact h
  | cons f T ih => intro l h; rw [List.foldl_cons]; exact ih _ (insT_asc h f)
theorem allT_asc (T : List Fd) : Asc (allT T) := foldl_asc T [] List.Pairwise.nil
/-- One more block, if it is not the last one. -/
def stepD (D : List Int) (b : Int) : List Int := if D.getLast? = some b then D else D ++ [b]
def blksOf (L : List Fd) : List Int := L.foldl (fun D f => stepD D f.2.1) []
theorem blks_take {L : List Fd} {i : Nat} (h : i < L.length) : blksOf (L.take (i + 1)) = stepD (blksOf (L.take i)) L[i].2.1 := by
  unfold blksOf
  rw [List.take_succ_eq_append_getElem h, List.foldl_append]
  rfl
theorem step_len (D : List Int) (b : Int) : (stepD D b).length ≤ D.length + 1 := by
  unfold stepD; split <;> simp
theorem blks_le (L : List Fd) : (blksOf L).length ≤ L.length := by
  suffices h : ∀ (L : List Fd) (D : List Int), (L.foldl (fun D f => stepD D f.2.1) D).length ≤ D.length + L.length by
    have := h L []
    simpa [blksOf] using this
  intro L
  induction L with
  | nil => intro D; simp
  | cons f L ih =>
    intro D
    rw [List.foldl_cons]
    have h1 := ih (stepD D f.2.1)
    have h2 := step_len D f.2.1
    simp only [List.length_cons]
    omega
/-- What the blocks are: strictly rising, those of all, the last one's is the last. -/
theorem blks_spec (L : List Fd) : ∀ D : List Int, D.Pairwise (· < ·) → Asc L → (∀ x, D.getLast? = some x → ∀ f ∈ L, x ≤ f.2.1) →
    (L.foldl (fun D f => stepD D f.2.1) D).Pairwise (· < ·) ∧ (∀ x ∈ D, x ∈ L.foldl (fun D f => stepD D f.2.1) D) ∧ ∀ f ∈ L, f.2.1 ∈ L.foldl (fun D f => stepD D f.2.1) D := by
  induction L with
  | nil => intro D h _ _; exact ⟨h, fun x hx => hx, fun f hf => by cases hf⟩
  | cons f L ih =>
    intro D hD hL hl
    have hL' := List.pairwise_cons.1 hL
    rw [List.foldl_cons]
    by_cases e : D.getLast? = some f.2.1
    · have es : stepD D f.2.1 = D := if_pos e
      rw [es]
      obtain ⟨a, b, c⟩ := ih D hD hL'.2 (fun x hx g hg => hl x hx g (List.mem_cons_of_mem _ hg))
      refine ⟨a, b, fun g hg => ?_⟩
      rcases List.mem_cons.1 hg with rfl | hg
      · exact b _ (List.mem_of_getLast? e)
      · exact c g hg
    · have es : stepD D f.2.1 = D ++ [f.2.1] := if_neg e
      rw [es]
      have hD2 : (D ++ [f.2.1]).Pairwise (· < ·) := by
        rw [List.pairwise_append]
        refine ⟨hD, List.pairwise_singleton _ _, fun x hx y hy => ?_⟩
        rw [List.mem_singleton.1 hy]
        cases hlast : D.getLast? with
        | none => rw [List.getLast?_eq_none_iff] at hlast; rw [hlast] at hx; cases hx
        | some z =>
          have hz := hl z hlast f (List.mem_cons_self ..)
          have hne : z ≠ f.2.1 := fun e2 => e (by rw [hlast, e2])
          obtain ⟨D', rfl⟩ := List.getLast?_eq_some_iff.1 hlast
          rcases List.mem_append.1 hx with hx | hx
          · have := (List.pairwise_append.1 hD).2.2 x hx z (by simp)
            omega
          · rw [List.mem_singleton.1 hx]; omega
      obtain ⟨a, b, c⟩ := ih (D ++ [f.2.1]) hD2 hL'.2 (fun x hx g hg => by
        rw [List.getLast?_append] at hx
        simp at hx
        rw [← hx]
        exact hL'.1 g hg)
      refine ⟨a, fun x hx => b x (List.mem_append.2 (.inl hx)), fun g hg => ?_⟩
      rcases List.mem_cons.1 hg with rfl | hg
      · exact b _ (by simp)
      · exact c g hg
theorem blks_rise {L : List Fd} (h : Asc L) : (blksOf L).Pairwise (· < ·) ∧ ∀ f ∈ L, f.2.1 ∈ blksOf L := by
  have := blks_spec L [] List.Pairwise.nil h (fun x hx => by simp at hx)
  exact ⟨this.1, this.2.2⟩
def sumL (T : List Fd) (D : List Int) : Nat := (D.map fun b => liveT T b).sum
theorem sum_in (T : List Fd) : ∀ D : List Int, D.Pairwise (· < ·) → sumL T D = T.countP fun f => decide (f.2.1 ∈ D)
  | [], _ => by simp [sumL]
  | b :: D, h => by
    have h' := List.pairwise_cons.1 h
    have ih := sum_in T D h'.2
    have hnb : b ∉ D := fun hb => by have := h'.1 b hb; omega
    have e : sumL T (b :: D) = liveT T b + sumL T D := by simp [sumL]
    rw [e, ih]
    clear ih e h h'
    unfold liveT
    induction T with
    | nil => rfl
    | cons f T ih =>
      rw [List.countP_cons, List.countP_cons, List.countP_cons, ← ih]
      by_cases h1 : f.2.1 = b
      · have h2 : ¬ f.2.1 ∈ D := by rw [h1]; exact hnb
        have k1 : (f.2.1 == b) = true := by simp [h1]
        have k2 : decide (f.2.1 ∈ D) = false := by simp [h2]
        have k3 : decide (f.2.1 ∈ b :: D) = true := by simp [h1]
        rw [k1, k2, k3]
        simp; omega
      · have k1 : (f.2.1 == b) = false := by simp [h1]
        have k3 : decide (f.2.1 ∈ b :: D) = decide (f.2.1 ∈ D) := by simp [h1]
        rw [k1, k3]
        simp; omega
/-- How many stand in each, together, are all. -/
theorem sum_all {T L : List Fd} (hp : L.Perm T) (ha : Asc L) : sumL T (blksOf L) = T.length := by
  obtain ⟨h1, h2⟩ := blks_rise ha
  rw [sum_in T _ h1, List.countP_eq_length]
  intro f hf
  simpa using h2 f (hp.mem_iff.2 hf)
theorem sum_take (T : List Fd) (D : List Int) (j : Nat) (h : j < D.length) : sumL T (D.take (j + 1)) = sumL T (D.take j) + liveT T D[j] := by
  unfold sumL
  rw [List.take_succ_eq_append_getElem h, List.map_append, List.sum_append]
  simp
theorem sum_le (T : List Fd) (D : List Int) (j : Nat) : sumL T (D.take j) ≤ sumL T D := by
  have : sumL T D = sumL T (D.take j) + sumL T (D.drop j) := by
    unfold sumL
    rw [← List.sum_append, ← List.map_append, List.take_append_drop]
  omega
theorem nodup_at {T : List Fd} (hr : (T.map (·.1)).Nodup) {f g : Fd} (hf : f ∈ T) (hg : g ∈ T) (e : g.1 = f.1) : g = f := by
  induction T with
  | nil => cases hf
  | cons a T ih =>
    rw [List.map_cons, List.nodup_cons] at hr
    rcases List.mem_cons.1 hf with rfl | hf'
    · rcases List.mem_cons.1 hg with rfl | hg'
      · rfl
      · exact absurd (List.mem_map.2 ⟨g, hg', e⟩) hr.1
    · rcases List.mem_cons.1 hg with rfl | hg'
      · exact absurd (show g.1 ∈ T.map (·.1) from List.mem_map.2 ⟨f, hf', e.symm⟩) hr.1
      · exact ih hr.2 hf' hg'
theorem nodup_on {T : List Fd} (hr : (T.map (·.2)).Nodup) {f g : Fd} (hf : f ∈ T) (hg : g ∈ T) (e : g.2 = f.2) : g = f := by
  induction T with
  | nil => cases hf
  | cons a T ih =>
    rw [List.map_cons, List.nodup_cons] at hr
    rcases List.mem_cons.1 hf with rfl | hf'
    · rcases List.mem_cons.1 hg with rfl | hg'
      · rfl
      · exact absurd (List.mem_map.2 ⟨g, hg', e⟩) hr.1
    · rcases List.mem_cons.1 hg with rfl | hg'
      · exact absurd (show g.2 ∈ T.map (·.2) from List.mem_map.2 ⟨f, hf', e.symm⟩) hr.1
      · exact ih hr.2 hf' hg'
theorem atT_some {T : List Fd} (hw : WfT T) {f : Fd} (hf : f ∈ T) : atT T f.1 = some f.2 := by
  unfold atT
  cases e : T.find? (fun g => g.1 == f.1) with
  | none =>
    rw [List.find?_eq_none] at e
    exact absurd (by simp) (e f hf)
  | some g =>
    have h1 := List.find?_some e
    have h2 := List.mem_of_find?_eq_some e
    rw [nodup_at hw.refs hf h2 (by simpa using h1)]
    rfl
theorem onT_some {T : List Fd} (hw : WfT T) {f : Fd} (hf : f ∈ T) : onT T f.2 = some f.1 := by
  unfold onT
  cases e : T.find? (fun g => g.2 == f.2) with
  | none =>
    rw [List.find?_eq_none] at e
    exact absurd (by simp) (e f hf)
  | some g =>
    have h1 := List.find?_some e
    have h2 := List.mem_of_find?_eq_some e
    rw [nodup_on hw.spots hf h2 (by simpa using h1)]
    rfl
end Go.Proofs.Ytbebbnkolpgndaa
