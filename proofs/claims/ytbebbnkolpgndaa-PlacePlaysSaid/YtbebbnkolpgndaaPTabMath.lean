/- What a table of refs with their spots is behind a cut and a put, as a set: the mathematics; of no program. -/
import Derived.Test.YtbebbnkolpgndaaPlcMath
namespace Go.Proofs.Ytbebbnkolpgndaa

theorem find_any {α : Type} (p : α → Bool) (l : List α) : (l.find? p).isSome = l.any p := by
  rw [Bool.eq_iff_iff, List.find?_isSome, List.any_eq_true]
theorem nodup_inj {α β : Type} {g : α → β} {l : List α} (hn : (l.map g).Nodup) {x f : α} (hx : x ∈ l) (hf : f ∈ l) (e : g x = g f) : x = f := by
  induction l with
  | nil => cases hx
  | cons c l ih =>
    rw [List.map_cons, List.nodup_cons] at hn
    rcases List.mem_cons.1 hx with e1 | hx
    · rcases List.mem_cons.1 hf with e2 | hf
      · rw [e1, e2]
      · exact absurd (List.mem_map.2 ⟨f, hf, by rw [← e, e1]⟩) hn.1
    · rcases List.mem_cons.1 hf with e2 | hf
      · exact absurd (List.mem_map.2 ⟨x, hx, by rw [e, e2]⟩) hn.1
      · exact ih hn.2 hx hf
/-- All numbers are ints. -/
def TInts (T : List Fd) : Prop := ∀ f ∈ T, WfP f.1 ∧ WfP f.2
theorem has_at (T : List Fd) (r : P2) : hasR T r = (atT T r).isSome := by
  unfold hasR atT
  rw [Option.isSome_map, find_any]
theorem at_mem {T : List Fd} {r s : P2} (h : atT T r = some s) : (r, s) ∈ T := by
  unfold atT at h
  obtain ⟨f, hf, rfl⟩ := Option.map_eq_some_iff.1 h
  have h1 : f.1 = r := by simpa using List.find?_some hf
  rw [← h1]
  exact List.mem_of_find?_eq_some hf
theorem on_mem {T : List Fd} {r s : P2} (h : onT T s = some r) : (r, s) ∈ T := by
  unfold onT at h
  obtain ⟨f, hf, rfl⟩ := Option.map_eq_some_iff.1 h
  have h1 : f.2 = s := by simpa using List.find?_some hf
  rw [← h1]
  exact List.mem_of_find?_eq_some hf
theorem at_none {T : List Fd} {r : P2} (h : atT T r = none) : ∀ f ∈ T, f.1 ≠ r := fun f hf e => by
  have h1 := has_at T r
  rw [h] at h1
  have h2 : (T.any fun f => f.1 == r) = false := h1
  rw [List.any_eq_false] at h2
  exact h2 f hf (by simpa using e)
theorem on_none {T : List Fd} {s : P2} (h : onT T s = none) : ∀ f ∈ T, f.2 ≠ s := fun f hf e => by
  unfold onT at h
  rw [Option.map_eq_none_iff, List.find?_eq_none] at h
  exact h f hf (by simpa using e)
theorem cut_none {T : List Fd} {r : P2} (h : atT T r = none) : cutT T r = T := by
  unfold cutT
  rw [List.filter_eq_self]
  exact fun f hf => by simpa using at_none h f hf
theorem wf_filter {T : List Fd} (h : WfT T) (q : Fd → Bool) : WfT (T.filter q) :=
  ⟨(List.Sublist.map _ List.filter_sublist).nodup h.refs, (List.Sublist.map _ List.filter_sublist).nodup h.spots, fun f hf => h.nonneg f (List.mem_filter.1 hf).1⟩
theorem ints_filter {T : List Fd} (h : TInts T) (q : Fd → Bool) : TInts (T.filter q) := fun f hf => h f (List.mem_filter.1 hf).1
/-- What stands where r stands is r. -/
theorem cut_by_spot {T : List Fd} (hw : WfT T) {r s : P2} (h : atT T r = some s) : (T.filter fun f => f.2 != s) = cutT T r := by
  unfold cutT
  refine List.filter_congr fun f hf => ?_
  have hm := at_mem h
  by_cases e : f.1 = r
  · have := nodup_inj hw.refs hf hm e
    rw [this]
    show (s != s) = (r != r)
    rw [bne_self_eq_false, bne_self_eq_false]
  · have : f.2 ≠ s := fun e2 => e (by rw [nodup_inj hw.spots hf hm e2])
    have h1 : (f.2 != s) = true := by simpa using this
    have h2 : (f.1 != r) = true := by simpa using e
    rw [h1, h2]
/-- May it be put: who stands on s? -/
theorem can_on {T : List Fd} (hw : WfT T) (r s : P2) : canT T r s = (decide (0 ≤ s.1) && decide (0 ≤ s.2) && (match onT T s with | none => true | some q => q == r)) := by
  unfold canT
  congr 1
  cases h : onT T s with
  | none =>
    rw [List.all_eq_true]
    exact fun f hf => by simp [on_none h f hf]
  | some q =>
    have hm := on_mem h
    by_cases e : q = r
    · subst e
      rw [show (match some q with | none => true | some q' => q' == q) = true from by simp, List.all_eq_true]
      intro f hf
      by_cases e2 : f.2 = s
      · have := nodup_inj hw.spots hf hm e2
        rw [this]; simp
      · simp [e2]
    · have : (q == r) = false := by simpa using e
      simp only [this]
      rw [List.all_eq_false]
      exact ⟨_, hm, by simp [e]⟩
theorem can_alone {T : List Fd} {r s : P2} (hc : canT T r s = true) : ∀ f ∈ T, f.2 = s → f.1 = r := by
  unfold canT at hc
  simp only [Bool.and_eq_true, List.all_eq_true] at hc
  intro f hf e
  have := hc.2 f hf
  simpa [e] using this
theorem cut_cut (T : List Fd) (r : P2) : ((cutT T r).filter fun f => f.1 != r) = cutT T r := by
  unfold cutT
  rw [List.filter_filter]
  simp
theorem cut_spot {T : List Fd} {r s : P2} (hc : canT T r s = true) : ((cutT T r).filter fun f => f.2 != s) = cutT T r := by
  rw [List.filter_eq_self]
  intro f hf
  have hf' := List.mem_filter.1 hf
  have : f.2 ≠ s := fun e => by
    have := can_alone hc f hf'.1 e
    simp [this] at hf'
  simpa using this
theorem map_same {r s : P2} : ∀ {l : List Fd}, (∀ f ∈ l, f.1 ≠ r) → l.map (fun f : Fd => if f.1 = r then (r, s) else f) = l
  | [], _ => rfl
  | f :: l, h => by
    rw [List.map_cons, if_neg (h f (List.mem_cons_self ..)), map_same fun g hg => h g (List.mem_cons_of_mem _ hg)]
theorem put_perm {T : List Fd} (hw : WfT T) {r s : P2} (hc : canT T r s = true) : (putT T r s).Perm ((r, s) :: cutT T r) := by
  unfold putT
  rw [if_pos hc]
  split
  · next hr =>
    rw [has_at] at hr
    obtain ⟨s0, hs0⟩ := Option.isSome_iff_exists.1 hr
    have hm := at_mem hs0
    obtain ⟨a, b, rfl⟩ := List.append_of_mem hm
    have hn := hw.refs
    rw [List.map_append, List.map_cons, List.nodup_append] at hn
    obtain ⟨_, hn2, hn3⟩ := hn
    rw [List.nodup_cons] at hn2
    have ha : ∀ f ∈ a, f.1 ≠ r := fun f hf e => hn3 f.1 (List.mem_map.2 ⟨f, hf, rfl⟩) r (List.mem_cons_self ..) e
    have hb : ∀ f ∈ b, f.1 ≠ r := fun f hf e => hn2.1 (List.mem_map.2 ⟨f, hf, e⟩)
    have m1 : a.map (fun f : Fd => if f.1 = r then (r, s) else f) = a := by
      exact map_same ha
    have m2 : b.map (fun f : Fd => if f.1 = r then (r, s) else f) = b := by
      exact map_same hb
    have e1 : cutT (a ++ (r, s0) :: b) r = a ++ b := by
      unfold cutT
      rw [List.filter_append, List.filter_cons, if_neg (by simp)]
      rw [List.filter_eq_self.2 fun f hf => by simpa using ha f hf, List.filter_eq_self.2 fun f hf => by simpa using hb f hf]
    rw [List.map_append, List.map_cons, m1, m2, e1]
    simp only [if_true]
    exact List.perm_middle
  · next hr =>
    rw [has_at] at hr
    have h0 : atT T r = none := by simpa using hr
    rw [cut_none h0]
    exact List.perm_append_comm.trans (by simp)
theorem wf_cons {T : List Fd} (hw : WfT T) {r s : P2} (hc : canT T r s = true) : WfT ((r, s) :: cutT T r) := by
  have h1 := wf_filter hw fun f => f.1 != r
  have hs : 0 ≤ s.1 ∧ 0 ≤ s.2 := by
    unfold canT at hc
    simp only [Bool.and_eq_true, decide_eq_true_eq] at hc
    exact hc.1
  refine ⟨?_, ?_, ?_⟩
  · rw [List.map_cons, List.nodup_cons]
    refine ⟨fun h => ?_, h1.refs⟩
    obtain ⟨f, hf, e⟩ := List.mem_map.1 h
    have := (List.mem_filter.1 hf).2
    simp at this
    exact this e
  · rw [List.map_cons, List.nodup_cons]
    refine ⟨fun h => ?_, h1.spots⟩
    obtain ⟨f, hf, e⟩ := List.mem_map.1 h
    have h2 := can_alone hc f (List.mem_filter.1 hf).1 e
    have := (List.mem_filter.1 hf).2
    simp [h2] at this
  · intro f hf
    rcases List.mem_cons.1 hf with rfl | hf
    · exact hs
    · exact h1.nonneg f hf
theorem ints_cons {T : List Fd} (h : TInts T) {r s : P2} (hr : WfP r) (hs : WfP s) : TInts ((r, s) :: cutT T r) := fun f hf => by
  rcases List.mem_cons.1 hf with rfl | hf
  · exact ⟨hr, hs⟩
  · exact ints_filter h _ f hf
theorem WfT.perm {T T' : List Fd} (hw : WfT T) (hp : T.Perm T') : WfT T' := ⟨(hp.map _).nodup_iff.1 hw.refs, (hp.map _).nodup_iff.1 hw.spots, fun f hf => hw.nonneg f (hp.mem_iff.2 hf)⟩
end Go.Proofs.Ytbebbnkolpgndaa
