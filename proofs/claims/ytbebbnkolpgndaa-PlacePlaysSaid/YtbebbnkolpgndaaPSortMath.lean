/- A list of refs with their spots, in the order of the spots: there is one, whatever it was made of; of no program. -/
import Derived.Test.YtbebbnkolpgndaaPTabMath
namespace Go.Proofs.Ytbebbnkolpgndaa

theorem lt_iff (a b : P2) : ltS a b = true ↔ a.1 < b.1 ∨ a.1 = b.1 ∧ a.2 < b.2 := by simp [ltS]
theorem lt_irr (a : P2) : ¬ ltS a a = true := fun h => by rw [lt_iff] at h; omega
theorem lt_tr {a b c : P2} (h : ltS a b = true) (k : ltS b c = true) : ltS a c = true := by rw [lt_iff] at *; omega
theorem lt_tot {a b : P2} (h : ¬ ltS a b = true) (hne : a ≠ b) : ltS b a = true := by
  rw [lt_iff] at *
  have : ¬ (a.1 = b.1 ∧ a.2 = b.2) := fun e => hne (Prod.ext e.1 e.2)
  omega
/-- By their spots, rising. -/
def Srt (L : List Fd) : Prop := L.Pairwise fun f g => ltS f.2 g.2 = true
theorem ins_cons (a : Fd) (l : List Fd) (f : Fd) : insT (a :: l) f = if ltS a.2 f.2 = true then a :: insT l f else f :: a :: l := by
  unfold insT
  by_cases h : ltS a.2 f.2 = true <;> simp [h]
theorem ins_perm : ∀ (l : List Fd) (f : Fd), (insT l f).Perm (f :: l)
  | [], _ => List.Perm.refl _
  | a :: l, f => by
    rw [ins_cons]
    split
    · exact ((ins_perm l f).cons a).trans (List.Perm.swap ..)
    · exact List.Perm.refl _
theorem ins_srt : ∀ {l : List Fd} {f : Fd}, Srt l → (∀ g ∈ l, g.2 ≠ f.2) → Srt (insT l f)
  | [], f, _, _ => List.pairwise_singleton _ _
  | a :: l, f, h, hn => by
    obtain ⟨h1, h2⟩ := List.pairwise_cons.1 h
    rw [ins_cons]
    split
    · next hlt =>
      refine List.pairwise_cons.2 ⟨fun g hg => ?_, ins_srt h2 fun g hg => hn g (List.mem_cons_of_mem _ hg)⟩
      rcases List.mem_cons.1 ((ins_perm l f).mem_iff.1 hg) with rfl | hg
      · exact hlt
      · exact h1 g hg
    · next hlt =>
      have hfa := lt_tot hlt (hn a (List.mem_cons_self ..))
      refine List.pairwise_cons.2 ⟨fun g hg => ?_, h⟩
      rcases List.mem_cons.1 hg with rfl | hg
      · exact hfa
      · exact lt_tr hfa (h1 g hg)
theorem fold_perm (T : List Fd) : ∀ l : List Fd, (T.foldl insT l).Perm (l ++ T) := by
  induction T with
  | nil => intro l; simp
  | cons f T ih =>
    intro l
    rw [List.foldl_cons]
    refine (ih _).trans ?_
    refine ((ins_perm l f).append_right T).trans ?_
    exact (List.perm_middle (l₁ := l) (l₂ := T) (a := f)).symm
theorem fold_srt : ∀ (T l : List Fd), Srt l → ((l ++ T).map (·.2)).Nodup → Srt (T.foldl insT l)
  | [], _, h, _ => h
  | f :: T, l, h, hn => by
    rw [List.foldl_cons]
    have hp : (insT l f ++ T).Perm (l ++ f :: T) := ((ins_perm l f).append_right T).trans (List.perm_middle (l₁ := l) (l₂ := T) (a := f)).symm
    refine fold_srt T _ (ins_srt h fun g hg e => ?_) ((hp.map _).nodup_iff.2 hn)
    rw [List.map_append, List.map_cons, List.nodup_append] at hn
    exact hn.2.2 g.2 (List.mem_map.2 ⟨g, hg, rfl⟩) f.2 (List.mem_cons_self ..) e
theorem srt_one : ∀ {L M : List Fd}, Srt L → Srt M → L.Perm M → L = M
  | [], M, _, _, hp => by rw [List.nil_perm.1 hp]
  | a :: L, [], _, _, hp => by cases List.perm_nil.1 hp
  | a :: L, b :: M, h, k, hp => by
    obtain ⟨h1, h2⟩ := List.pairwise_cons.1 h
    obtain ⟨k1, k2⟩ := List.pairwise_cons.1 k
    have e : a = b := by
      rcases List.mem_cons.1 (hp.mem_iff.1 (List.mem_cons_self ..)) with e | ha
      · exact e
      · rcases List.mem_cons.1 (hp.mem_iff.2 (List.mem_cons_self ..)) with e | hb
        · exact e.symm
        · exact absurd (lt_tr (k1 a ha) (h1 b hb)) (lt_irr _)
    subst e
    rw [srt_one h2 k2 (List.Perm.cons_inv hp)]
/-- A list in order that is made of the table's is the table in order. -/
theorem all_of {T L : List Fd} (hn : (T.map (·.2)).Nodup) (hp : L.Perm T) (hs : ∀ i j (hi : i < L.length) (hj : j < L.length), i < j → ltS L[j].2 L[i].2 = false) : L = allT T := by
  have hnL : (L.map (·.2)).Nodup := (hp.map _).nodup_iff.2 hn
  refine srt_one (List.pairwise_iff_getElem.2 fun i j hi hj hij => ?_) (fold_srt T [] List.Pairwise.nil (by simpa using hn)) (hp.trans (fold_perm T []).symm)
  have h1 := hs i j hi hj hij
  have hne : L[j].2 ≠ L[i].2 := fun e => by
    rw [List.nodup_iff_pairwise_ne, List.pairwise_map, List.pairwise_iff_getElem] at hnL
    exact hnL i j hi hj hij e.symm
  exact lt_tot (by simpa using h1) hne
theorem in_of {T L : List Fd} {b : Int} (hn : (T.map (·.2)).Nodup) (hp : L.Perm (T.filter fun f => f.2.1 == b)) (hs : ∀ i j (hi : i < L.length) (hj : j < L.length), i < j → ltS L[j].2 L[i].2 = false) : L = inT T b :=
  all_of (T := T.filter fun f => f.2.1 == b) ((List.Sublist.map _ List.filter_sublist).nodup hn) hp hs
end Go.Proofs.Ytbebbnkolpgndaa
