/- Those that are looked at, with their places: the mathematics, of no program but for the names of two lists. -/
import Derived.Test.YtjgpjmlnmjgdmaaWearMath2
import Derived.Test.YtjgpjmlnmjgdmaaWLeast
import Derived.Test.YtjgpjmlnmjgdmaaTWhere
namespace Go.Proofs.Ytjgpjmlnmjgdmaa

/-- Those that are looked at: the place, the count. -/
def lookFrom : Nat → List (Int × Bool) → List (Int × Int)
  | _, [] => []
  | k, p :: r => if p.2 = true then ((k : Int), p.1) :: lookFrom (k + 1) r else lookFrom (k + 1) r
theorem lookFrom_snoc (k : Nat) (zs : List (Int × Bool)) (p : Int × Bool) : lookFrom k (zs ++ [p]) = lookFrom k zs ++ (if p.2 = true then [(((k + zs.length : Nat) : Int), p.1)] else []) := by
  induction zs generalizing k with
  | nil => simp [lookFrom]
  | cons q r ih =>
    simp only [List.cons_append, lookFrom, List.length_cons]
    rw [ih (k + 1), show k + 1 + r.length = k + (r.length + 1) by omega]
    split <;> simp
theorem mem_look (k : Nat) (zs : List (Int × Bool)) (x : Int) : (x, true) ∈ zs ↔ x ∈ (lookFrom k zs).map (·.2) := by
  induction zs generalizing k with
  | nil => simp [lookFrom]
  | cons q r ih =>
    obtain ⟨y, b⟩ := q
    cases b with
    | false => simp only [lookFrom]; rw [if_neg (by decide), List.mem_cons, ih (k + 1)]; simp
    | true => simp only [lookFrom]; rw [if_pos trivial, List.mem_cons, ih (k + 1), List.map_cons, List.mem_cons]; simp
theorem seek_look (n : Int) (k : Nat) (zs : List (Int × Bool)) : seekFrom n k zs = ((lookFrom k zs).find? fun q => q.2 == n).elim (-1) (·.1) := by
  induction zs generalizing k with
  | nil => rfl
  | cons q r ih =>
    obtain ⟨y, b⟩ := q
    cases b with
    | false => simp only [seekFrom, lookFrom]; rw [if_neg (by simp), if_neg (by decide), ih (k + 1)]
    | true =>
      simp only [seekFrom, lookFrom]
      rw [if_pos (c := True) trivial]
      by_cases h : y = n
      · rw [if_pos ⟨trivial, h⟩, List.find?_cons, show (y == n) = true from by simpa using h]; rfl
      · rw [if_neg (fun e => h e.2), ih (k + 1), List.find?_cons, show (y == n) = false from by simpa using h]
theorem count_look (k : Nat) (zs : List (Int × Bool)) (n : Int) : countP' zs n = ((lookFrom k zs).map (·.2)).countP (· == n) := by
  unfold countP'
  induction zs generalizing k with
  | nil => rfl
  | cons q r ih =>
    obtain ⟨y, b⟩ := q
    cases b with
    | false => simp only [lookFrom]; rw [if_neg (by decide), ← ih (k + 1), List.countP_cons]; simp
    | true => simp only [lookFrom]; rw [if_pos trivial, List.map_cons, List.countP_cons, List.countP_cons, ← ih (k + 1)]; simp
def placesP (zs : List (Int × Bool)) : List Int := (lookFrom 0 zs).map (·.1)
def looksP (zs : List (Int × Bool)) : List Int := (lookFrom 0 zs).map (·.2)
theorem looks_len (zs : List (Int × Bool)) : (looksP zs).length = (placesP zs).length := by simp [looksP, placesP]
theorem look_len (k : Nat) (zs : List (Int × Bool)) : (lookFrom k zs).length ≤ zs.length := by
  induction zs generalizing k with
  | nil => simp [lookFrom]
  | cons q r ih =>
    simp only [lookFrom]
    have := ih (k + 1)
    split <;> simp <;> omega
theorem looks_le (zs : List (Int × Bool)) : (looksP zs).length ≤ zs.length := by
  have := look_len 0 zs
  simpa [looksP] using this
theorem mem_looks (zs : List (Int × Bool)) (x : Int) : (x, true) ∈ zs ↔ x ∈ looksP zs := mem_look 0 zs x
theorem looks_nil {zs : List (Int × Bool)} (h : looksP zs = []) : ∀ x, (x, true) ∉ zs := fun x hx => by
  have := (mem_looks zs x).1 hx
  rw [h] at this; cases this
/-- The first of the best, as it was found. -/
theorem find_best {bt : Int → Int → Bool} (hir : ∀ x, bt x x = false) {Q : List (Int × Int)} {r : Int} (h : Best bt (Q.map (·.2)) r) : (Q = [] ∧ r = -1) ∨ ∃ a, ∃ h1 : a < (Q.map (·.2)).length, ∃ h2 : a < (Q.map (·.1)).length, r = (a : Int) ∧ (∀ x ∈ Q.map (·.2), bt x (Q.map (·.2))[a] = false) ∧ (Q.find? fun q => q.2 == (Q.map (·.2))[a]) = some ((Q.map (·.1))[a], (Q.map (·.2))[a]) := by
  rcases h with ⟨h1, h2⟩ | ⟨a, ha, rfl, h1, h2⟩
  · exact .inl ⟨by simpa using h1, h2⟩
  · have hq : a < Q.length := by simpa using ha
    refine .inr ⟨a, ha, by simpa using hq, rfl, fun x hx => ?_, ?_⟩
    · obtain ⟨i, hi, rfl⟩ := List.mem_iff_getElem.1 hx
      exact h1 i hi
    · rw [List.find?_eq_some_iff_getElem]
      refine ⟨by simp, a, hq, by simp, fun j hj => ?_⟩
      have := h2 j hj
      simp only [List.getElem_map] at this ⊢
      cases e : (Q[j].2 == Q[a].2) with
      | false => rfl
      | true =>
        rw [eq_of_beq e, hir] at this
        cases this
theorem low_look {zs : List (Int × Bool)} {r : Int} (h : Best ltInt (looksP zs) r) : (looksP zs = [] ∧ r = -1 ∧ loP zs = 0 ∧ hiP zs = 0 ∧ coldP zs = -1 ∧ hotP zs = -1) ∨ ∃ a, ∃ h1 : a < (looksP zs).length, ∃ h2 : a < (placesP zs).length, r = (a : Int) ∧ (looksP zs)[a] = loP zs ∧ (placesP zs)[a] = coldP zs := by
  rcases find_best ord_ltInt.irr h with ⟨h1, h2⟩ | ⟨a, h1, h2, e, h3, h4⟩
  · have hn : looksP zs = [] := by unfold looksP; rw [h1]; rfl
    have hz := ends_none (looks_nil hn)
    have hs : ∀ n, seekP zs n = -1 := fun n => by unfold seekP; rw [seek_look, h1]; rfl
    exact .inl ⟨hn, h2, hz.1, hz.2, hs _, hs _⟩
  · have hm : (looksP zs)[a]'h1 ∈ looksP zs := List.getElem_mem h1
    have he := ends_some ((mem_looks zs _).2 hm)
    have hlo : (looksP zs)[a]'h1 = loP zs := by
      have i1 := (he.2.2 _ ((mem_looks zs _).2 hm)).1
      have i2 := h3 _ ((mem_looks zs _).1 he.1)
      simp [ltInt] at i2
      have i3 : (looksP zs)[a]'h1 ≤ loP zs := by simpa [looksP] using i2
      omega
    refine .inr ⟨a, h1, h2, e, hlo, ?_⟩
    unfold coldP seekP
    rw [seek_look, ← hlo]
    have : ((lookFrom 0 zs).find? fun q => q.2 == (looksP zs)[a]) = some ((placesP zs)[a]'h2, (looksP zs)[a]'h1) := h4
    rw [this]; rfl
theorem high_look {zs : List (Int × Bool)} {r : Int} (h : Best gtInt (looksP zs) r) : (looksP zs = [] ∧ r = -1 ∧ loP zs = 0 ∧ hiP zs = 0 ∧ coldP zs = -1 ∧ hotP zs = -1) ∨ ∃ a, ∃ h1 : a < (looksP zs).length, ∃ h2 : a < (placesP zs).length, r = (a : Int) ∧ (looksP zs)[a] = hiP zs ∧ (placesP zs)[a] = hotP zs := by
  rcases find_best ord_gtInt.irr h with ⟨h1, h2⟩ | ⟨a, h1, h2, e, h3, h4⟩
  · have hn : looksP zs = [] := by unfold looksP; rw [h1]; rfl
    have hz := ends_none (looks_nil hn)
    have hs : ∀ n, seekP zs n = -1 := fun n => by unfold seekP; rw [seek_look, h1]; rfl
    exact .inl ⟨hn, h2, hz.1, hz.2, hs _, hs _⟩
  · have hm : (looksP zs)[a]'h1 ∈ looksP zs := List.getElem_mem h1
    have he := ends_some ((mem_looks zs _).2 hm)
    have hlo : (looksP zs)[a]'h1 = hiP zs := by
      have i1 := (he.2.2 _ ((mem_looks zs _).2 hm)).2
      have i2 := h3 _ ((mem_looks zs _).1 he.2.1)
      simp [gtInt] at i2
      have i3 : hiP zs ≤ (looksP zs)[a]'h1 := by simpa [looksP] using i2
      omega
    refine .inr ⟨a, h1, h2, e, hlo, ?_⟩
    unfold hotP seekP
    rw [seek_look, ← hlo]
    have : ((lookFrom 0 zs).find? fun q => q.2 == (looksP zs)[a]) = some ((placesP zs)[a]'h2, (looksP zs)[a]'h1) := h4
    rw [this]; rfl
/-- What Where finds of those that both lists have is what is looked at. -/
theorem where_look (l : List Int) (b : List Bool) (bs : List Bool) (hbs : bs = b.take (min l.length b.length)) (j : Nat) (hj : j ≤ bs.length) :
    (whereTo bs j).map (fun x => (x.val : Int)) = (lookFrom 0 ((l.zip b).take j)).map (·.1) ∧ (whereTo bs j).map (fun x => l[x.val]?.getD 0) = (lookFrom 0 ((l.zip b).take j)).map (·.2) := by
  have hlen : bs.length = min l.length b.length := by rw [hbs]; simp
  induction j with
  | zero => simp [whereTo_zero, lookFrom]
  | succ j ih =>
    obtain ⟨i1, i2⟩ := ih (by omega)
    have hjl : j < l.length := by omega
    have hjb : j < b.length := by omega
    have hz : ((l.zip b).take j).length = j := by simp; omega
    have hb : bs[j]?.getD false = b[j] := by
      subst hbs
      rw [List.getElem?_take, if_pos (by omega), List.getElem?_eq_getElem hjb]; rfl
    rw [take_zip hjl hjb, lookFrom_snoc, hz]
    cases e : b[j] with
    | false =>
      rw [e] at hb
      rw [whereTo_miss (by omega) hb, if_neg (by simp), List.append_nil]
      exact ⟨i1, i2⟩
    | true =>
      rw [e] at hb
      rw [whereTo_hit (by omega) hb, if_pos rfl, List.map_append, List.map_append, List.map_append, List.map_append, i1, i2]
      simp [hjl]
theorem where_all (l : List Int) (b : List Bool) (bs : List Bool) (hbs : bs = b.take (min l.length b.length)) :
    (whereTo bs bs.length).map (fun x => (x.val : Int)) = placesP (l.zip b) ∧ (whereTo bs bs.length).map (fun x => l[x.val]?.getD 0) = looksP (l.zip b) := by
  have hlen : bs.length = min l.length b.length := by rw [hbs]; simp
  have := where_look l b bs hbs bs.length (Nat.le_refl _)
  rwa [List.take_of_length_le (by simp; omega)] at this
end Go.Proofs.Ytjgpjmlnmjgdmaa
