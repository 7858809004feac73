/- Entries of a directory as a list: in the order of their names; where one stands, put in, taken out. -/
import Derived.Test.YtohiabkjbieflaaPaB
import Derived.Lib.Bytealg
namespace Go.Proofs.Ytohiabkjbieflaa
open Go.Lib

abbrev Ent := ByteArray × Int
def ltB (a b : ByteArray) : Bool := decide (a.data.toList < b.data.toList)
theorem byte_ext' {a b : ByteArray} (h : a.data.toList = b.data.toList) : a = b := by
  obtain ⟨⟨la⟩⟩ := a
  obtain ⟨⟨lb⟩⟩ := b
  simp at h
  rw [h]
theorem bytes_lt (x y : List UInt8) : Op.bytesLess x y = decide (x < y) := by
  induction x generalizing y with
  | nil => cases y <;> simp [Op.bytesLess]
  | cons a x ih =>
    cases y with
    | nil => simp [Op.bytesLess]
    | cons b y =>
      rw [Op.bytesLess, ih y, Bool.eq_iff_iff]
      simp [List.cons_lt_cons_iff]
theorem less_ltB (a b : ByteArray) : Op.bytesLess a.toList b.toList = ltB a b := by
  rw [Lib.toList_data, Lib.toList_data, bytes_lt]; rfl
theorem eq_eqB (a b : ByteArray) : (a.toList == b.toList) = decide (a = b) := by
  rw [Lib.toList_data, Lib.toList_data, Bool.eq_iff_iff, beq_iff_eq, decide_eq_true_eq]
  exact ⟨byte_ext', fun e => by rw [e]⟩
theorem ltB_irr (a : ByteArray) : ltB a a = false := by simp [ltB, List.lt_irrefl]
theorem ltB_tr {a b c : ByteArray} (h : ltB a b = true) (k : ltB b c = true) : ltB a c = true := by
  simp only [ltB, decide_eq_true_eq] at *
  exact List.lt_trans h k
theorem ltB_tot {a b : ByteArray} (h : ltB a b = false) (hne : a ≠ b) : ltB b a = true := by
  simp only [ltB, decide_eq_true_eq, decide_eq_false_iff_not, List.not_lt] at *
  rcases Decidable.em (b.data.toList < a.data.toList) with h1 | h1
  · exact h1
  · exact absurd (byte_ext' (List.le_antisymm (List.not_lt.1 h1) h)) hne
theorem ltB_asy {a b : ByteArray} (h : ltB a b = true) : ltB b a = false := by
  cases e : ltB b a with
  | false => rfl
  | true => have := ltB_tr h e; rw [ltB_irr] at this; cases this
theorem ltB_ne {a b : ByteArray} (h : ltB a b = true) : a ≠ b := fun e => by subst e; rw [ltB_irr] at h; cases h
theorem ltB_le_tr {a b c : ByteArray} (h : ltB b a = false) (k : ltB b c = true) : ltB a c = true := by
  by_cases e : a = b
  · rw [e]; exact k
  · exact ltB_tr (ltB_tot h (Ne.symm e)) k

theorem cmp_cases : ∀ a b : List UInt8, compareBytes a b = (if a < b then -1 else if b < a then 1 else 0)
  | [], [] => rfl
  | [], _ :: _ => by simp [compareBytes]
  | _ :: _, [] => by simp [compareBytes]
  | x :: a, y :: b => by
    rw [compareBytes, cmp_cases a b]
    by_cases h1 : x < y
    · have e : x :: a < y :: b := List.cons_lt_cons_iff.2 (.inl h1)
      rw [if_pos h1, if_pos e]
    · by_cases h2 : y < x
      · have hne : x ≠ y := fun e => by subst e; exact h1 h2
        simp [List.cons_lt_cons_iff, h1, h2, hne]
      · have e : x = y := UInt8.le_antisymm (UInt8.not_lt.1 h2) (UInt8.not_lt.1 h1)
        subst e
        simp [h1]
/-- What Compare says of two texts. -/
def cmpB (a b : ByteArray) : Int := compareBytes a.data.toList b.data.toList
theorem cmpB_lt (a b : ByteArray) : decide (cmpB a b < 0) = ltB a b := by
  unfold cmpB ltB
  rw [cmp_cases]
  by_cases h : a.data.toList < b.data.toList
  · simp [h]
  · rw [if_neg h, decide_eq_false h]
    split <;> rfl
theorem cmpB_eq (a b : ByteArray) : (cmpB a b == 0) = decide (a = b) := by
  unfold cmpB
  rw [cmp_cases, Bool.eq_iff_iff, beq_iff_eq, decide_eq_true_eq]
  constructor
  · intro h
    by_cases h1 : a.data.toList < b.data.toList
    · rw [if_pos h1] at h; cases h
    · rw [if_neg h1] at h
      by_cases h2 : b.data.toList < a.data.toList
      · rw [if_pos h2] at h; cases h
      · exact byte_ext' (List.le_antisymm (List.not_lt.1 h2) (List.not_lt.1 h1))
  · rintro rfl
    simp [List.lt_irrefl]

def mayE (e : Ent) : Bool := mayL e.1.data.toList && decide (1 ≤ e.2) && decide (e.2 ≤ 11)
/-- Each ahead of the next. -/
def ris : List Ent → Bool
  | [] => true
  | [_] => true
  | a :: b :: l => ltB a.1 b.1 && ris (b :: l)
def mayEs (l : List Ent) : Bool := decide (l.length ≤ 10) && l.all mayE && ris l
abbrev Ri (l : List Ent) : Prop := l.Pairwise fun a b => ltB a.1 b.1 = true
theorem ris_of : ∀ {l : List Ent}, (∀ i (h : i + 1 < l.length), ltB l[i].1 l[i + 1].1 = true) → ris l = true
  | [], _ => rfl
  | [_], _ => rfl
  | a :: b :: l, h => by
    have h0 : ltB a.1 b.1 = true := h 0 (by simp)
    rw [ris, h0, Bool.true_and]
    exact ris_of fun i hi => h (i + 1) (by simpa using hi)
theorem ris_at : ∀ {l : List Ent} (i : Nat) (h : i + 1 < l.length), ltB l[i].1 l[i + 1].1 = false → ris l = false
  | [], _, h, _ => by simp at h
  | [_], _, h, _ => by simp at h
  | a :: b :: l, 0, _, e => by rw [ris, show ltB a.1 b.1 = false from e]; rfl
  | a :: b :: l, i + 1, h, e => by rw [ris, ris_at (l := b :: l) i (by simpa using h) e, Bool.and_false]
theorem ris_ri : ∀ {l : List Ent}, ris l = true → Ri l
  | [], _ => List.Pairwise.nil
  | [_], _ => List.pairwise_singleton _ _
  | a :: b :: l, h => by
    rw [ris, Bool.and_eq_true] at h
    have ih := ris_ri h.2
    refine List.pairwise_cons.2 ⟨fun x hx => ?_, ih⟩
    rcases List.mem_cons.1 hx with rfl | hx
    · exact h.1
    · exact ltB_tr h.1 ((List.pairwise_cons.1 ih).1 x hx)
theorem ri_ris : ∀ {l : List Ent}, Ri l → ris l = true
  | [], _ => rfl
  | [_], _ => rfl
  | a :: b :: l, h => by
    obtain ⟨h1, h2⟩ := List.pairwise_cons.1 h
    rw [ris, h1 b (List.mem_cons_self ..), ri_ris h2]
    rfl
theorem mayEs_iff {l : List Ent} : mayEs l = true ↔ l.length ≤ 10 ∧ (∀ e ∈ l, mayE e = true) ∧ Ri l := by
  unfold mayEs
  rw [Bool.and_eq_true, Bool.and_eq_true, decide_eq_true_eq, List.all_eq_true]
  exact ⟨fun ⟨⟨h1, h2⟩, h3⟩ => ⟨h1, h2, ris_ri h3⟩, fun ⟨h1, h2, h3⟩ => ⟨⟨h1, h2⟩, ri_ris h3⟩⟩

def posE (l : List Ent) (s : ByteArray) : Nat := l.countP fun e => ltB e.1 s
def hasE (l : List Ent) (s : ByteArray) : Bool := l.any fun e => decide (e.1 = s)
/-- The node of the first entry of a name. -/
def findE : List Ent → ByteArray → Int
  | [], _ => -1
  | e :: l, s => if e.1 = s then e.2 else findE l s
def putE (l : List Ent) (e : Ent) : List Ent := l.take (posE l e.1) ++ e :: l.drop (posE l e.1)
def cutE (l : List Ent) (s : ByteArray) : List Ent := l.take (posE l s) ++ l.drop (posE l s + 1)

theorem posE_le (l : List Ent) (s : ByteArray) : posE l s ≤ l.length := List.countP_le_length
theorem posE_cons (a : Ent) (l : List Ent) (s : ByteArray) : posE (a :: l) s = posE l s + if ltB a.1 s = true then 1 else 0 := by
  unfold posE
  rw [List.countP_cons]
theorem posE_zero {l : List Ent} {s : ByteArray} (h : ∀ e ∈ l, ltB e.1 s = false) : posE l s = 0 := by
  unfold posE
  rw [List.countP_eq_zero]
  intro e he
  simp [h e he]
theorem below_pos : ∀ {l : List Ent}, Ri l → ∀ (s : ByteArray) (i : Nat) (h : i < l.length), i < posE l s → ltB l[i].1 s = true
  | [], _, _, _, h, _ => by simp at h
  | a :: l, hr, s, i, h, hp => by
    obtain ⟨h1, h2⟩ := List.pairwise_cons.1 hr
    by_cases ha : ltB a.1 s = true
    · rw [posE_cons, if_pos ha] at hp
      cases i with
      | zero => exact ha
      | succ i => exact below_pos h2 s i (by simpa using h) (by omega)
    · exfalso
      have hz : posE l s = 0 := posE_zero fun e he => by
        cases x : ltB e.1 s with
        | false => rfl
        | true => exact absurd (ltB_tr (h1 e he) x) ha
      rw [posE_cons, if_neg ha, hz] at hp
      omega
theorem above_pos : ∀ {l : List Ent}, Ri l → ∀ (s : ByteArray) (i : Nat) (h : i < l.length), posE l s ≤ i → ltB l[i].1 s = false
  | [], _, _, _, h, _ => by simp at h
  | a :: l, hr, s, i, h, hp => by
    obtain ⟨h1, h2⟩ := List.pairwise_cons.1 hr
    cases ha : ltB a.1 s with
    | true =>
      rw [posE_cons, if_pos ha] at hp
      cases i with
      | zero => omega
      | succ i => exact above_pos h2 s i (by simpa using h) (by omega)
    | false =>
      cases i with
      | zero => exact ha
      | succ i =>
        cases x : ltB ((a :: l)[i + 1]).1 s with
        | false => rfl
        | true =>
          have := ltB_tr (h1 ((a :: l)[i + 1]) (by simp)) x
          rw [ha] at this; cases this
theorem hasE_pos {l : List Ent} (hr : Ri l) (s : ByteArray) : hasE l s = true ↔ ∃ h : posE l s < l.length, l[posE l s].1 = s := by
  unfold hasE
  rw [List.any_eq_true]
  constructor
  · rintro ⟨e, he, hs⟩
    obtain ⟨i, hi, rfl⟩ := List.getElem_of_mem he
    have hs' : l[i].1 = s := by simpa using hs
    rcases Nat.lt_trichotomy i (posE l s) with h1 | h1 | h1
    · have := below_pos hr s i hi h1
      rw [hs', ltB_irr] at this; cases this
    · subst h1; exact ⟨hi, hs'⟩
    · have h2 : posE l s < l.length := by omega
      have h3 := List.pairwise_iff_getElem.1 hr (posE l s) i h2 hi h1
      rw [hs'] at h3
      rw [above_pos hr s _ h2 (Nat.le_refl _)] at h3; cases h3
  · rintro ⟨h, e⟩
    exact ⟨_, List.getElem_mem h, by simp [e]⟩
theorem has_of_find {l : List Ent} (s : ByteArray) (hn : ∀ e ∈ l, 0 ≤ e.2) : decide (0 ≤ findE l s) = hasE l s := by
  induction l with
  | nil => rfl
  | cons a l ih =>
    have ih := ih fun e he => hn e (List.mem_cons_of_mem _ he)
    unfold hasE at ih ⊢
    rw [findE, List.any_cons]
    by_cases h : a.1 = s
    · rw [if_pos h, decide_eq_true (hn a (List.mem_cons_self ..))]
      simp [h]
    · rw [if_neg h, ih]
      simp [h]
theorem find_none {l : List Ent} {s : ByteArray} (h : hasE l s = false) : findE l s = -1 := by
  induction l with
  | nil => rfl
  | cons a l ih =>
    unfold hasE at ih h
    rw [List.any_cons, Bool.or_eq_false_iff] at h
    rw [findE, if_neg (by simpa using h.1), ih h.2]
theorem find_some {l : List Ent} {s : ByteArray} (h : hasE l s = true) : ∃ e ∈ l, e.1 = s ∧ findE l s = e.2 := by
  induction l with
  | nil => cases h
  | cons a l ih =>
    unfold hasE at ih h
    by_cases e : a.1 = s
    · exact ⟨a, List.mem_cons_self .., e, by rw [findE, if_pos e]⟩
    · rw [List.any_cons, Bool.or_eq_true] at h
      rcases h with h | h
      · exact absurd (by simpa using h) e
      · obtain ⟨x, hx, h1, h2⟩ := ih h
        exact ⟨x, List.mem_cons_of_mem _ hx, h1, by rw [findE, if_neg e]; exact h2⟩
theorem ri_inj {l : List Ent} (hr : Ri l) {x y : Ent} (hx : x ∈ l) (hy : y ∈ l) (e : x.1 = y.1) : x = y := by
  obtain ⟨i, hi, rfl⟩ := List.getElem_of_mem hx
  obtain ⟨j, hj, rfl⟩ := List.getElem_of_mem hy
  rcases Nat.lt_trichotomy i j with h | h | h
  · exact absurd e (ltB_ne (List.pairwise_iff_getElem.1 hr i j hi hj h))
  · subst h; rfl
  · exact absurd e.symm (ltB_ne (List.pairwise_iff_getElem.1 hr j i hj hi h))
theorem find_mem {l : List Ent} (hr : Ri l) {x : Ent} (hx : x ∈ l) : findE l x.1 = x.2 := by
  obtain ⟨e, he, h1, h2⟩ := find_some (l := l) (s := x.1) (List.any_eq_true.2 ⟨x, hx, by simp⟩)
  rw [h2, ri_inj hr he hx h1]
theorem putE_perm (l : List Ent) (e : Ent) : (putE l e).Perm (e :: l) := by
  unfold putE
  refine List.perm_middle.trans ?_
  rw [List.take_append_drop]
theorem putE_mem {l : List Ent} {e x : Ent} : x ∈ putE l e ↔ x = e ∨ x ∈ l := by
  rw [(putE_perm l e).mem_iff, List.mem_cons]
theorem putE_len (l : List Ent) (e : Ent) : (putE l e).length = l.length + 1 := by rw [(putE_perm l e).length_eq]; rfl
theorem putE_ri {l : List Ent} (hr : Ri l) {e : Ent} (hn : hasE l e.1 = false) : Ri (putE l e) := by
  have hne : ∀ x ∈ l, x.1 ≠ e.1 := fun x hx h => by
    have : hasE l e.1 = true := List.any_eq_true.2 ⟨x, hx, by simp [h]⟩
    rw [hn] at this; cases this
  have hlo : ∀ x ∈ l.take (posE l e.1), ltB x.1 e.1 = true := fun x hx => by
    obtain ⟨i, hi, rfl⟩ := List.getElem_of_mem hx
    rw [List.length_take] at hi
    rw [List.getElem_take]
    exact below_pos hr e.1 i (by omega) (by omega)
  have hhi : ∀ x ∈ l.drop (posE l e.1), ltB e.1 x.1 = true := fun x hx => by
    have hx' := List.mem_of_mem_drop hx
    obtain ⟨i, hi, rfl⟩ := List.getElem_of_mem hx
    rw [List.length_drop] at hi
    rw [List.getElem_drop] at hx' ⊢
    exact ltB_tot (above_pos hr e.1 _ (by omega) (by omega)) (hne _ hx')
  unfold putE
  refine List.pairwise_append.2 ⟨hr.sublist (List.take_sublist ..), List.pairwise_cons.2 ⟨hhi, hr.sublist (List.drop_sublist ..)⟩, fun a ha b hb => ?_⟩
  rcases List.mem_cons.1 hb with rfl | hb
  · exact hlo a ha
  · exact ltB_tr (hlo a ha) (hhi b hb)
theorem putE_may {l : List Ent} (h : mayEs l = true) {e : Ent} (he : mayE e = true) (hn : hasE l e.1 = false) (hl : l.length ≠ 10) : mayEs (putE l e) = true := by
  obtain ⟨h1, h2, h3⟩ := mayEs_iff.1 h
  refine mayEs_iff.2 ⟨by rw [putE_len]; omega, fun x hx => ?_, putE_ri h3 hn⟩
  rcases putE_mem.1 hx with rfl | hx
  · exact he
  · exact h2 x hx
theorem put_pos (l : List Ent) (e : Ent) : posE (putE l e) e.1 = posE l e.1 := by
  have hp := putE_perm l e
  unfold posE
  rw [hp.countP_eq, List.countP_cons, ltB_irr]
  rfl
theorem cut_put (l : List Ent) (e : Ent) : cutE (putE l e) e.1 = l := by
  have hl := posE_le l e.1
  unfold cutE
  rw [put_pos l e]
  unfold putE
  have e1 : (l.take (posE l e.1)).length = posE l e.1 := by rw [List.length_take]; omega
  rw [List.take_append_of_le_length (by omega), List.take_of_length_le (by omega), List.drop_append, e1, List.drop_of_length_le (by omega), Nat.add_sub_cancel_left]
  simp
theorem filter_cut : ∀ {l : List Ent}, Ri l → ∀ (s : ByteArray), hasE l s = true → l.filter (fun e => !decide (e.1 = s)) = cutE l s
  | [], _, _, h => by cases h
  | a :: l, hr, s, h => by
    obtain ⟨h1, h2⟩ := List.pairwise_cons.1 hr
    have hle := posE_le l s
    by_cases ha : a.1 = s
    · have hz : posE l s = 0 := posE_zero fun e he => by rw [← ha]; exact ltB_asy (h1 e he)
      have hall : l.filter (fun e => !decide (e.1 = s)) = l := List.filter_eq_self.2 fun e he => by
        have := ltB_ne (h1 e he)
        rw [ha] at this
        simpa using Ne.symm this
      rw [List.filter_cons_of_neg (by simp [ha]), hall]
      unfold cutE
      rw [posE_cons, hz, ha, ltB_irr]
      rfl
    · have hh : hasE l s = true := by
        unfold hasE at h ⊢
        rw [List.any_cons, Bool.or_eq_true] at h
        rcases h with h | h
        · exact absurd (by simpa using h) ha
        · exact h
      have hlt : ltB a.1 s = true := by
        obtain ⟨x, hx, hs⟩ := List.any_eq_true.1 hh
        have hs' : x.1 = s := by simpa using hs
        rw [← hs']; exact h1 x hx
      rw [List.filter_cons_of_pos (by simpa using ha), filter_cut h2 s hh]
      unfold cutE
      rw [posE_cons, if_pos hlt]
      simp
theorem ri_one : ∀ {L M : List Ent}, Ri L → Ri M → L.Perm M → L = M
  | [], M, _, _, hp => by rw [List.nil_perm.1 hp]
  | a :: L, [], _, _, hp => by cases List.perm_nil.1 hp
  | a :: L, b :: M, hL, hM, hp => by
    obtain ⟨a1, a2⟩ := List.pairwise_cons.1 hL
    obtain ⟨b1, b2⟩ := List.pairwise_cons.1 hM
    have e : a = b := by
      rcases List.mem_cons.1 (hp.mem_iff.1 (List.mem_cons_self ..)) with e | h1
      · exact e
      · rcases List.mem_cons.1 (hp.mem_iff.2 (List.mem_cons_self ..)) with e | h2
        · exact e.symm
        · have x := ltB_tr (b1 a h1) (a1 b h2)
          rw [ltB_irr] at x; cases x
    subst e
    rw [ri_one a2 b2 (List.Perm.cons_inv hp)]
end Go.Proofs.Ytohiabkjbieflaa
