/- What is found, block by block; what is picked of it. -/
import Derived.Test.YtnadcdgpfopcaaaMoW
import Derived.Test.YtnadcdgpfopcaaaMoP
namespace Go.Proofs.Ytnadcdgpfopcaaa
open Go.RowKit

/-- Sheets of block b from page i on, as they are found. -/
def fdL (b : Int) : Nat → List Sh → List Fd
  | _, [] => []
  | i, x :: l => ((x.1, x.2.1), (b, (i : Int))) :: fdL b (i + 1) l
theorem fdL_snoc (b : Int) (l : List Sh) (x : Sh) : ∀ i, fdL b i (l ++ [x]) = fdL b i l ++ [((x.1, x.2.1), (b, ((i + l.length : Nat) : Int)))] := by
  induction l with
  | nil => exact fun i => rfl
  | cons y l ih =>
    intro i
    show _ :: fdL b (i + 1) (l ++ [x]) = _ :: _
    rw [ih]
    simp only [List.length_cons]
    rw [show i + 1 + l.length = i + (l.length + 1) by omega]
    rfl
theorem fdL_length (b : Int) (l : List Sh) : ∀ i, (fdL b i l).length = l.length := by
  induction l with
  | nil => exact fun i => rfl
  | cons y l ih => exact fun i => by show (fdL b (i + 1) l).length + 1 = _; rw [ih]; rfl
theorem fdL_get (b : Int) (l : List Sh) : ∀ (i j : Nat) (h : j < l.length), (fdL b i l)[j]? = some ((l[j].1, l[j].2.1), (b, ((i + j : Nat) : Int))) := by
  induction l with
  | nil => exact fun i j h => absurd h (by simp)
  | cons y l ih =>
    intro i j h
    cases j with
    | zero => rfl
    | succ j =>
      show (fdL b (i + 1) l)[j]? = _
      rw [ih (i + 1) j (by simpa using h)]
      rw [show i + 1 + j = i + (j + 1) by omega]
      rfl
theorem fdL_mem {b : Int} {l : List Sh} {i : Nat} {f : Fd} (h : f ∈ fdL b i l) : ∃ j, ∃ hj : j < l.length, f = ((l[j].1, l[j].2.1), (b, ((i + j : Nat) : Int))) := by
  obtain ⟨j, hj, e⟩ := List.getElem_of_mem h
  rw [fdL_length] at hj
  refine ⟨j, hj, ?_⟩
  have := fdL_get b l i j hj
  rw [List.getElem?_eq_getElem (by rw [fdL_length]; exact hj), e] at this
  exact Option.some.inj this
theorem range_blocks (B P : Nat) (F : Nat → List Sh) (hle : ∀ b, (F b).length ≤ P) : (List.range (B * P)).flatMap (fdQ F P) = (List.range B).flatMap fun (b : Nat) => fdL (b : Int) 0 (F b) := by
  have one : ∀ (b m : Nat), m ≤ P → (List.range' (b * P) m).flatMap (fdQ F P) = fdL (b : Int) 0 ((F b).take m) := by
    intro b m
    induction m with
    | zero => exact fun _ => by simp [fdL]
    | succ m ih =>
      intro hm
      rw [List.range'_1_concat, List.flatMap_append, ih (by omega), List.flatMap_singleton]
      have e1 : (b * P + m) / P = b := Nat.div_eq_of_lt_le (by omega) (by rw [Nat.add_mul]; omega)
      have e2 : (b * P + m) % P = m := by rw [Nat.mul_comm, Nat.mul_add_mod, Nat.mod_eq_of_lt (by omega)]
      unfold fdQ
      rw [e1, e2, List.take_add_one]
      cases hx : (F b)[m]? with
      | none => simp
      | some x =>
        simp only [Option.toList_some]
        rw [fdL_snoc, List.length_take, Nat.zero_add]
        obtain ⟨hl, -⟩ := List.getElem?_eq_some_iff.1 hx
        rw [show min m (F b).length = m by omega]
  induction B with
  | zero => simp
  | succ B ih =>
    have e : List.range ((B + 1) * P) = List.range (B * P) ++ List.range' (B * P) P := by
      rw [List.range_eq_range', List.range_eq_range']
      have := @List.range'_append_1 0 (B * P) P
      rw [Nat.zero_add] at this
      rw [this, Nat.add_mul, Nat.one_mul]
    rw [e, List.flatMap_append, ih, one B P (Nat.le_refl _), List.range_succ, List.flatMap_append, List.flatMap_singleton, List.take_of_length_le (hle B)]

/-- One put behind the other. -/
def putsT (T : List Fd) (l : List Fd) : List Fd := l.foldl (fun T f => putT T f.1 f.2) T
theorem back_map (fd : List Fd) : (backL fd).map (fun x => fd[x.val]) = fd.reverse := by
  unfold backL
  rw [List.map_reverse]
  congr 1
  apply List.ext_getElem
  · simp
  · intro i h1 h2
    simp
/-- The table of block b: those of its own that are asked for, from behind. -/
theorem tabs_block (L : List P2) (fd : List Fd) (b : Nat) : tabsF L fd b = putsT [] (fd.reverse.filter fun f => decide (pmF L f.1.1 = some f.1.2) && decide (f.2.1.toNat = b)) := by
  have key : ∀ (l : List Fd) (Ts : Nat → List Fd), l.foldl (tabStep L) Ts b = putsT (Ts b) (l.filter fun f => decide (pmF L f.1.1 = some f.1.2) && decide (f.2.1.toNat = b)) := by
    intro l
    induction l with
    | nil => exact fun Ts => rfl
    | cons f l ih =>
      intro Ts
      rw [List.foldl_cons, ih]
      by_cases h1 : pmF L f.1.1 = some f.1.2
      · by_cases h2 : f.2.1.toNat = b
        · rw [List.filter_cons_of_pos (by simp [h1, h2])]
          have : tabStep L Ts f b = putT (Ts b) f.1 f.2 := by unfold tabStep updT; rw [if_pos h1, if_pos h2.symm, h2]
          rw [this]
          rfl
        · rw [List.filter_cons_of_neg (by simp [h2])]
          have : tabStep L Ts f b = Ts b := by unfold tabStep updT; rw [if_pos h1, if_neg fun e => h2 e.symm]
          rw [this]
      · rw [List.filter_cons_of_neg (by simp [h1])]
        have : tabStep L Ts f b = Ts b := by unfold tabStep; rw [if_neg h1]
        rw [this]
  unfold tabsF tabsTo
  rw [← key fd.reverse (fun _ => []), ← back_map fd, List.foldl_map]
/-- Spots that are apart, and may be. -/
def Apart (l : List Fd) : Prop := (l.map (·.2)).Nodup ∧ ∀ f ∈ l, 0 ≤ f.2.1 ∧ 0 ≤ f.2.2
theorem canT_apart {T : List Fd} {f : Fd} (h0 : 0 ≤ f.2.1 ∧ 0 ≤ f.2.2) (h : ∀ g ∈ T, g.2 ≠ f.2) : canT T f.1 f.2 = true := by
  unfold canT
  simp only [Bool.and_eq_true, decide_eq_true_eq, List.all_eq_true, Bool.or_eq_true]
  refine ⟨⟨h0.1, h0.2⟩, fun g hg => .inl ?_⟩
  have := h g hg
  simpa [bne] using this
theorem puts_snoc (T l : List Fd) (f : Fd) : putsT T (l ++ [f]) = putT (putsT T l) f.1 f.2 := by simp [putsT]
/-- Each that was put is named; whatever stands there was put. -/
theorem puts_has {l : List Fd} (h : Apart l) : (∀ f ∈ putsT [] l, f ∈ l) ∧ ∀ f ∈ l, hasR (putsT [] l) f.1 = true := by
  obtain ⟨m, hm⟩ : ∃ m, m = l.length := ⟨_, rfl⟩
  induction m generalizing l with
  | zero =>
    obtain rfl := List.eq_nil_of_length_eq_zero hm.symm
    exact ⟨fun f hf => hf, fun f hf => absurd hf (by simp)⟩
  | succ m ih =>
    rcases List.eq_nil_or_concat l with rfl | ⟨l', f, rfl⟩
    · simp at hm
    · rw [List.concat_eq_append] at *
      obtain ⟨hn, h0⟩ := h
      rw [List.map_append, List.nodup_append] at hn
      obtain ⟨n1, -, n3⟩ := hn
      obtain ⟨i1, i2⟩ := ih (l := l') ⟨n1, fun g hg => h0 g (List.mem_append_left _ hg)⟩ (by simp at hm; exact hm)
      rw [puts_snoc]
      generalize putsT [] l' = T at i1 i2
      have hc : canT T f.1 f.2 = true := canT_apart (h0 f (by simp)) fun g hg e => n3 _ (List.mem_map_of_mem (i1 g hg)) f.2 (by simp) (by exact e)
      unfold putT
      rw [if_pos hc]
      by_cases hh : hasR T f.1 = true
      · rw [if_pos hh]
        constructor
        · intro g hg
          obtain ⟨k, hk, rfl⟩ := List.mem_map.1 hg
          by_cases e : k.1 = f.1
          · rw [if_pos e]
            exact List.mem_append_right _ (by simp)
          · rw [if_neg e]
            exact List.mem_append_left _ (i1 k hk)
        · intro g hg
          unfold hasR
          rw [List.any_map]
          have hg' : hasR T g.1 = true := by
            rcases List.mem_append.1 hg with hg | hg
            · exact i2 g hg
            · rw [List.mem_singleton.1 hg]; exact hh
          unfold hasR at hg'
          obtain ⟨k, hk, e⟩ := List.any_eq_true.1 hg'
          refine List.any_eq_true.2 ⟨k, hk, ?_⟩
          simp only [Function.comp]
          split
          · rename_i e2; rw [e2] at e; simpa using e
          · exact e
      · rw [if_neg hh]
        constructor
        · intro g hg
          rcases List.mem_append.1 hg with hg | hg
          · exact List.mem_append_left _ (i1 g hg)
          · rw [List.mem_singleton.1 hg]
            exact List.mem_append_right _ (by simp)
        · intro g hg
          unfold hasR
          rw [List.any_append]
          rcases List.mem_append.1 hg with hg | hg
          · have := i2 g hg
            unfold hasR at this
            rw [this]; rfl
          · rw [List.mem_singleton.1 hg]
            simp
/-- With refs of their own, they stand as they were put. -/
theorem puts_same {l : List Fd} (h : Apart l) (hr : (l.map (·.1)).Nodup) : putsT [] l = l := by
  obtain ⟨m, hm⟩ : ∃ m, m = l.length := ⟨_, rfl⟩
  induction m generalizing l with
  | zero =>
    obtain rfl := List.eq_nil_of_length_eq_zero hm.symm
    rfl
  | succ m ih =>
    rcases List.eq_nil_or_concat l with rfl | ⟨l', f, rfl⟩
    · simp at hm
    · rw [List.concat_eq_append] at *
      obtain ⟨hn, h0⟩ := h
      rw [List.map_append, List.nodup_append] at hn hr
      obtain ⟨n1, -, n3⟩ := hn
      obtain ⟨r1, -, r3⟩ := hr
      rw [puts_snoc, ih (l := l') ⟨n1, fun g hg => h0 g (List.mem_append_left _ hg)⟩ r1 (by simp at hm; exact hm)]
      have hc : canT l' f.1 f.2 = true := canT_apart (h0 f (by simp)) fun g hg e => n3 _ (List.mem_map_of_mem hg) f.2 (by simp) (by exact e)
      unfold putT
      rw [if_pos hc, if_neg]
      intro hh
      unfold hasR at hh
      obtain ⟨k, hk, e⟩ := List.any_eq_true.1 hh
      exact r3 _ (List.mem_map_of_mem hk) f.1 (by simp) (by simpa using e)
theorem at_some {T : List Fd} {r : P2} (h : hasR T r = true) : ∃ f ∈ T, f.1 = r ∧ atT T r = some f.2 := by
  unfold hasR at h
  unfold atT
  cases e : T.find? fun f => f.1 == r with
  | none =>
    rw [List.find?_eq_none] at e
    obtain ⟨k, hk, e2⟩ := List.any_eq_true.1 h
    exact absurd e2 (e k hk)
  | some f => exact ⟨f, List.mem_of_find?_eq_some e, by simpa using List.find?_some e, rfl⟩
theorem at_noneX {T : List Fd} {r : P2} (h : ∀ f ∈ T, f.1 ≠ r) : atT T r = none := by
  unfold atT
  rw [List.find?_eq_none.2 fun f hf => by simpa using h f hf]
  rfl
theorem nodup_rev {α : Type} {l : List α} (h : l.Nodup) : l.reverse.Nodup := List.pairwise_reverse.2 (List.Pairwise.imp (fun h => h.symm) h)
theorem apart_rev {l : List Fd} (h : Apart l) (p : Fd → Bool) : Apart (l.reverse.filter p) := by
  refine ⟨?_, fun f hf => h.2 f (by simpa using (List.mem_filter.1 hf).1)⟩
  have h1 : (l.reverse.map (·.2)).Nodup := by rw [List.map_reverse]; exact nodup_rev h.1
  exact h1.sublist (List.filter_sublist.map _)
theorem fdL_apart (b : Int) (hb : 0 ≤ b) (i : Nat) (l : List Sh) : Apart (fdL b i l) := by
  constructor
  · have : ∀ (l : List Sh) (i : Nat), ((fdL b i l).map (·.2)).Nodup ∧ ∀ s ∈ (fdL b i l).map (·.2), (i : Int) ≤ s.2 := by
      intro l
      induction l with
      | nil => exact fun i => ⟨List.nodup_nil, fun s hs => absurd hs (by simp [fdL])⟩
      | cons x l ih =>
        intro i
        obtain ⟨h1, h2⟩ := ih (i + 1)
        show ((b, (i : Int)) :: (fdL b (i + 1) l).map (·.2)).Nodup ∧ ∀ s ∈ (b, (i : Int)) :: (fdL b (i + 1) l).map (·.2), _
        refine ⟨List.nodup_cons.2 ⟨fun hm => ?_, h1⟩, fun s hs => ?_⟩
        · have := h2 _ hm; simp at this; omega
        · rcases List.mem_cons.1 hs with rfl | hs
          · exact Int.le_refl _
          · have := h2 s hs; omega
    exact (this l i).1
  · intro f hf
    obtain ⟨j, hj, rfl⟩ := fdL_mem hf
    exact ⟨hb, by show (0 : Int) ≤ ((i + j : Nat) : Int); omega⟩
end Go.Proofs.Ytnadcdgpfopcaaa
