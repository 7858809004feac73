/- A region that draws its order, by what each of its operations yields: each operation is looked at once, whatever order is drawn; of no program, no conditions. -/
import Derived.WalkKit
import Derived.RegionTactic
import Derived.Orders
namespace Go.Proofs.Ytfnhmnfhkhjojaa

section
variable {P : Program} {ops : Array Oper} {Q : Exit → Act → World → Prop}

/-- How many have not come up yet. -/
def toCome (listed : Array Bool) : Nat := listed.toList.countP (fun b => !b)
theorem toCome_set {listed : Array Bool} {i : Nat} (h : listed.getD i true = false) : toCome (listed.setIfInBounds i true) + 1 ≤ toCome listed := by
  have hi : i < listed.size := by
    rcases Nat.lt_or_ge i listed.size with h' | h'
    · exact h'
    · simp [Array.getD, Nat.not_lt.2 h'] at h
  have he : listed.toList[i]'(by simpa using hi) = false := by simpa [Array.getD, hi] using h
  unfold toCome
  rw [Array.toList_setIfInBounds, List.countP_set (by simpa using hi), he]
  have : 0 < listed.toList.countP (fun b => !b) := List.countP_pos_iff.2 ⟨_, List.getElem_mem (by simpa using hi), by rw [he]; rfl⟩
  rw [if_pos (show (!false) = true from rfl), if_neg (show ¬ (!true) = true by decide)]
  omega
theorem toCome_none {listed : Array Bool} (h : toCome listed = 0) (i : Nat) : listed.getD i true = true := by
  unfold toCome at h
  rcases Nat.lt_or_ge i listed.size with h' | h'
  · have := List.countP_eq_zero.1 h (listed[i]) (by simp)
    simpa [Array.getD, h'] using this
  · simp [Array.getD, Nat.not_lt.2 h']
/-- Whatever order is drawn, a word of the state that each operation hands on is handed on to the end. -/
theorem wpAny_inv {md : Region.Mode} (I : Array Bool → Act → World → Prop)
    (hstep : ∀ i listed a w, listed.size = ops.size → I listed a w → i ∈ Region.ready md ops listed → wpOp P ops Q i (fun a' w' => I (listed.setIfInBounds i true) a' w') a w)
    (hend : ∀ listed a w, listed.size = ops.size → I listed a w → Region.ready md ops listed = [] → Q .normal a w) :
    ∀ (fuel : Nat) (listed : Array Bool) (a : Act) (w : World), listed.size = ops.size → toCome listed ≤ fuel → I listed a w → wpAny P md ops Q fuel listed a w := by
  intro fuel
  induction fuel with
  | zero =>
    intro listed a w hs hc hI
    have hr : Region.ready md ops listed = [] := by
      rw [List.eq_nil_iff_forall_not_mem]
      intro i hi
      have h1 := (mem_ready.1 hi).1
      rw [toCome_none (by omega) i] at h1
      cases h1
    exact ⟨hr, hend _ _ _ hs hI hr⟩
  | succ fuel ih =>
    intro listed a w hs hc hI
    refine ⟨hend _ _ _ hs hI, fun i hi => ?_⟩
    refine wpOp_mono (fun a' w' h' => ih _ a' w' (by simpa using hs) ?_ h') (hstep i listed a w hs hI hi)
    have := toCome_set (mem_ready.1 hi).1
    omega

/-- Each operation waits for earlier ones alone. -/
def forwards (ops : Array Oper) : Bool := (List.range ops.size).all fun i => ((ops[i]?).map fun o => o.after.all fun e => decide (e.on < i)).getD true
theorem all_listed {md : Region.Mode} (hf : forwards ops = true) {listed : Array Bool} (hs : listed.size = ops.size) (hr : Region.ready md ops listed = []) : ∀ i, i < ops.size → listed.getD i false = true := by
  intro i
  induction i using Nat.strongRecOn with
  | ind i ih =>
    intro hi
    have ho : ops[i]? = some ops[i] := Array.getElem?_eq_getElem hi
    have hfi := (List.all_eq_true.1 hf) i (List.mem_range.2 hi)
    rw [ho] at hfi
    simp only [Option.map_some, Option.getD_some, Array.all_eq_true_iff_forall_mem, decide_eq_true_eq] at hfi
    cases hg : listed.getD i true with
    | true =>
      have : i < listed.size := by omega
      simpa [Array.getD, this] using hg
    | false =>
      have hm : i ∈ Region.ready md ops listed := mem_ready.2 ⟨hg, _, ho, fun e he _ => ih e.on (hfi e he) (by have := hfi e he; omega)⟩
      rw [hr] at hm
      cases hm

/-- No two operations write one slot, and each slot is there. -/
def slotsOk (ops : Array Oper) (n : Nat) : Bool :=
  (List.range ops.size).all fun i => ((ops[i]?).bind (·.dst)).all fun t => decide (t < n) && (List.range ops.size).all fun j => decide (i = j) || ((ops[j]?).bind (·.dst)) != some t
theorem slotsOk_lt {n : Nat} (h : slotsOk ops n = true) {i : Nat} {o : Oper} {t : Tmp} (ho : ops[i]? = some o) (ht : o.dst = some t) : t < n := by
  have hi : i < ops.size := (Array.getElem?_eq_some_iff.1 ho).1
  have := (List.all_eq_true.1 h) i (List.mem_range.2 hi)
  rw [ho] at this
  simp [ht] at this
  exact this.1
theorem slotsOk_ne {n : Nat} (h : slotsOk ops n = true) {i j : Nat} {o o' : Oper} {t : Tmp} (ho : ops[i]? = some o) (ht : o.dst = some t) (ho' : ops[j]? = some o') (hij : i ≠ j) : o'.dst ≠ some t := by
  have hi : i < ops.size := (Array.getElem?_eq_some_iff.1 ho).1
  have hj : j < ops.size := (Array.getElem?_eq_some_iff.1 ho').1
  have := (List.all_eq_true.1 h) i (List.mem_range.2 hi)
  rw [ho] at this
  simp only [Option.bind_some, ht, Option.all_some, Bool.and_eq_true, List.all_eq_true, List.mem_range] at this
  have h2 := this.2 j hj
  rw [ho'] at h2
  simpa [hij] using h2

/-- What is known of a state: of each slot that has been written what its operation yields; the others are as they were. -/
structure Known (ops : Array Oper) (φ : Nat → Value → World → Prop) (G : World → Prop) (a0 : Act) (listed : Array Bool) (a : Act) (w : World) : Prop where
  g : G w
  defers : a.defers = a0.defers
  size : a.tmps.size = a0.tmps.size
  done : ∀ i o t, ops[i]? = some o → o.dst = some t → listed.getD i false = true → φ i (a.tmps.getD t undef) w
  old : ∀ t, (ops.all fun o => o.dst != some t) = true → a.tmps.getD t undef = a0.tmps.getD t undef
/-- What is asked of one operation: in whatever state in which those that it waits for have come up. -/
def OpOk (P : Program) (ops : Array Oper) (Q : Exit → Act → World → Prop) (φ : Nat → Value → World → Prop) (G : World → Prop) (R : World → World → Prop) (a0 : Act) (i : Nat) (o : Oper) : Prop :=
  ∀ (a : Act) (w : World) (K : Act → World → Prop), G w →
    (∀ j t, (o.after.any fun e => e.on == j && Region.binds .any e) = true → ((ops[j]?).bind (·.dst)) = some t → φ j (a.tmps.getD t undef) w) →
    (∀ t, (ops.all fun o => o.dst != some t) = true → a.tmps.getD t undef = a0.tmps.getD t undef) →
    a.tmps.size = a0.tmps.size →
    (∀ v w', φ i v w' → G w' → R w w' → K (a.put o.dst v) w') →
    if Region.wanted o (yielded ops a.tmps) = true then o.wp P a w K Q else K (a.put o.dst undef) w
def OpsOk (P : Program) (ops : Array Oper) (Q : Exit → Act → World → Prop) (φ : Nat → Value → World → Prop) (G : World → Prop) (R : World → World → Prop) (a0 : Act) : Nat → List Oper → Prop
  | _, [] => True
  | i, o :: r => OpOk P ops Q φ G R a0 i o ∧ OpsOk P ops Q φ G R a0 (i + 1) r
theorem OpsOk.nil {φ : Nat → Value → World → Prop} {G : World → Prop} {R : World → World → Prop} {a0 : Act} {i : Nat} : OpsOk P ops Q φ G R a0 i [] := trivial
theorem OpsOk.cons {φ : Nat → Value → World → Prop} {G : World → Prop} {R : World → World → Prop} {a0 : Act} {i : Nat} {o : Oper} {r : List Oper} (h : OpOk P ops Q φ G R a0 i o) (hr : OpsOk P ops Q φ G R a0 (i + 1) r) : OpsOk P ops Q φ G R a0 i (o :: r) := ⟨h, hr⟩
theorem OpsOk.at_ {φ : Nat → Value → World → Prop} {G : World → Prop} {R : World → World → Prop} {a0 : Act} : ∀ (l : List Oper) (i j : Nat) (o : Oper), OpsOk P ops Q φ G R a0 i l → l[j]? = some o → OpOk P ops Q φ G R a0 (i + j) o
  | [], _, _, _, _, h => by simp at h
  | o :: r, i, 0, o', h, hj => by
    obtain rfl : o = o' := by simpa using hj
    exact h.1
  | o :: r, i, j + 1, o', h, hj => by
    have := OpsOk.at_ r (i + 1) j o' h.2 (by simpa using hj)
    rwa [show i + 1 + j = i + (j + 1) by omega] at this

/-- THE LAW. -/
theorem region_inv {id : Nat} {a0 : Act} {w : World} (φ : Nat → Value → World → Prop) (G : World → Prop) (R : World → World → Prop) (hm : P.follows .mixedOrders = true) (hf : forwards ops = true) (hsl : slotsOk ops a0.tmps.size = true)
    (hR : ∀ j v w w', φ j v w → R w w' → φ j v w') (hG : G w.drew) (hops : OpsOk P ops Q φ G R a0 0 ops.toList)
    (hend : ∀ a w', G w' → a.defers = a0.defers → a.tmps.size = a0.tmps.size → (∀ j t, ((ops[j]?).bind (·.dst)) = some t → φ j (a.tmps.getD t undef) w') → (∀ t, (ops.all fun o => o.dst != some t) = true → a.tmps.getD t undef = a0.tmps.getD t undef) → Q .normal a w') :
    (Code.region id ops true).wp P Q a0 w := by
  refine wp_region_any hm ?_
  have h0 : Known ops φ G a0 (Array.replicate ops.size false) a0 w.drew :=
    ⟨hG, rfl, rfl, fun i o t _ _ h => by
      exfalso
      simp [Array.getD] at h, fun t _ => rfl⟩
  refine wpAny_inv (fun listed a w => Known ops φ G a0 listed a w) ?_ ?_ ops.size (Array.replicate ops.size false) a0 w.drew (by simp) ?_ h0
  · intro i listed a w hs hI hi
    obtain ⟨hun, o, ho, hall⟩ := mem_ready.1 hi
    have hok := OpsOk.at_ ops.toList 0 i o hops (by simpa using ho)
    rw [Nat.zero_add] at hok
    have hil : i < listed.size := by have := (Array.getElem?_eq_some_iff.1 ho).1; omega
    have hgo := hok a w (fun a' w' => Known ops φ G a0 (listed.setIfInBounds i true) a' w') hI.g
      (fun j t he hj => by
        obtain ⟨e, he1, he2⟩ := Array.any_eq_true'.1 he
        simp only [Bool.and_eq_true, beq_iff_eq] at he2
        cases hoj : ops[j]? with
        | none => rw [hoj] at hj; cases hj
        | some oj =>
          rw [hoj] at hj
          exact hI.done j oj t hoj (by simpa using hj) (by have := hall e he1 he2.2; rwa [he2.1] at this))
      hI.old hI.size
      (fun v w' hv hg' hr => by
        refine ⟨hg', ?_, ?_, ?_, ?_⟩
        · cases hd : o.dst <;> simpa [Act.put] using hI.defers
        · cases hd : o.dst <;> simpa [Act.put] using hI.size
        · intro j oj t hoj htj hlj
          by_cases hij : i = j
          · subst hij
            obtain rfl : o = oj := by rw [ho] at hoj; exact Option.some.inj hoj
            have hlt := slotsOk_lt hsl ho htj
            have e : (a.put o.dst v).tmps.getD t undef = v := by
              rw [htj]
              simp [Act.put, Array.getD, hI.size, hlt]
            rw [e]
            exact hv
          · have hl : listed.getD j false = true := by rw [getD_set_ne false hij] at hlj; exact hlj
            have e : (a.put o.dst v).tmps.getD t undef = a.tmps.getD t undef := by
              cases hd : o.dst with
              | none => rfl
              | some u =>
                have hne : u ≠ t := fun e => slotsOk_ne hsl hoj htj ho (Ne.symm hij) (by rw [hd, e])
                simp only [Act.put]
                rw [Array.getD_eq_getD_getElem?, Array.getD_eq_getD_getElem?, Array.getElem?_setIfInBounds, if_neg hne]
            rw [e]
            exact hR j _ _ _ (hI.done j oj t hoj htj hl) hr
        · intro t ht
          have e : (a.put o.dst v).tmps.getD t undef = a.tmps.getD t undef := by
            cases hd : o.dst with
            | none => rfl
            | some u =>
              have hne : u ≠ t := fun e => by
                have := Array.all_eq_true'.1 ht o (Array.mem_of_getElem? ho)
                rw [hd, e] at this
                simp at this
              simp only [Act.put]
              rw [Array.getD_eq_getD_getElem?, Array.getD_eq_getD_getElem?, Array.getElem?_setIfInBounds, if_neg hne]
          rw [e]
          exact hI.old t ht)
    unfold wpOp
    rw [ho]
    by_cases hw : Region.wanted o (yielded ops a.tmps) = true
    · rw [if_pos hw] at hgo
      simp only [hw, if_true]
      exact .inl hgo
    · rw [if_neg hw] at hgo
      simp only [hw]
      exact hgo
  · intro listed a w hs hI hr
    have hal := all_listed hf hs hr
    refine hend a w hI.g hI.defers hI.size (fun j t hj => ?_) hI.old
    cases hoj : ops[j]? with
    | none => rw [hoj] at hj; cases hj
    | some oj =>
      rw [hoj] at hj
      exact hI.done j oj t hoj (by simpa using hj) (hal j (Array.getElem?_eq_some_iff.1 hoj).1)
  · unfold toCome
    have := List.countP_le_length (p := fun b => !b) (l := (Array.replicate ops.size false).toList)
    simpa using this

/-! ### The same, where what an operation yields may be used up by a later one -/

/-- What the operations have yielded: by their numbers. -/
def vals (ops : Array Oper) (a : Act) (k : Nat) : Value := match (ops[k]?).bind (·.dst) with
  | some t => a.tmps.getD t undef
  | none => undef
def updv (f : Nat → Value) (i : Nat) (v : Value) : Nat → Value := fun k => if k = i then v else f k
theorem updv_same (f : Nat → Value) (i : Nat) (v : Value) : updv f i v i = v := by simp [updv]
theorem updv_ne (f : Nat → Value) {i k : Nat} (h : k ≠ i) (v : Value) : updv f i v k = f k := by simp [updv, h]
/-- Number k comes up behind number i, whatever order is drawn. -/
def behind (ops : Array Oper) : Nat → Nat → Nat → Bool
  | 0, _, _ => false
  | n + 1, i, k => ((ops[k]?).map fun o => o.after.any fun e => Region.binds .any e && (e.on == i || behind ops n i e.on)).getD false
def Closed (ops : Array Oper) (listed : Array Bool) : Prop := ∀ k o e, ops[k]? = some o → listed.getD k false = true → e ∈ o.after → Region.binds .any e = true → listed.getD e.on false = true
theorem behind_listed {listed : Array Bool} (hc : Closed ops listed) : ∀ (n i k : Nat), behind ops n i k = true → listed.getD k false = true → listed.getD i false = true := by
  intro n
  induction n with
  | zero => intro i k h; cases h
  | succ n ih =>
    intro i k h hk
    unfold behind at h
    cases ho : ops[k]? with
    | none => rw [ho] at h; cases h
    | some o =>
      rw [ho] at h
      simp only [Option.map_some, Option.getD_some] at h
      obtain ⟨e, he1, he2⟩ := Array.any_eq_true'.1 h
      simp only [Bool.and_eq_true, Bool.or_eq_true, beq_iff_eq] at he2
      have h3 := hc k o e ho hk he1 he2.1
      rcases he2.2 with h4 | h4
      · rwa [h4] at h3
      · exact ih i e.on h4 h3
/-- What is known of a state. -/
structure Known3 (ops : Array Oper) (φ : Nat → (Nat → Value) → World → Prop) (G : World → Prop) (a0 : Act) (listed : Array Bool) (a : Act) (w : World) : Prop where
  g : G w
  defers : a.defers = a0.defers
  size : a.tmps.size = a0.tmps.size
  done : ∀ i o, ops[i]? = some o → listed.getD i false = true → φ i (vals ops a) w
  fresh : ∀ i, listed.getD i false = false → vals ops a i = vals ops a0 i
  old : ∀ t, (ops.all fun o => o.dst != some t) = true → a.tmps.getD t undef = a0.tmps.getD t undef
  closed : Closed ops listed
def OpOk3 (P : Program) (ops : Array Oper) (Q : Exit → Act → World → Prop) (φ : Nat → (Nat → Value) → World → Prop) (G : World → Prop) (n : Nat) (a0 : Act) (i : Nat) (o : Oper) : Prop :=
  ∀ (a : Act) (w : World) (K : Act → World → Prop), G w →
    (∀ j, (o.after.any fun e => e.on == j && Region.binds .any e) = true → (ops[j]?).isSome = true → φ j (vals ops a) w) →
    (∀ t, (ops.all fun o => o.dst != some t) = true → a.tmps.getD t undef = a0.tmps.getD t undef) →
    (∀ k, k = i ∨ behind ops n i k = true → vals ops a k = vals ops a0 k) →
    (∀ v w', G w' → φ i (updv (vals ops a) i v) w' → (∀ j, j ≠ i → behind ops n i j = false → φ j (vals ops a) w → φ j (updv (vals ops a) i v) w') → K (a.put o.dst v) w') →
    if Region.wanted o (yielded ops a.tmps) = true then o.wp P a w K Q else K (a.put o.dst undef) w
def OpsOk3 (P : Program) (ops : Array Oper) (Q : Exit → Act → World → Prop) (φ : Nat → (Nat → Value) → World → Prop) (G : World → Prop) (n : Nat) (a0 : Act) : Nat → List Oper → Prop
  | _, [] => True
  | i, o :: r => OpOk3 P ops Q φ G n a0 i o ∧ OpsOk3 P ops Q φ G n a0 (i + 1) r
theorem OpsOk3.cons {φ : Nat → (Nat → Value) → World → Prop} {G : World → Prop} {n : Nat} {a0 : Act} {i : Nat} {o : Oper} {r : List Oper} (h : OpOk3 P ops Q φ G n a0 i o) (hr : OpsOk3 P ops Q φ G n a0 (i + 1) r) : OpsOk3 P ops Q φ G n a0 i (o :: r) := ⟨h, hr⟩
theorem OpsOk3.at_ {φ : Nat → (Nat → Value) → World → Prop} {G : World → Prop} {n : Nat} {a0 : Act} : ∀ (l : List Oper) (i j : Nat) (o : Oper), OpsOk3 P ops Q φ G n a0 i l → l[j]? = some o → OpOk3 P ops Q φ G n a0 (i + j) o
  | [], _, _, _, _, h => by simp at h
  | o :: r, i, 0, o', h, hj => by
    obtain rfl : o = o' := by simpa using hj
    exact h.1
  | o :: r, i, j + 1, o', h, hj => by
    have := OpsOk3.at_ r (i + 1) j o' h.2 (by simpa using hj)
    rwa [show i + 1 + j = i + (j + 1) by omega] at this
theorem vals_put {a : Act} {i : Nat} {o : Oper} {v : Value} (hsl : slotsOk ops a.tmps.size = true) (hd : (ops.all fun o => o.dst.isSome) = true) (ho : ops[i]? = some o) : vals ops (a.put o.dst v) = updv (vals ops a) i v := by
  funext k
  have hds : ∀ (j : Nat) (oj : Oper), ops[j]? = some oj → ∃ t, oj.dst = some t := fun j oj hj => by
    have := Array.all_eq_true'.1 hd oj (Array.mem_of_getElem? hj)
    exact Option.isSome_iff_exists.1 this
  obtain ⟨u, hu⟩ := hds i o ho
  by_cases hk : k = i
  · subst hk
    rw [updv_same]
    unfold vals
    rw [ho]
    simp only [Option.bind_some, hu, Act.put]
    have := slotsOk_lt hsl ho hu
    simp [Array.getD, this]
  · rw [updv_ne _ hk]
    unfold vals
    cases hok : ops[k]? with
    | none => rfl
    | some ok =>
      obtain ⟨t, ht⟩ := hds k ok hok
      simp only [Option.bind_some, ht, hu, Act.put]
      have hne : u ≠ t := fun e => slotsOk_ne hsl hok ht ho hk (by rw [hu, e])
      rw [Array.getD_eq_getD_getElem?, Array.getD_eq_getD_getElem?, Array.getElem?_setIfInBounds, if_neg hne]

/-- THE LAW, where what was yielded may be used up. -/
theorem region_inv3 {id : Nat} {a0 : Act} {w : World} (n : Nat) (φ : Nat → (Nat → Value) → World → Prop) (G : World → Prop) (hm : P.follows .mixedOrders = true) (hf : forwards ops = true) (hsl : slotsOk ops a0.tmps.size = true) (hd : (ops.all fun o => o.dst.isSome) = true)
    (hG : G w.drew) (hops : OpsOk3 P ops Q φ G n a0 0 ops.toList)
    (hend : ∀ a w', G w' → a.defers = a0.defers → a.tmps.size = a0.tmps.size → (∀ j, (ops[j]?).isSome = true → φ j (vals ops a) w') → (∀ t, (ops.all fun o => o.dst != some t) = true → a.tmps.getD t undef = a0.tmps.getD t undef) → Q .normal a w') :
    (Code.region id ops true).wp P Q a0 w := by
  refine wp_region_any hm ?_
  have hrep : ∀ i, (Array.replicate ops.size false).getD i false = false := fun i => by simp [Array.getD]
  have h0 : Known3 ops φ G a0 (Array.replicate ops.size false) a0 w.drew :=
    ⟨hG, rfl, rfl, fun i o _ h => (by rw [hrep] at h; cases h), fun _ _ => rfl, fun _ _ => rfl, fun k o e _ h => (by rw [hrep] at h; cases h)⟩
  refine wpAny_inv (fun listed a w => Known3 ops φ G a0 listed a w) ?_ ?_ ops.size (Array.replicate ops.size false) a0 w.drew (by simp) ?_ h0
  · intro i listed a w hs hI hi
    obtain ⟨hun, o, ho, hall⟩ := mem_ready.1 hi
    have hok := OpsOk3.at_ ops.toList 0 i o hops (by simpa using ho)
    rw [Nat.zero_add] at hok
    have hil : i < listed.size := by have := (Array.getElem?_eq_some_iff.1 ho).1; omega
    have hunf : listed.getD i false = false := by simpa [Array.getD, hil] using hun
    have hbeh : ∀ k, behind ops n i k = true → listed.getD k false = false := fun k hk => by
      cases hl : listed.getD k false with
      | false => rfl
      | true => rw [behind_listed hI.closed n i k hk hl] at hunf; cases hunf
    have hsl' : slotsOk ops a.tmps.size = true := by rw [hI.size]; exact hsl
    have hgo := hok a w (fun a' w' => Known3 ops φ G a0 (listed.setIfInBounds i true) a' w') hI.g
      (fun j he hj => by
        obtain ⟨e, he1, he2⟩ := Array.any_eq_true'.1 he
        simp only [Bool.and_eq_true, beq_iff_eq] at he2
        obtain ⟨oj, hoj⟩ := Option.isSome_iff_exists.1 hj
        exact hI.done j oj hoj (by have := hall e he1 he2.2; rwa [he2.1] at this))
      hI.old (fun k hk => hI.fresh k (hk.elim (fun e => by rw [e]; exact hunf) (hbeh k)))
      (fun v w' hg' hv hpres => by
        have hvp := vals_put (v := v) hsl' hd ho
        refine ⟨hg', ?_, ?_, ?_, ?_, ?_, ?_⟩
        · cases hdd : o.dst <;> simpa [Act.put] using hI.defers
        · cases hdd : o.dst <;> simpa [Act.put] using hI.size
        · intro j oj hoj hlj
          rw [hvp]
          by_cases hij : j = i
          · subst hij; exact hv
          · have hl : listed.getD j false = true := by rw [getD_set_ne false (Ne.symm hij)] at hlj; exact hlj
            refine hpres j hij ?_ (hI.done j oj hoj hl)
            cases hb : behind ops n i j with
            | false => rfl
            | true => rw [hbeh j hb] at hl; cases hl
        · intro k hk
          have hki : k ≠ i := fun e => by
            subst e
            simp [Array.getD, hil] at hk
          rw [hvp, updv_ne _ hki]
          exact hI.fresh k (by rwa [getD_set_ne false (Ne.symm hki)] at hk)
        · intro t ht
          have e : (a.put o.dst v).tmps.getD t undef = a.tmps.getD t undef := by
            cases hdd : o.dst with
            | none => rfl
            | some u =>
              have hne : u ≠ t := fun e => by
                have := Array.all_eq_true'.1 ht o (Array.mem_of_getElem? ho)
                rw [hdd, e] at this
                simp at this
              simp only [Act.put]
              rw [Array.getD_eq_getD_getElem?, Array.getD_eq_getD_getElem?, Array.getElem?_setIfInBounds, if_neg hne]
          rw [e]
          exact hI.old t ht
        · intro k ok e hok2 hlk he hb
          by_cases hki : k = i
          · subst hki
            rw [ho] at hok2
            cases hok2
            exact getD_set_true (hall e he hb)
          · have hl : listed.getD k false = true := by rw [getD_set_ne false (Ne.symm hki)] at hlk; exact hlk
            exact getD_set_true (hI.closed k ok e hok2 hl he hb))
    unfold wpOp
    rw [ho]
    by_cases hw : Region.wanted o (yielded ops a.tmps) = true
    · rw [if_pos hw] at hgo
      simp only [hw, if_true]
      exact .inl hgo
    · rw [if_neg hw] at hgo
      simp only [hw]
      exact hgo
  · intro listed a w hs hI hr
    have hal := all_listed hf hs hr
    refine hend a w hI.g hI.defers hI.size (fun j hj => ?_) hI.old
    obtain ⟨oj, hoj⟩ := Option.isSome_iff_exists.1 hj
    exact hI.done j oj hoj (hal j (Array.getElem?_eq_some_iff.1 hoj).1)
  · unfold toCome
    have := List.countP_le_length (p := fun b => !b) (l := (Array.replicate ops.size false).toList)
    simpa using this

/-! ### An operation of such a region -/
theorem op_value {o : Oper} {a : Act} {w w' : World} {K : Act → World → Prop} {E : Prop} {v : Value} (hw : Region.wanted o (yielded ops a.tmps) = true) (hr : (execOp a.eval o).run P w = .ok (.value v) w') (h : K (a.put o.dst v) w') :
    if Region.wanted o (yielded ops a.tmps) = true then o.wp P a w K Q else E := by
  rw [if_pos hw]
  unfold Oper.wp
  rw [hr]
  exact h
theorem op_call {o : Oper} {a : Act} {w : World} {K : Act → World → Prop} {E : Prop} {f : FuncId} {args : Array Value} (hw : Region.wanted o (yielded ops a.tmps) = true) (hr : (execOp a.eval o).run P w = .ok (.enter f args) w)
    (h : Calls P f args w fun e w' => ∃ v, e = .returned v ∧ K (a.put o.dst v) w') : if Region.wanted o (yielded ops a.tmps) = true then o.wp P a w K Q else E := by
  rw [if_pos hw]
  unfold Oper.wp
  rw [hr]
  refine h.mono ?_
  rintro e w' ⟨v, rfl, hk⟩
  exact hk
theorem yielded_of {a : Act} {j : Nat} {b : Bool} (h : vals ops a j = .bool b) : yielded ops a.tmps j = some b := by
  unfold vals at h
  unfold yielded
  cases hj : (ops[j]?).bind (·.dst) with
  | none => rw [hj] at h; cases h
  | some t =>
    rw [hj] at h
    simp only [Option.bind_some]
    simp only [Array.getD_eq_getD_getElem?] at h
    cases ht : a.tmps[t]? with
    | none => rw [ht] at h; cases h
    | some v =>
      rw [ht] at h
      simp only [Option.getD_some] at h
      rw [h]
theorem wanted_of {o : Oper} {a : Act} {j : Nat} {b : Bool} (hg : o.guard = some (j, b)) (h : vals ops a j = .bool b) : Region.wanted o (yielded ops a.tmps) = true := by
  unfold Region.wanted
  rw [hg]
  simp [yielded_of h]
theorem wanted_none {o : Oper} {a : Act} (hg : o.guard = none) : Region.wanted o (yielded ops a.tmps) = true := by
  unfold Region.wanted
  rw [hg]
end
end Go.Proofs.Ytfnhmnfhkhjojaa
