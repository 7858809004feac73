/- Drawn regions by one look at each operation (in a round; with calls that turn a state), and the frame behind one: of no program, no conditions. -/
import Derived.WalkKit
import Derived.RegionTactic
import Derived.Orders
import Derived.OrdersIn
import Derived.RangeFuncCalls
import Derived.Test.YtljlmaddbpihnaaPBase
namespace Go.Proofs.Ytljlmaddbpihnaa
open Go.RowKit
theorem wide_depthR (k : Nat) : Fence.wide.depth.isSome = true → 1 ≤ k := fun h => by cases h
section
section
variable {P : Program} {ops : Array Oper} {Q : Exit → Act → World → Prop}

/-- How many have not come up yet. -/
def toCome (listed : Array Bool) : Nat := listed.toList.countP (fun b => !b)
theorem toCome_set {listed : Array Bool} {i : Nat} (h : listed.getD i true = false) : toCome (listed.setIfInBounds i true) + 1 ≤ toCome listed := by
  have hi : i < listed.size := by
    rcases Nat.lt_or_ge i listed.size with h' | h'
    · exact h'
    · simp [Array.getD, Nat.not_lt.2 h'] at h
  have he : listed.toList[i]'(by simpa using hi) = false := by simpa [Array.getD, hi] using h
  unfold toCome
  rw [Array.toList_setIfInBounds, List.countP_set (by simpa using hi), he]
  have : 0 < listed.toList.countP (fun b => !b) := List.countP_pos_iff.2 ⟨_, List.getElem_mem (by simpa using hi), by rw [he]; rfl⟩
  rw [if_pos (show (!false) = true from rfl), if_neg (show ¬ (!true) = true by decide)]
  omega
theorem toCome_none {listed : Array Bool} (h : toCome listed = 0) (i : Nat) : listed.getD i true = true := by
  unfold toCome at h
  rcases Nat.lt_or_ge i listed.size with h' | h'
  · have := List.countP_eq_zero.1 h (listed[i]) (by simp)
    simpa [Array.getD, h'] using this
  · simp [Array.getD, Nat.not_lt.2 h']
/-- Whatever order is drawn, a word of the state that each operation hands on is handed on to the end. -/
theorem wpAnyIn_inv {F : Fence} {n : Nat} {md : Region.Mode} (I : Array Bool → Act → World → Prop)
    (hstep : ∀ i listed a w, listed.size = ops.size → I listed a w → i ∈ Region.ready md ops listed → wpOpIn F n P ops Q i (fun a' w' => I (listed.setIfInBounds i true) a' w') a w)
    (hend : ∀ listed a w, listed.size = ops.size → I listed a w → Region.ready md ops listed = [] → Q .normal a w) :
    ∀ (fuel : Nat) (listed : Array Bool) (a : Act) (w : World), listed.size = ops.size → toCome listed ≤ fuel → I listed a w → wpAnyIn F n P md ops Q fuel listed a w := by
  intro fuel
  induction fuel with
  | zero =>
    intro listed a w hs hc hI
    have hr : Region.ready md ops listed = [] := by
      rw [List.eq_nil_iff_forall_not_mem]
      intro i hi
      have h1 := (mem_ready.1 hi).1
      rw [toCome_none (by omega) i] at h1
      cases h1
    exact ⟨hr, hend _ _ _ hs hI hr⟩
  | succ fuel ih =>
    intro listed a w hs hc hI
    refine ⟨hend _ _ _ hs hI, fun i hi => ?_⟩
    refine wpOpIn_mono (fun a' w' h' => ih _ a' w' (by simpa using hs) ?_ h') (hstep i listed a w hs hI hi)
    have := toCome_set (mem_ready.1 hi).1
    omega

/-- Each operation waits for earlier ones alone. -/
def forwards (ops : Array Oper) : Bool := (List.range ops.size).all fun i => ((ops[i]?).map fun o => o.after.all fun e => decide (e.on < i)).getD true
theorem all_listed {md : Region.Mode} (hf : forwards ops = true) {listed : Array Bool} (hs : listed.size = ops.size) (hr : Region.ready md ops listed = []) : ∀ i, i < ops.size → listed.getD i false = true := by
  intro i
  induction i using Nat.strongRecOn with
  | ind i ih =>
    intro hi
    have ho : ops[i]? = some ops[i] := Array.getElem?_eq_getElem hi
    have hfi := (List.all_eq_true.1 hf) i (List.mem_range.2 hi)
    rw [ho] at hfi
    simp only [Option.map_some, Option.getD_some, Array.all_eq_true_iff_forall_mem, decide_eq_true_eq] at hfi
    cases hg : listed.getD i true with
    | true =>
      have : i < listed.size := by omega
      simpa [Array.getD, this] using hg
    | false =>
      have hm : i ∈ Region.ready md ops listed := mem_ready.2 ⟨hg, _, ho, fun e he _ => ih e.on (hfi e he) (by have := hfi e he; omega)⟩
      rw [hr] at hm
      cases hm

/-- No two operations write one slot, and each slot is there. -/
def slotsOk (ops : Array Oper) (n : Nat) : Bool :=
  (List.range ops.size).all fun i => ((ops[i]?).bind (·.dst)).all fun t => decide (t < n) && (List.range ops.size).all fun j => decide (i = j) || ((ops[j]?).bind (·.dst)) != some t
theorem slotsOk_lt {n : Nat} (h : slotsOk ops n = true) {i : Nat} {o : Oper} {t : Tmp} (ho : ops[i]? = some o) (ht : o.dst = some t) : t < n := by
  have hi : i < ops.size := (Array.getElem?_eq_some_iff.1 ho).1
  have := (List.all_eq_true.1 h) i (List.mem_range.2 hi)
  rw [ho] at this
  simp [ht] at this
  exact this.1
theorem slotsOk_ne {n : Nat} (h : slotsOk ops n = true) {i j : Nat} {o o' : Oper} {t : Tmp} (ho : ops[i]? = some o) (ht : o.dst = some t) (ho' : ops[j]? = some o') (hij : i ≠ j) : o'.dst ≠ some t := by
  have hi : i < ops.size := (Array.getElem?_eq_some_iff.1 ho).1
  have hj : j < ops.size := (Array.getElem?_eq_some_iff.1 ho').1
  have := (List.all_eq_true.1 h) i (List.mem_range.2 hi)
  rw [ho] at this
  simp only [Option.bind_some, ht, Option.all_some, Bool.and_eq_true, List.all_eq_true, List.mem_range] at this
  have h2 := this.2 j hj
  rw [ho'] at h2
  simpa [hij] using h2

/-- What the operations have yielded: by their numbers. -/
def vals (ops : Array Oper) (a : Act) (k : Nat) : Value := match (ops[k]?).bind (·.dst) with
  | some t => a.tmps.getD t undef
  | none => undef
def told (o : Oper) (v : Value) : Value := if o.dst.isSome = true then v else undef
/-- What is known of a state: of each operation that has come up what it yields; the other slots are as they were. -/
structure Known (ops : Array Oper) (φ : Nat → Value → World → Prop) (G : World → Prop) (a0 : Act) (listed : Array Bool) (a : Act) (w : World) : Prop where
  g : G w
  defers : a.defers = a0.defers
  size : a.tmps.size = a0.tmps.size
  done : ∀ i o, ops[i]? = some o → listed.getD i false = true → φ i (vals ops a i) w
  old : ∀ t, (ops.all fun o => o.dst != some t) = true → a.tmps.getD t undef = a0.tmps.getD t undef
/-- What is asked of one operation: in whatever state in which those that it waits for have come up. -/
def OpOk (P : Program) (ops : Array Oper) (Q : Exit → Act → World → Prop) (φ : Nat → Value → World → Prop) (G : World → Prop) (R : World → World → Prop) (a0 : Act) (i : Nat) (o : Oper) : Prop :=
  ∀ (a : Act) (w : World) (K : Act → World → Prop), G w →
    (∀ j, (o.after.any fun e => e.on == j && Region.binds .any e) = true → (ops[j]?).isSome = true → φ j (vals ops a j) w) →
    (∀ t, (ops.all fun o => o.dst != some t) = true → a.tmps.getD t undef = a0.tmps.getD t undef) →
    a.tmps.size = a0.tmps.size →
    (∀ v w', φ i (told o v) w' → G w' → R w w' → K (a.put o.dst v) w') →
    if Region.wanted o (yielded ops a.tmps) = true then o.wp P a w K Q else K (a.put o.dst undef) w
def OpsOk (P : Program) (ops : Array Oper) (Q : Exit → Act → World → Prop) (φ : Nat → Value → World → Prop) (G : World → Prop) (R : World → World → Prop) (a0 : Act) : Nat → List Oper → Prop
  | _, [] => True
  | i, o :: r => OpOk P ops Q φ G R a0 i o ∧ OpsOk P ops Q φ G R a0 (i + 1) r
theorem OpsOk.nil {φ : Nat → Value → World → Prop} {G : World → Prop} {R : World → World → Prop} {a0 : Act} {i : Nat} : OpsOk P ops Q φ G R a0 i [] := trivial
theorem OpsOk.cons {φ : Nat → Value → World → Prop} {G : World → Prop} {R : World → World → Prop} {a0 : Act} {i : Nat} {o : Oper} {r : List Oper} (h : OpOk P ops Q φ G R a0 i o) (hr : OpsOk P ops Q φ G R a0 (i + 1) r) : OpsOk P ops Q φ G R a0 i (o :: r) := ⟨h, hr⟩
theorem OpsOk.at_ {φ : Nat → Value → World → Prop} {G : World → Prop} {R : World → World → Prop} {a0 : Act} : ∀ (l : List Oper) (i j : Nat) (o : Oper), OpsOk P ops Q φ G R a0 i l → l[j]? = some o → OpOk P ops Q φ G R a0 (i + j) o
  | [], _, _, _, _, h => by simp at h
  | o :: r, i, 0, o', h, hj => by
    obtain rfl : o = o' := by simpa using hj
    exact h.1
  | o :: r, i, j + 1, o', h, hj => by
    have := OpsOk.at_ r (i + 1) j o' h.2 (by simpa using hj)
    rwa [show i + 1 + j = i + (j + 1) by omega] at this
theorem vals_same {a : Act} {i : Nat} {o : Oper} {v : Value} (hsl : slotsOk ops a.tmps.size = true) (ho : ops[i]? = some o) : vals ops (a.put o.dst v) i = told o v := by
  unfold vals told
  rw [ho]
  simp only [Option.bind_some]
  cases hd : o.dst with
  | none => rfl
  | some t =>
    have := slotsOk_lt hsl ho hd
    simp [Act.put, Array.getD, this]
theorem vals_other {a : Act} {i k : Nat} {o : Oper} {v : Value} (hsl : slotsOk ops a.tmps.size = true) (ho : ops[i]? = some o) (hk : k ≠ i) : vals ops (a.put o.dst v) k = vals ops a k := by
  unfold vals
  cases hok : ops[k]? with
  | none => rfl
  | some ok =>
    simp only [Option.bind_some]
    cases ht : ok.dst with
    | none => rfl
    | some t =>
      cases hd : o.dst with
      | none => rfl
      | some u =>
        have hne : u ≠ t := fun e => slotsOk_ne hsl hok ht ho hk (by rw [hd, e])
        simp only [Act.put]
        rw [Array.getD_eq_getD_getElem?, Array.getD_eq_getD_getElem?, Array.getElem?_setIfInBounds, if_neg hne]

/-- An operation that is no defer runs in a round as it runs elsewhere. -/
theorem op_in_round {l n : Nat} {o : Oper} {a : Act} {w : World} {K : Act → World → Prop} (hnd : ∀ c : Call, o.op ≠ .defer c) (h : o.wp P a w K Q) : o.wpIn (Fence.wide.inRound l) n P a w K Q := by
  refine ⟨fun _ _ => trivial, ?_⟩
  rw [Oper.semAt_eq _ _ _ hnd]
  unfold Oper.wp at h
  revert h
  generalize (execOp a.eval o).run P w = r
  intro h
  match r, h with
  | .ok (.value v) w', h => exact h
  | .ok .skip w', h => exact h
  | .ok (.defer d) w', h => exact h
  | .ok (.enter f args) w', h => exact ⟨wide_depthR _, callsIn_wide.2 h⟩
  | .ok (.row row args) w', h => exact ⟨wide_depthR _, fun c cs _ => let ⟨v, w', r, s⟩ := h c cs; ⟨v, w', r, stepsIn_wide.2 s⟩⟩
  | .halt (.panic v) w', h => exact h

/-- No operation defers. -/
def noDefer (ops : Array Oper) : Bool := ops.toList.all fun o => match o.op with | .defer _ => false | _ => true
theorem noDefer_at (h : noDefer ops = true) {o : Oper} (ho : o ∈ ops.toList) (c : Call) : o.op ≠ .defer c := fun e => by
  have := List.all_eq_true.1 h o ho
  rw [e] at this
  cases this
/-- THE LAW. -/
theorem region_inv_in {l n : Nat} {id : Nat} {a0 : Act} {w : World} (φ : Nat → Value → World → Prop) (G : World → Prop) (R : World → World → Prop) (hm : P.follows .mixedOrders = true) (hf : forwards ops = true) (hsl : slotsOk ops a0.tmps.size = true)
    (hnd : noDefer ops = true)
    (hR : ∀ j v w w', φ j v w → R w w' → φ j v w') (hG : G w.drew) (hops : OpsOk P ops Q φ G R a0 0 ops.toList)
    (hend : ∀ a w', G w' → a.defers = a0.defers → a.tmps.size = a0.tmps.size → (∀ j, (ops[j]?).isSome = true → φ j (vals ops a j) w') → (∀ t, (ops.all fun o => o.dst != some t) = true → a.tmps.getD t undef = a0.tmps.getD t undef) → Q .normal a w') :
    (Code.region id ops true).wpIn (Fence.wide.inRound l) n P Q a0 w := by
  refine wpIn_region_any hm ?_
  have h0 : Known ops φ G a0 (Array.replicate ops.size false) a0 w.drew :=
    ⟨hG, rfl, rfl, fun i o _ h => by
      exfalso
      simp [Array.getD] at h, fun t _ => rfl⟩
  refine wpAnyIn_inv (fun listed a w => Known ops φ G a0 listed a w) ?_ ?_ ops.size (Array.replicate ops.size false) a0 w.drew (by simp) ?_ h0
  · intro i listed a w hs hI hi
    obtain ⟨hun, o, ho, hall⟩ := mem_ready.1 hi
    have hok := OpsOk.at_ ops.toList 0 i o hops (by simpa using ho)
    rw [Nat.zero_add] at hok
    have hmem : o ∈ ops.toList := by simpa using Array.mem_of_getElem? ho
    have hsl' : slotsOk ops a.tmps.size = true := by rw [hI.size]; exact hsl
    have hgo := hok a w (fun a' w' => Known ops φ G a0 (listed.setIfInBounds i true) a' w') hI.g
      (fun j he hj => by
        obtain ⟨e, he1, he2⟩ := Array.any_eq_true'.1 he
        simp only [Bool.and_eq_true, beq_iff_eq] at he2
        obtain ⟨oj, hoj⟩ := Option.isSome_iff_exists.1 hj
        exact hI.done j oj hoj (by have := hall e he1 he2.2; rwa [he2.1] at this))
      hI.old hI.size
      (fun v w' hv hg' hr => by
        refine ⟨hg', ?_, ?_, ?_, ?_⟩
        · cases hd : o.dst <;> simpa [Act.put] using hI.defers
        · cases hd : o.dst <;> simpa [Act.put] using hI.size
        · intro j oj hoj hlj
          by_cases hij : i = j
          · subst hij
            rw [vals_same hsl' ho]
            exact hv
          · have hl : listed.getD j false = true := by rw [getD_set_ne false hij] at hlj; exact hlj
            rw [vals_other hsl' ho (Ne.symm hij)]
            exact hR j _ _ _ (hI.done j oj hoj hl) hr
        · intro t ht
          have e : (a.put o.dst v).tmps.getD t undef = a.tmps.getD t undef := by
            cases hd : o.dst with
            | none => rfl
            | some u =>
              have hne : u ≠ t := fun e => by
                have := Array.all_eq_true'.1 ht o (Array.mem_of_getElem? ho)
                rw [hd, e] at this
                simp at this
              simp only [Act.put]
              rw [Array.getD_eq_getD_getElem?, Array.getD_eq_getD_getElem?, Array.getElem?_setIfInBounds, if_neg hne]
          rw [e]
          exact hI.old t ht)
    unfold wpOpIn
    rw [ho]
    by_cases hw : Region.wanted o (yielded ops a.tmps) = true
    · rw [if_pos hw] at hgo
      simp only [hw, if_true]
      exact op_in_round (noDefer_at hnd hmem) hgo
    · rw [if_neg hw] at hgo
      simp only [hw]
      exact ⟨fun _ _ => trivial, hgo⟩
  · intro listed a w hs hI hr
    have hal := all_listed hf hs hr
    refine hend a w hI.g hI.defers hI.size (fun j hj => ?_) hI.old
    obtain ⟨oj, hoj⟩ := Option.isSome_iff_exists.1 hj
    exact hI.done j oj hoj (hal j (Array.getElem?_eq_some_iff.1 hoj).1)
  · unfold toCome
    have := List.countP_le_length (p := fun b => !b) (l := (Array.replicate ops.size false).toList)
    simpa using this

/-! ### An operation of such a region -/
theorem op_value {o : Oper} {a : Act} {w w' : World} {K : Act → World → Prop} {E : Prop} {v : Value} (hw : Region.wanted o (yielded ops a.tmps) = true) (hr : (execOp a.eval o).run P w = .ok (.value v) w') (h : K (a.put o.dst v) w') :
    if Region.wanted o (yielded ops a.tmps) = true then o.wp P a w K Q else E := by
  rw [if_pos hw]
  unfold Oper.wp
  rw [hr]
  exact h
theorem op_call {o : Oper} {a : Act} {w : World} {K : Act → World → Prop} {E : Prop} {f : FuncId} {args : Array Value} (hw : Region.wanted o (yielded ops a.tmps) = true) (hr : (execOp a.eval o).run P w = .ok (.enter f args) w)
    (h : Calls P f args w fun e w' => ∃ v, e = .returned v ∧ K (a.put o.dst v) w') : if Region.wanted o (yielded ops a.tmps) = true then o.wp P a w K Q else E := by
  rw [if_pos hw]
  unfold Oper.wp
  rw [hr]
  refine h.mono ?_
  rintro e w' ⟨v, rfl, hk⟩
  exact hk
theorem yielded_of {a : Act} {j : Nat} {b : Bool} (h : vals ops a j = .bool b) : yielded ops a.tmps j = some b := by
  unfold vals at h
  unfold yielded
  cases hj : (ops[j]?).bind (·.dst) with
  | none => rw [hj] at h; cases h
  | some t =>
    rw [hj] at h
    simp only [Option.bind_some]
    simp only [Array.getD_eq_getD_getElem?] at h
    cases ht : a.tmps[t]? with
    | none => rw [ht] at h; cases h
    | some v =>
      rw [ht] at h
      simp only [Option.getD_some] at h
      rw [h]
theorem wanted_of {o : Oper} {a : Act} {j : Nat} {b : Bool} (hg : o.guard = some (j, b)) (h : vals ops a j = .bool b) : Region.wanted o (yielded ops a.tmps) = true := by
  unfold Region.wanted
  rw [hg]
  simp [yielded_of h]
theorem wanted_none {o : Oper} {a : Act} (hg : o.guard = none) : Region.wanted o (yielded ops a.tmps) = true := by
  unfold Region.wanted
  rw [hg]
end
end
section

section
variable {P : Program} {ops : Array Oper} {Q : Exit → Act → World → Prop}
/-- Whatever order is drawn, a word of the state that each operation hands on is handed on to the end. -/
theorem wpAny_inv {md : Region.Mode} (I : Array Bool → Act → World → Prop)
    (hstep : ∀ i listed a w, listed.size = ops.size → I listed a w → i ∈ Region.ready md ops listed → wpOp P ops Q i (fun a' w' => I (listed.setIfInBounds i true) a' w') a w)
    (hend : ∀ listed a w, listed.size = ops.size → I listed a w → Region.ready md ops listed = [] → Q .normal a w) :
    ∀ (fuel : Nat) (listed : Array Bool) (a : Act) (w : World), listed.size = ops.size → toCome listed ≤ fuel → I listed a w → wpAny P md ops Q fuel listed a w := by
  intro fuel
  induction fuel with
  | zero =>
    intro listed a w hs hc hI
    have hr : Region.ready md ops listed = [] := by
      rw [List.eq_nil_iff_forall_not_mem]
      intro i hi
      have h1 := (mem_ready.1 hi).1
      rw [toCome_none (by omega) i] at h1
      cases h1
    exact ⟨hr, hend _ _ _ hs hI hr⟩
  | succ fuel ih =>
    intro listed a w hs hc hI
    refine ⟨hend _ _ _ hs hI, fun i hi => ?_⟩
    refine wpOp_mono (fun a' w' h' => ih _ a' w' (by simpa using hs) ?_ h') (hstep i listed a w hs hI hi)
    have := toCome_set (mem_ready.1 hi).1
    omega

def updv (f : Nat → Value) (i : Nat) (v : Value) : Nat → Value := fun k => if k = i then v else f k
theorem updv_same (f : Nat → Value) (i : Nat) (v : Value) : updv f i v i = v := by simp [updv]
theorem updv_ne (f : Nat → Value) {i k : Nat} (h : k ≠ i) (v : Value) : updv f i v k = f k := by simp [updv, h]
theorem vals_put {a : Act} {i : Nat} {o : Oper} {v : Value} (hsl : slotsOk ops a.tmps.size = true) (ho : ops[i]? = some o) : vals ops (a.put o.dst v) = updv (vals ops a) i (told o v) := by
  funext k
  by_cases hk : k = i
  · subst hk; rw [updv_same, vals_same hsl ho]
  · rw [updv_ne _ hk, vals_other hsl ho hk]
/-- What is known of a state: of each operation that has come up what it yields; the other slots are as they were. -/
structure KnownS (ops : Array Oper) (φ : Nat → Value → World → Prop) (G : (Nat → Value) → World → Prop) (a0 : Act) (listed : Array Bool) (a : Act) (w : World) : Prop where
  g : G (vals ops a) w
  defers : a.defers = a0.defers
  size : a.tmps.size = a0.tmps.size
  done : ∀ i o, ops[i]? = some o → listed.getD i false = true → φ i (vals ops a i) w
  fresh : ∀ i, listed.getD i false = false → vals ops a i = vals ops a0 i
  old : ∀ t, (ops.all fun o => o.dst != some t) = true → a.tmps.getD t undef = a0.tmps.getD t undef
/-- What is asked of one operation: in whatever state in which those that it waits for have come up. -/
def OpOkS (P : Program) (ops : Array Oper) (Q : Exit → Act → World → Prop) (φ : Nat → Value → World → Prop) (G : (Nat → Value) → World → Prop) (R : World → World → Prop) (a0 : Act) (i : Nat) (o : Oper) : Prop :=
  ∀ (a : Act) (w : World) (K : Act → World → Prop), G (vals ops a) w →
    (∀ j, (o.after.any fun e => e.on == j && Region.binds .any e) = true → (ops[j]?).isSome = true → φ j (vals ops a j) w) →
    (∀ t, (ops.all fun o => o.dst != some t) = true → a.tmps.getD t undef = a0.tmps.getD t undef) →
    a.tmps.size = a0.tmps.size →
    vals ops a i = vals ops a0 i →
    (∀ v w', φ i (told o v) w' → G (updv (vals ops a) i (told o v)) w' → R w w' → K (a.put o.dst v) w') →
    if Region.wanted o (yielded ops a.tmps) = true then o.wp P a w K Q else K (a.put o.dst undef) w
def OpsOkS (P : Program) (ops : Array Oper) (Q : Exit → Act → World → Prop) (φ : Nat → Value → World → Prop) (G : (Nat → Value) → World → Prop) (R : World → World → Prop) (a0 : Act) : Nat → List Oper → Prop
  | _, [] => True
  | i, o :: r => OpOkS P ops Q φ G R a0 i o ∧ OpsOkS P ops Q φ G R a0 (i + 1) r
theorem OpsOkS.nil {φ : Nat → Value → World → Prop} {G : (Nat → Value) → World → Prop} {R : World → World → Prop} {a0 : Act} {i : Nat} : OpsOkS P ops Q φ G R a0 i [] := trivial
theorem OpsOkS.cons {φ : Nat → Value → World → Prop} {G : (Nat → Value) → World → Prop} {R : World → World → Prop} {a0 : Act} {i : Nat} {o : Oper} {r : List Oper} (h : OpOkS P ops Q φ G R a0 i o) (hr : OpsOkS P ops Q φ G R a0 (i + 1) r) : OpsOkS P ops Q φ G R a0 i (o :: r) := ⟨h, hr⟩
theorem OpsOkS.at_ {φ : Nat → Value → World → Prop} {G : (Nat → Value) → World → Prop} {R : World → World → Prop} {a0 : Act} : ∀ (l : List Oper) (i j : Nat) (o : Oper), OpsOkS P ops Q φ G R a0 i l → l[j]? = some o → OpOkS P ops Q φ G R a0 (i + j) o
  | [], _, _, _, _, h => by simp at h
  | o :: r, i, 0, o', h, hj => by
    obtain rfl : o = o' := by simpa using hj
    exact h.1
  | o :: r, i, j + 1, o', h, hj => by
    have := OpsOkS.at_ r (i + 1) j o' h.2 (by simpa using hj)
    rwa [show i + 1 + j = i + (j + 1) by omega] at this
/-- THE LAW. -/
theorem region_st {id : Nat} {a0 : Act} {w : World} (φ : Nat → Value → World → Prop) (G : (Nat → Value) → World → Prop) (R : World → World → Prop) (hm : P.follows .mixedOrders = true) (hf : forwards ops = true) (hsl : slotsOk ops a0.tmps.size = true)
    (hR : ∀ j v w w', φ j v w → R w w' → φ j v w') (hG : G (vals ops a0) w.drew) (hops : OpsOkS P ops Q φ G R a0 0 ops.toList)
    (hend : ∀ a w', G (vals ops a) w' → a.defers = a0.defers → a.tmps.size = a0.tmps.size → (∀ j, (ops[j]?).isSome = true → φ j (vals ops a j) w') → (∀ t, (ops.all fun o => o.dst != some t) = true → a.tmps.getD t undef = a0.tmps.getD t undef) → Q .normal a w') :
    (Code.region id ops true).wp P Q a0 w := by
  refine wp_region_any hm ?_
  have h0 : KnownS ops φ G a0 (Array.replicate ops.size false) a0 w.drew :=
    ⟨hG, rfl, rfl, fun i o _ h => by
      exfalso
      simp [Array.getD] at h, fun _ _ => rfl, fun t _ => rfl⟩
  refine wpAny_inv (fun listed a w => KnownS ops φ G a0 listed a w) ?_ ?_ ops.size (Array.replicate ops.size false) a0 w.drew (by simp) ?_ h0
  · intro i listed a w hs hI hi
    obtain ⟨hun, o, ho, hall⟩ := mem_ready.1 hi
    have hok := OpsOkS.at_ ops.toList 0 i o hops (by simpa using ho)
    rw [Nat.zero_add] at hok
    have hil : i < listed.size := by have := (Array.getElem?_eq_some_iff.1 ho).1; omega
    have hunf : listed.getD i false = false := by simpa [Array.getD, hil] using hun
    have hsl' : slotsOk ops a.tmps.size = true := by rw [hI.size]; exact hsl
    have hgo := hok a w (fun a' w' => KnownS ops φ G a0 (listed.setIfInBounds i true) a' w') hI.g
      (fun j he hj => by
        obtain ⟨e, he1, he2⟩ := Array.any_eq_true'.1 he
        simp only [Bool.and_eq_true, beq_iff_eq] at he2
        obtain ⟨oj, hoj⟩ := Option.isSome_iff_exists.1 hj
        exact hI.done j oj hoj (by have := hall e he1 he2.2; rwa [he2.1] at this))
      hI.old hI.size (hI.fresh i hunf)
      (fun v w' hv hg' hr => by
        refine ⟨by rw [vals_put hsl' ho]; exact hg', ?_, ?_, ?_, ?_, ?_⟩
        · cases hd : o.dst <;> simpa [Act.put] using hI.defers
        · cases hd : o.dst <;> simpa [Act.put] using hI.size
        · intro j oj hoj hlj
          by_cases hij : i = j
          · subst hij
            rw [vals_same hsl' ho]
            exact hv
          · have hl : listed.getD j false = true := by rw [getD_set_ne false hij] at hlj; exact hlj
            rw [vals_other hsl' ho (Ne.symm hij)]
            exact hR j _ _ _ (hI.done j oj hoj hl) hr
        · intro k hk
          have hki : k ≠ i := fun e => by
            subst e
            simp [Array.getD, hil] at hk
          rw [vals_other hsl' ho hki]
          exact hI.fresh k (by rwa [getD_set_ne false (Ne.symm hki)] at hk)
        · intro t ht
          have e : (a.put o.dst v).tmps.getD t undef = a.tmps.getD t undef := by
            cases hd : o.dst with
            | none => rfl
            | some u =>
              have hne : u ≠ t := fun e => by
                have := Array.all_eq_true'.1 ht o (Array.mem_of_getElem? ho)
                rw [hd, e] at this
                simp at this
              simp only [Act.put]
              rw [Array.getD_eq_getD_getElem?, Array.getD_eq_getD_getElem?, Array.getElem?_setIfInBounds, if_neg hne]
          rw [e]
          exact hI.old t ht)
    unfold wpOp
    rw [ho]
    by_cases hw : Region.wanted o (yielded ops a.tmps) = true
    · rw [if_pos hw] at hgo
      simp only [hw, if_true]
      exact .inl hgo
    · rw [if_neg hw] at hgo
      simp only [hw]
      exact hgo
  · intro listed a w hs hI hr
    have hal := all_listed hf hs hr
    refine hend a w hI.g hI.defers hI.size (fun j hj => ?_) hI.old
    obtain ⟨oj, hoj⟩ := Option.isSome_iff_exists.1 hj
    exact hI.done j oj hoj (hal j (Array.getElem?_eq_some_iff.1 hoj).1)
  · unfold toCome
    have := List.countP_le_length (p := fun b => !b) (l := (Array.replicate ops.size false).toList)
    simpa using this

end
end
section
section
variable {P : Program} {ops : Array Oper} {Q : Exit → Act → World → Prop}
theorem skip_op {o : Oper} {a : Act} {w : World} {K : Act → World → Prop} {j : Nat} {b c : Bool} (hg : o.guard = some (j, b)) (h : vals ops a j = .bool c) (hne : c ≠ b) (hK : K (a.put o.dst undef) w) :
    if Region.wanted o (yielded ops a.tmps) = true then o.wp P a w K Q else K (a.put o.dst undef) w := by
  have hw : Region.wanted o (yielded ops a.tmps) = false := by
    unfold Region.wanted
    rw [hg]
    simp [yielded_of h, hne]
  rw [hw]
  exact hK
theorem yielded_undef {a : Act} {j : Nat} (h : vals ops a j = undef) : yielded ops a.tmps j = none := by
  unfold vals at h
  unfold yielded
  cases hj : (ops[j]?).bind (·.dst) with
  | none => rfl
  | some t =>
    rw [hj] at h
    simp only [Option.bind_some]
    simp only [Array.getD_eq_getD_getElem?] at h
    cases ht : a.tmps[t]? with
    | none => rfl
    | some v =>
      rw [ht] at h
      simp only [Option.getD_some] at h
      rw [h]
      rfl
/-- One whose guard wasn't wanted itself. -/
theorem skip_undef {o : Oper} {a : Act} {w : World} {K : Act → World → Prop} {j : Nat} {b : Bool} (hg : o.guard = some (j, b)) (h : vals ops a j = undef) (hK : K (a.put o.dst undef) w) :
    if Region.wanted o (yielded ops a.tmps) = true then o.wp P a w K Q else K (a.put o.dst undef) w := by
  have hw : Region.wanted o (yielded ops a.tmps) = false := by
    unfold Region.wanted
    rw [hg]
    simp [yielded_undef h]
  rw [hw]
  exact hK
end
end
section
section
variable {P : Program} {ops : Array Oper} {Q : Exit → Act → World → Prop}
theorem put_getD (a : Act) (t u : Tmp) (v : Value) : (a.put (some t) v).tmps.getD u undef = if t = u ∧ u < a.tmps.size then v else a.tmps.getD u undef := by
  simp only [Act.put]
  rw [Array.getD_eq_getD_getElem?, Array.getD_eq_getD_getElem?, Array.getElem?_setIfInBounds]
  by_cases h : t = u
  · subst h
    rw [if_pos rfl]
    by_cases hs : t < a.tmps.size
    · rw [if_pos hs, if_pos ⟨rfl, hs⟩]; rfl
    · have e : a.tmps[t]? = none := Array.getElem?_eq_none (Nat.not_lt.1 hs)
      rw [if_neg hs, if_neg fun h => hs h.2, e]
  · rw [if_neg h, if_neg fun h' => h h'.1]
theorem act_ext {a b : Act} (hd : a.defers = b.defers) (hs : a.tmps.size = b.tmps.size) (h : ∀ t, a.tmps.getD t undef = b.tmps.getD t undef) : a = b := by
  obtain ⟨ta, da⟩ := a
  obtain ⟨tb, db⟩ := b
  simp only at hd hs h
  subst hd
  congr 1
  refine Array.ext hs fun i h1 h2 => ?_
  have := h i
  simpa [Array.getD, h1, h2] using this
/-- a0 with each of these slots written. -/
def putAll (a : Act) : List (Tmp × Value) → Act
  | [] => a
  | p :: r => putAll (a.put (some p.1) p.2) r
theorem putAll_defers (l : List (Tmp × Value)) : ∀ a : Act, (putAll a l).defers = a.defers := by
  induction l with
  | nil => intro a; rfl
  | cons p r ih => intro a; exact (ih _).trans rfl
theorem putAll_size (l : List (Tmp × Value)) : ∀ a : Act, (putAll a l).tmps.size = a.tmps.size := by
  induction l with
  | nil => intro a; rfl
  | cons p r ih => intro a; exact (ih _).trans (by simp [Act.put])
theorem putAll_out (l : List (Tmp × Value)) : ∀ (a : Act) (t : Tmp), (∀ p ∈ l, p.1 ≠ t) → (putAll a l).tmps.getD t undef = a.tmps.getD t undef := by
  induction l with
  | nil => intro a t _; rfl
  | cons p r ih =>
    intro a t h
    rw [putAll, ih _ t fun q hq => h q (by simp [hq]), put_getD, if_neg fun h' => h p (by simp) h'.1]
theorem putAll_in (l : List (Tmp × Value)) : ∀ (a : Act) (f : Tmp → Value), (∀ p ∈ l, p.2 = f p.1 ∧ p.1 < a.tmps.size) → ∀ p ∈ l, (putAll a l).tmps.getD p.1 undef = f p.1 := by
  induction l with
  | nil => intro a f _ p hp; cases hp
  | cons q r ih =>
    intro a f h p hp
    rw [putAll]
    by_cases hr : p ∈ r
    · exact ih _ f (fun x hx => ⟨(h x (by simp [hx])).1, by have := (h x (by simp [hx])).2; simpa [Act.put] using this⟩) p hr
    · obtain rfl : p = q := by simpa [hr] using hp
      by_cases hq : ∃ x ∈ r, x.1 = p.1
      · obtain ⟨x, hx, e⟩ := hq
        rw [← e]
        exact ih _ f (fun y hy => ⟨(h y (by simp [hy])).1, by have := (h y (by simp [hy])).2; simpa [Act.put] using this⟩) x hx
      · rw [putAll_out r _ p.1 fun x hx e => hq ⟨x, hx, e⟩, put_getD, if_pos ⟨rfl, (h p (by simp)).2⟩]
        exact (h p (by simp)).1
/-- Each slot of the region is in the list. -/
def covers (ops : Array Oper) (ts : List Tmp) : Bool := ops.all fun o => (o.dst.map fun t => ts.contains t).getD true
/-- THE FRAME behind a drawn region. -/
theorem act_puts {a a0 : Act} (l : List (Tmp × Value)) (ts : List Tmp) (hts : l.map Prod.fst = ts) (hc : covers ops ts = true) (hlt : ts.all (fun t => decide (t < a0.tmps.size)) = true) (hd : a.defers = a0.defers) (hs : a.tmps.size = a0.tmps.size)
    (hin : ∀ p ∈ l, a.tmps.getD p.1 undef = p.2) (hold : ∀ t, (ops.all fun o => o.dst != some t) = true → a.tmps.getD t undef = a0.tmps.getD t undef) : a = putAll a0 l := by
  refine act_ext (hd.trans (putAll_defers l a0).symm) (hs.trans (putAll_size l a0).symm) fun t => ?_
  by_cases ht : ∃ p ∈ l, p.1 = t
  · obtain ⟨p, hp, rfl⟩ := ht
    rw [putAll_in l a0 (fun t => a.tmps.getD t undef) (fun q hq => ⟨(hin q hq).symm, ?_⟩) p hp]
    have : q.1 ∈ ts := by rw [← hts]; exact List.mem_map_of_mem hq
    simpa using List.all_eq_true.1 hlt q.1 this
  · rw [putAll_out l a0 t fun p hp e => ht ⟨p, hp, e⟩]
    refine hold t (Array.all_eq_true'.2 fun o ho => ?_)
    have h1 := Array.all_eq_true'.1 hc o ho
    cases hdst : o.dst with
    | none => rfl
    | some u =>
      rw [hdst] at h1
      have h2 : u ∈ ts := by simpa using h1
      rw [← hts] at h2
      obtain ⟨p, hp, e⟩ := List.mem_map.1 h2
      simp only [bne_iff_ne, ne_eq, Option.some.injEq]
      intro e'
      exact ht ⟨p, hp, e.trans e'⟩
end
end
end Go.Proofs.Ytljlmaddbpihnaa
