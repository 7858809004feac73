/- The reference's Name: just the names that may be. -/
import Derived.Test.YtfboilbmehcgoaaDoorMA
import Derived.Deep.CutRange
import Derived.Deep.CutBlock
import Derived.WalkKit
import Derived.WalkSpells
import Derived.WalkLawsBesides
import Derived.IntWalk
import Derived.Lib.Hide
import Derived.Outline
import Derived.Deep.QuietTactic
import Derived.BigQuiet
import Derived.OwnWalk
import Derived.Below
import Derived.Maps.AppendAt
import Derived.Test.YtfboilbmehcgoaaDoorProg
import Derived.RegionTactic
import Derived.Orders
import Derived.OrdersIn
import Derived.RangeFuncCalls
import Derived.StillTail
import Derived.Lib.Bytealg
import Derived.Laws.AppendOwnNone
import Derived.WalkMore
import Derived.LoopTactic
import Derived.Deep.RegionHeld3
namespace Go.Proofs.YtfboilbmehcgoaaDoor
open Go.RowKit Go.Lib

theorem letB_test (x : Nat) (b : UInt8) (hb : b.toNat = x) : ((decide ((x : Int) < 97) || decide ((122 : Int) < x)) && (decide ((x : Int) < 48) || decide ((57 : Int) < x)) && !((x : Int) == 46) && !((x : Int) == 95) && !((x : Int) == 45)) = !letB b := by
  unfold letB
  rw [hb, Bool.eq_iff_iff]
  simp
  omega

set_option maxRecDepth 100000 in
theorem name_any (s : ByteArray) (w : World) : Calls Tryd.prog 71 #[.string s] w fun e w' => e = .returned (.bool (mayL s.data.toList)) ∧ w' = w := by
  by_cases h1 : (s.size : Int) < 1
  · rw [mayL_short h1]
    have d1 : decide ((s.size : Int) < 1) = true := decide_eq_true h1
    go_enter Tryd.func71, Tryd.ntmps71
    go_wp2_with fail
    go_ret
    exact ⟨rfl, rfl⟩
  have d1 : decide ((s.size : Int) < 1) = false := decide_eq_false h1
  by_cases h2 : (8 : Int) < s.size
  · rw [mayL_long h2]
    have d2 : decide ((8 : Int) < s.size) = true := decide_eq_true h2
    go_enter Tryd.func71, Tryd.ntmps71
    go_wp2_with fail
    go_ret
    exact ⟨rfl, rfl⟩
  have d2 : decide ((8 : Int) < s.size) = false := decide_eq_false h2
  by_cases h3 : s.data.toList = [46]
  · have e : mayL s.data.toList = false := by rw [h3]; rfl
    rw [e]
    have d3 : (s.toList == [46]) = true := by rw [dot_eq]; exact decide_eq_true h3
    clear h3 e
    go_enter Tryd.func71, Tryd.ntmps71
    go_wp2_with fail
    go_ret
    exact ⟨rfl, rfl⟩
  have d3 : (s.toList == [46]) = false := by rw [dot_eq]; exact decide_eq_false h3
  by_cases h4 : s.data.toList = [46, 46]
  · have e : mayL s.data.toList = false := by rw [h4]; rfl
    rw [e]
    have d4 : (s.toList == [46, 46]) = true := by rw [dot_eq]; exact decide_eq_true h4
    clear h3 h4 e
    go_enter Tryd.func71, Tryd.ntmps71
    go_wp2_with fail
    go_ret
    exact ⟨rfl, rfl⟩
  have d4 : (s.toList == [46, 46]) = false := by rw [dot_eq]; exact decide_eq_false h4
  rw [mayL_all h1 h2 h3 h4]
  have hs8 : s.size ≤ 8 := by omega
  obtain ⟨R, hR⟩ : ∃ R, s.data.toList.all letB = R := ⟨_, rfl⟩
  rw [hR]
  replace hR := Lib.hid hR
  clear h3 h4
  go_enter Tryd.func71, Tryd.ntmps71
  go_wp2_with fail
  go_loopw [3, 4, 23] (fun _ _ v23 wx => ∃ k : Nat, v23 = .int .i64 k ∧ k ≤ s.size ∧ wx = w ∧ Hid (∀ i (hi : i < s.size), i < k → letB (s[i]'hi) = true)) (fun _ _ v23 _ => s.size - (RowKit.intOf v23).toNat)
  case atStart => exact ⟨0, rfl, Nat.zero_le _, rfl, Lib.hid fun i _ h => absurd h (Nat.not_lt_zero i)⟩
  case round =>
    obtain ⟨k, rfl, hk, rfl, HL⟩ := hrel
    by_cases hkl : k < s.size
    · have d5 : decide ((k : Int) < (s.size : Int)) = true := decide_eq_true (by omega)
      have hix : ∀ w : World, (Instr.index 9 (.string s) (.int .i64 (k : Nat))).run Tryd.prog w = .ok (.int .u8 (s[k]'hkl).toNat) w := fun w => by
        rw [run_index_string w 9 s .i64 (k : Nat) Tryd.underlying9, dif_pos ⟨by omega, by omega⟩]
        rfl
      have hlt := (s[k]'hkl).toNat_lt
      obtain ⟨x, hx⟩ : ∃ x, (s[k]'hkl).toNat = x := ⟨_, rfl⟩
      have ht := letB_test x _ hx
      rw [hx] at hix hlt
      clear hx
      obtain ⟨B, hB⟩ : ∃ B, letB (s[k]'hkl) = B := ⟨_, rfl⟩
      rw [hB] at ht
      replace hB := Lib.hid hB
      go_upto_region 7 with fail
      go_cut [54] from 29 to 53 (fun v54 wx => v54 = .bool (!B) ∧ wx = wr)
      case first => as_aux_lemma =>
        have hcs : x < 45 ∨ x = 45 ∨ x = 46 ∨ x = 47 ∨ (48 ≤ x ∧ x ≤ 57) ∨ (58 ≤ x ∧ x ≤ 94) ∨ x = 95 ∨ x = 96 ∨ (97 ≤ x ∧ x ≤ 122) ∨ 123 ≤ x := by omega
        rcases hcs with h | h | h | h | h | h | h | h | h | h
        all_goals
          (first | have b1 : decide ((x : Int) < 97) = true := decide_eq_true (by omega) | have b1 : decide ((x : Int) < 97) = false := decide_eq_false (by omega))
          (first | have b2 : decide ((122 : Int) < (x : Int)) = true := decide_eq_true (by omega) | have b2 : decide ((122 : Int) < (x : Int)) = false := decide_eq_false (by omega))
          (first | have b3 : decide ((x : Int) < 48) = true := decide_eq_true (by omega) | have b3 : decide ((x : Int) < 48) = false := decide_eq_false (by omega))
          (first | have b4 : decide ((57 : Int) < (x : Int)) = true := decide_eq_true (by omega) | have b4 : decide ((57 : Int) < (x : Int)) = false := decide_eq_false (by omega))
          (first | have b5 : ((x : Int) == 46) = true := by rw [beq_iff_eq]; omega | have b5 : ((x : Int) == 46) = false := by rw [beq_eq_false_iff_ne]; omega)
          (first | have n5 : ((x : Int) != 46) = false := by rw [bne, b5]; rfl | have n5 : ((x : Int) != 46) = true := by rw [bne, b5]; rfl)
          (first | have b6 : ((x : Int) == 95) = true := by rw [beq_iff_eq]; omega | have b6 : ((x : Int) == 95) = false := by rw [beq_eq_false_iff_ne]; omega)
          (first | have n6 : ((x : Int) != 95) = false := by rw [bne, b6]; rfl | have n6 : ((x : Int) != 95) = true := by rw [bne, b6]; rfl)
          (first | have b7 : ((x : Int) == 45) = true := by rw [beq_iff_eq]; omega | have b7 : ((x : Int) == 45) = false := by rw [beq_eq_false_iff_ne]; omega)
          (first | have n7 : ((x : Int) != 45) = false := by rw [bne, b7]; rfl | have n7 : ((x : Int) != 45) = true := by rw [bne, b7]; rfl)
          have ht2 := ht
          rw [b1, b2, b3, b4, b5, b6, b7] at ht2
          replace ht2 := Lib.hid ht2
          clear h ht hlt
          go_wp2_with fail
          go_meet
          case rel => exact ⟨by rw [← ht2.out]; rfl, rfl⟩
      case rest =>
        obtain ⟨rfl, rfl⟩ := hcut
        clear ht
        cases B with
        | true =>
          go_wp2_with fail
          go_roundw
          case rel =>
            refine ⟨k + 1, rfl, by omega, by first | rfl | trivial, Lib.hid fun i hi hlt => ?_⟩
            by_cases e : i = k
            · subst e; exact hB.out
            · exact HL.out i hi (by omega)
          case measure =>
            simp [RowKit.intOf]
            omega
        | false =>
          have hF : R = false := by rw [← hR.out]; exact all_until hkl hB.out
          subst hF
          go_wp2_with fail
          go_ret
          exact ⟨rfl, rfl⟩
    · have d5 : decide ((k : Int) < (s.size : Int)) = false := decide_eq_false (by omega)
      have hT : R = true := by rw [← hR.out]; exact all_done fun i hi => HL.out i hi (by omega)
      subst hT
      go_wp2_with fail
      go_ret
      exact ⟨rfl, rfl⟩
end Go.Proofs.YtfboilbmehcgoaaDoor

/- What all texts of package place stand on: small words on results, rows and memory; what a call turned. Of no program. -/
namespace Go.Proofs.YtfboilbmehcgoaaDoor
open Go.RowKit

theorem ret_int {k : IntKind} {a b : Int} (h : a = b) : Ending.returned (.int k a) = .returned (.int k b) := by rw [h]
theorem ret_bool {a b : Bool} (h : a = b) : Ending.returned (.bool a) = .returned (.bool b) := by rw [h]
theorem block_add (a : Addr) (n : Nat) : (a.add n).block = a.block := by unfold Addr.add; split <;> rfl
theorem add_add (a : Addr) (i j : Nat) : (a.add i).add j = a.add (i + j) := by
  unfold Addr.add
  by_cases hi : i = 0 <;> by_cases hj : j = 0 <;> simp [hi, hj, Nat.add_assoc]
theorem lt_size {w : World} {p : Nat} {o : Obj} (h : w.heap[p]? = some o) : p < w.heap.size := (Array.getElem?_eq_some_iff.1 h).1

theorem own_slice {W : World} {b : Nat} {e : TypeId} {size : Nat} {v : Value} {k : Nat} {xs : List Value} (h : W.ownsRow b e size v k xs) : ∃ p cap, v = .slice p k cap ∧ k ≤ cap := by
  rcases h.2 with ⟨rfl, rfl⟩ | ⟨g, cap, cur, rfl, _, _, h1, _⟩
  · exact ⟨_, _, rfl, Nat.le_refl _⟩
  · exact ⟨_, _, rfl, h1⟩
/-- What is owned stays owned where its block stays. -/
theorem own_keep {w w' : World} {base n : Nat} {e : TypeId} {size : Nat} {v : Value} {xs : List Value} (h : w.ownsRow base e size v n xs) (hk : ∀ g, v.ownBlock = some g → w'.heap[g]? = w.heap[g]?) : w'.ownsRow base e size v n xs := by
  refine ⟨h.1, ?_⟩
  rcases h.2 with h0 | ⟨g, cap, cur, hv, hb, hg, h1⟩
  · exact .inl h0
  · exact .inr ⟨g, cap, cur, hv, hb, (hk g (by rw [hv]; rfl)).trans hg, h1⟩
theorem drewN_below {B : Nat} {w w' : World} (h : Below B w w') (n : Nat) : Below B w (w'.drewN n) := ⟨h.os, h.tape, h.output, h.size, h.block⟩

/-- What a call turned: blocks of F alone, and new ones. -/
structure Turned (F : Nat → Prop) (w w' : World) : Prop where
  os : w'.os = w.os
  tape : w'.tape = w.tape
  output : w'.output = w.output
  size : w.heap.size ≤ w'.heap.size
  block : ∀ i, i < w.heap.size → ¬ F i → w'.heap[i]? = w.heap[i]?
theorem Turned.refl (F : Nat → Prop) (w : World) : Turned F w w := ⟨rfl, rfl, rfl, Nat.le_refl _, fun _ _ _ => rfl⟩
theorem Turned.of_below {F : Nat → Prop} {w w' : World} (h : Below w.heap.size w w') : Turned F w w' := ⟨h.os, h.tape, h.output, h.size, fun i hi _ => h.block i hi⟩
theorem Turned.trans {F G : Nat → Prop} {a b c : World} (h : Turned F a b) (k : Turned G b c) (hG : ∀ i, i < a.heap.size → G i → F i) : Turned F a c :=
  ⟨k.os.trans h.os, k.tape.trans h.tape, k.output.trans h.output, Nat.le_trans h.size k.size, fun i hi hF => (k.block i (Nat.lt_of_lt_of_le hi h.size) fun g => hF (hG i hi g)).trans (h.block i hi hF)⟩
theorem Turned.setCell {F : Nat → Prop} {a b : World} (h : Turned F a b) {p : Addr} (hp : p.block < a.heap.size → F p.block) (u : Value) : Turned F a (b.setCell p u) :=
  ⟨h.os, h.tape, h.output, by simpa using h.size, fun i hi hF => (Below.heap_setCell b p u i (fun e => hF (by subst e; exact hp hi))).trans (h.block i hi hF)⟩
theorem Turned.alloc {F : Nat → Prop} {a b : World} (h : Turned F a b) (o : Obj) : Turned F a (b.alloc o) :=
  h.trans (G := F) (.of_below ((Below.refl _ _).alloc (Nat.le_refl _) o)) fun _ _ g => g
theorem Turned.drew {F : Nat → Prop} {a b : World} (h : Turned F a b) : Turned F a b.drew := h.trans (G := F) (.of_below (Below.refl _ _).drew) fun _ _ g => g

/-- What a call turned: nothing that is safe. -/
abbrev Safe (x : Nat → Prop) (w w' : World) : Prop := Turned (fun b => ¬ x b) w w'
section
variable {w w' : World} {x y : Nat → Prop}
theorem Safe.block (h : Safe x w w') {b : Nat} (hb : b < w.heap.size) (hx : x b) : w'.heap[b]? = w.heap[b]? := Turned.block h b hb fun k => k hx
theorem Safe.below {B : Nat} (h : Safe x w w') (hx : ∀ b, b < B → x b) (hB : B ≤ w.heap.size) : Below B w w' := ⟨h.os, h.tape, h.output, h.size, fun i hi => Safe.block h (Nat.lt_of_lt_of_le hi hB) (hx i hi)⟩
theorem safe_of_below (hb : Below w.heap.size w w') : Safe x w w' := .of_below hb
theorem Safe.then {w'' : World} (h : Safe x w w') (k : Safe x w' w'') : Safe x w w'' := Turned.trans h k fun _ _ e => e
theorem Safe.then' {w'' : World} (h : Safe x w w') (k : Safe y w' w'') (hy : ∀ b, b < w.heap.size → x b → y b) : Safe x w w'' := Turned.trans h k fun b hb e hx => e (hy b hb hx)
end
end Go.Proofs.YtfboilbmehcgoaaDoor

/- Drawn regions by one look at each operation (in a round; with calls that turn a state), and the frame behind one: of no program, no conditions. -/
namespace Go.Proofs.YtfboilbmehcgoaaDoor
open Go.RowKit
theorem wide_depthR (k : Nat) : Fence.wide.depth.isSome = true → 1 ≤ k := fun h => by cases h
section
section
variable {P : Program} {ops : Array Oper} {Q : Exit → Act → World → Prop}

/-- How many have not come up yet. -/
def toCome (listed : Array Bool) : Nat := listed.toList.countP (fun b => !b)
theorem toCome_set {listed : Array Bool} {i : Nat} (h : listed.getD i true = false) : toCome (listed.setIfInBounds i true) + 1 ≤ toCome listed := by
  have hi : i < listed.size := by
    rcases Nat.lt_or_ge i listed.size with h' | h'
    · exact h'
    · simp [Array.getD, Nat.not_lt.2 h'] at h
  have he : listed.toList[i]'(by simpa using hi) = false := by simpa [Array.getD, hi] using h
  unfold toCome
  rw [Array.toList_setIfInBounds, List.countP_set (by simpa using hi), he]
  have : 0 < listed.toList.countP (fun b => !b) := List.countP_pos_iff.2 ⟨_, List.getElem_mem (by simpa using hi), by rw [he]; rfl⟩
  rw [if_pos (show (!false) = true from rfl), if_neg (show ¬ (!true) = true by decide)]
  omega
theorem toCome_none {listed : Array Bool} (h : toCome listed = 0) (i : Nat) : listed.getD i true = true := by
  unfold toCome at h
  rcases Nat.lt_or_ge i listed.size with h' | h'
  · have := List.countP_eq_zero.1 h (listed[i]) (by simp)
    simpa [Array.getD, h'] using this
  · simp [Array.getD, Nat.not_lt.2 h']
/-- Whatever order is drawn, a word of the state that each operation hands on is handed on to the end. -/
theorem wpAnyIn_inv {F : Fence} {n : Nat} {md : Region.Mode} (I : Array Bool → Act → World → Prop)
    (hstep : ∀ i listed a w, listed.size = ops.size → I listed a w → i ∈ Region.ready md ops listed → wpOpIn F n P ops Q i (fun a' w' => I (listed.setIfInBounds i true) a' w') a w)
    (hend : ∀ listed a w, listed.size = ops.size → I listed a w → Region.ready md ops listed = [] → Q .normal a w) :
    ∀ (fuel : Nat) (listed : Array Bool) (a : Act) (w : World), listed.size = ops.size → toCome listed ≤ fuel → I listed a w → wpAnyIn F n P md ops Q fuel listed a w := by
  intro fuel
  induction fuel with
  | zero =>
    intro listed a w hs hc hI
    have hr : Region.ready md ops listed = [] := by
      rw [List.eq_nil_iff_forall_not_mem]
      intro i hi
      have h1 := (mem_ready.1 hi).1
      rw [toCome_none (by omega) i] at h1
      cases h1
    exact ⟨hr, hend _ _ _ hs hI hr⟩
  | succ fuel ih =>
    intro listed a w hs hc hI
    refine ⟨hend _ _ _ hs hI, fun i hi => ?_⟩
    refine wpOpIn_mono (fun a' w' h' => ih _ a' w' (by simpa using hs) ?_ h') (hstep i listed a w hs hI hi)
    have := toCome_set (mem_ready.1 hi).1
    omega

/-- Each operation waits for earlier ones alone. -/
def forwards (ops : Array Oper) : Bool := (List.range ops.size).all fun i => ((ops[i]?).map fun o => o.after.all fun e => decide (e.on < i)).getD true
theorem all_listed {md : Region.Mode} (hf : forwards ops = true) {listed : Array Bool} (hs : listed.size = ops.size) (hr : Region.ready md ops listed = []) : ∀ i, i < ops.size → listed.getD i false = true := by
  intro i
  induction i using Nat.strongRecOn with
  | ind i ih =>
    intro hi
    have ho : ops[i]? = some ops[i] := Array.getElem?_eq_getElem hi
    have hfi := (List.all_eq_true.1 hf) i (List.mem_range.2 hi)
    rw [ho] at hfi
    simp only [Option.map_some, Option.getD_some, Array.all_eq_true_iff_forall_mem, decide_eq_true_eq] at hfi
    cases hg : listed.getD i true with
    | true =>
      have : i < listed.size := by omega
      simpa [Array.getD, this] using hg
    | false =>
      have hm : i ∈ Region.ready md ops listed := mem_ready.2 ⟨hg, _, ho, fun e he _ => ih e.on (hfi e he) (by have := hfi e he; omega)⟩
      rw [hr] at hm
      cases hm

/-- No two operations write one slot, and each slot is there. -/
def slotsOk (ops : Array Oper) (n : Nat) : Bool :=
  (List.range ops.size).all fun i => ((ops[i]?).bind (·.dst)).all fun t => decide (t < n) && (List.range ops.size).all fun j => decide (i = j) || ((ops[j]?).bind (·.dst)) != some t
theorem slotsOk_lt {n : Nat} (h : slotsOk ops n = true) {i : Nat} {o : Oper} {t : Tmp} (ho : ops[i]? = some o) (ht : o.dst = some t) : t < n := by
  have hi : i < ops.size := (Array.getElem?_eq_some_iff.1 ho).1
  have := (List.all_eq_true.1 h) i (List.mem_range.2 hi)
  rw [ho] at this
  simp [ht] at this
  exact this.1
theorem slotsOk_ne {n : Nat} (h : slotsOk ops n = true) {i j : Nat} {o o' : Oper} {t : Tmp} (ho : ops[i]? = some o) (ht : o.dst = some t) (ho' : ops[j]? = some o') (hij : i ≠ j) : o'.dst ≠ some t := by
  have hi : i < ops.size := (Array.getElem?_eq_some_iff.1 ho).1
  have hj : j < ops.size := (Array.getElem?_eq_some_iff.1 ho').1
  have := (List.all_eq_true.1 h) i (List.mem_range.2 hi)
  rw [ho] at this
  simp only [Option.bind_some, ht, Option.all_some, Bool.and_eq_true, List.all_eq_true, List.mem_range] at this
  have h2 := this.2 j hj
  rw [ho'] at h2
  simpa [hij] using h2

/-- What the operations have yielded: by their numbers. -/
def vals (ops : Array Oper) (a : Act) (k : Nat) : Value := match (ops[k]?).bind (·.dst) with
  | some t => a.tmps.getD t undef
  | none => undef
def told (o : Oper) (v : Value) : Value := if o.dst.isSome = true then v else undef
/-- What is known of a state: of each operation that has come up what it yields; the other slots are as they were. -/
structure Known (ops : Array Oper) (φ : Nat → Value → World → Prop) (G : World → Prop) (a0 : Act) (listed : Array Bool) (a : Act) (w : World) : Prop where
  g : G w
  defers : a.defers = a0.defers
  size : a.tmps.size = a0.tmps.size
  done : ∀ i o, ops[i]? = some o → listed.getD i false = true → φ i (vals ops a i) w
  old : ∀ t, (ops.all fun o => o.dst != some t) = true → a.tmps.getD t undef = a0.tmps.getD t undef
/-- What is asked of one operation: in whatever state in which those that it waits for have come up. -/
def OpOk (P : Program) (ops : Array Oper) (Q : Exit → Act → World → Prop) (φ : Nat → Value → World → Prop) (G : World → Prop) (R : World → World → Prop) (a0 : Act) (i : Nat) (o : Oper) : Prop :=
  ∀ (a : Act) (w : World) (K : Act → World → Prop), G w →
    (∀ j, (o.after.any fun e => e.on == j && Region.binds .any e) = true → (ops[j]?).isSome = true → φ j (vals ops a j) w) →
    (∀ t, (ops.all fun o => o.dst != some t) = true → a.tmps.getD t undef = a0.tmps.getD t undef) →
    a.tmps.size = a0.tmps.size →
    (∀ v w', φ i (told o v) w' → G w' → R w w' → K (a.put o.dst v) w') →
    if Region.wanted o (yielded ops a.tmps) = true then o.wp P a w K Q else K (a.put o.dst undef) w
def OpsOk (P : Program) (ops : Array Oper) (Q : Exit → Act → World → Prop) (φ : Nat → Value → World → Prop) (G : World → Prop) (R : World → World → Prop) (a0 : Act) : Nat → List Oper → Prop
  | _, [] => True
  | i, o :: r => OpOk P ops Q φ G R a0 i o ∧ OpsOk P ops Q φ G R a0 (i + 1) r
theorem OpsOk.nil {φ : Nat → Value → World → Prop} {G : World → Prop} {R : World → World → Prop} {a0 : Act} {i : Nat} : OpsOk P ops Q φ G R a0 i [] := trivial
theorem OpsOk.cons {φ : Nat → Value → World → Prop} {G : World → Prop} {R : World → World → Prop} {a0 : Act} {i : Nat} {o : Oper} {r : List Oper} (h : OpOk P ops Q φ G R a0 i o) (hr : OpsOk P ops Q φ G R a0 (i + 1) r) : OpsOk P ops Q φ G R a0 i (o :: r) := ⟨h, hr⟩
theorem OpsOk.at_ {φ : Nat → Value → World → Prop} {G : World → Prop} {R : World → World → Prop} {a0 : Act} : ∀ (l : List Oper) (i j : Nat) (o : Oper), OpsOk P ops Q φ G R a0 i l → l[j]? = some o → OpOk P ops Q φ G R a0 (i + j) o
  | [], _, _, _, _, h => by simp at h
  | o :: r, i, 0, o', h, hj => by
    obtain rfl : o = o' := by simpa using hj
    exact h.1
  | o :: r, i, j + 1, o', h, hj => by
    have := OpsOk.at_ r (i + 1) j o' h.2 (by simpa using hj)
    rwa [show i + 1 + j = i + (j + 1) by omega] at this
theorem vals_same {a : Act} {i : Nat} {o : Oper} {v : Value} (hsl : slotsOk ops a.tmps.size = true) (ho : ops[i]? = some o) : vals ops (a.put o.dst v) i = told o v := by
  unfold vals told
  rw [ho]
  simp only [Option.bind_some]
  cases hd : o.dst with
  | none => rfl
  | some t =>
    have := slotsOk_lt hsl ho hd
    simp [Act.put, Array.getD, this]
theorem vals_other {a : Act} {i k : Nat} {o : Oper} {v : Value} (hsl : slotsOk ops a.tmps.size = true) (ho : ops[i]? = some o) (hk : k ≠ i) : vals ops (a.put o.dst v) k = vals ops a k := by
  unfold vals
  cases hok : ops[k]? with
  | none => rfl
  | some ok =>
    simp only [Option.bind_some]
    cases ht : ok.dst with
    | none => rfl
    | some t =>
      cases hd : o.dst with
      | none => rfl
      | some u =>
        have hne : u ≠ t := fun e => slotsOk_ne hsl hok ht ho hk (by rw [hd, e])
        simp only [Act.put]
        rw [Array.getD_eq_getD_getElem?, Array.getD_eq_getD_getElem?, Array.getElem?_setIfInBounds, if_neg hne]

/-- An operation that is no defer runs in a round as it runs elsewhere. -/
theorem op_in_round {l n : Nat} {o : Oper} {a : Act} {w : World} {K : Act → World → Prop} (hnd : ∀ c : Call, o.op ≠ .defer c) (h : o.wp P a w K Q) : o.wpIn (Fence.wide.inRound l) n P a w K Q := by
  refine ⟨fun _ _ => trivial, ?_⟩
  rw [Oper.semAt_eq _ _ _ hnd]
  unfold Oper.wp at h
  revert h
  generalize (execOp a.eval o).run P w = r
  intro h
  match r, h with
  | .ok (.value v) w', h => exact h
  | .ok .skip w', h => exact h
  | .ok (.defer d) w', h => exact h
  | .ok (.enter f args) w', h => exact ⟨wide_depthR _, callsIn_wide.2 h⟩
  | .ok (.row row args) w', h => exact ⟨wide_depthR _, fun c cs _ => let ⟨v, w', r, s⟩ := h c cs; ⟨v, w', r, stepsIn_wide.2 s⟩⟩
  | .halt (.panic v) w', h => exact h

/-- No operation defers. -/
def noDefer (ops : Array Oper) : Bool := ops.toList.all fun o => match o.op with | .defer _ => false | _ => true
theorem noDefer_at (h : noDefer ops = true) {o : Oper} (ho : o ∈ ops.toList) (c : Call) : o.op ≠ .defer c := fun e => by
  have := List.all_eq_true.1 h o ho
  rw [e] at this
  cases this
/-- THE LAW. -/
theorem region_inv_in {l n : Nat} {id : Nat} {a0 : Act} {w : World} (φ : Nat → Value → World → Prop) (G : World → Prop) (R : World → World → Prop) (hm : P.follows .mixedOrders = true) (hf : forwards ops = true) (hsl : slotsOk ops a0.tmps.size = true)
    (hnd : noDefer ops = true)
    (hR : ∀ j v w w', φ j v w → R w w' → φ j v w') (hG : G w.drew) (hops : OpsOk P ops Q φ G R a0 0 ops.toList)
    (hend : ∀ a w', G w' → a.defers = a0.defers → a.tmps.size = a0.tmps.size → (∀ j, (ops[j]?).isSome = true → φ j (vals ops a j) w') → (∀ t, (ops.all fun o => o.dst != some t) = true → a.tmps.getD t undef = a0.tmps.getD t undef) → Q .normal a w') :
    (Code.region id ops true).wpIn (Fence.wide.inRound l) n P Q a0 w := by
  refine wpIn_region_any hm ?_
  have h0 : Known ops φ G a0 (Array.replicate ops.size false) a0 w.drew :=
    ⟨hG, rfl, rfl, fun i o _ h => by
      exfalso
      simp [Array.getD] at h, fun t _ => rfl⟩
  refine wpAnyIn_inv (fun listed a w => Known ops φ G a0 listed a w) ?_ ?_ ops.size (Array.replicate ops.size false) a0 w.drew (by simp) ?_ h0
  · intro i listed a w hs hI hi
    obtain ⟨hun, o, ho, hall⟩ := mem_ready.1 hi
    have hok := OpsOk.at_ ops.toList 0 i o hops (by simpa using ho)
    rw [Nat.zero_add] at hok
    have hmem : o ∈ ops.toList := by simpa using Array.mem_of_getElem? ho
    have hsl' : slotsOk ops a.tmps.size = true := by rw [hI.size]; exact hsl
    have hgo := hok a w (fun a' w' => Known ops φ G a0 (listed.setIfInBounds i true) a' w') hI.g
      (fun j he hj => by
        obtain ⟨e, he1, he2⟩ := Array.any_eq_true'.1 he
        simp only [Bool.and_eq_true, beq_iff_eq] at he2
        obtain ⟨oj, hoj⟩ := Option.isSome_iff_exists.1 hj
        exact hI.done j oj hoj (by have := hall e he1 he2.2; rwa [he2.1] at this))
      hI.old hI.size
      (fun v w' hv hg' hr => by
        refine ⟨hg', ?_, ?_, ?_, ?_⟩
        · cases hd : o.dst <;> simpa [Act.put] using hI.defers
        · cases hd : o.dst <;> simpa [Act.put] using hI.size
        · intro j oj hoj hlj
          by_cases hij : i = j
          · subst hij
            rw [vals_same hsl' ho]
            exact hv
          · have hl : listed.getD j false = true := by rw [getD_set_ne false hij] at hlj; exact hlj
            rw [vals_other hsl' ho (Ne.symm hij)]
            exact hR j _ _ _ (hI.done j oj hoj hl) hr
        · intro t ht
          have e : (a.put o.dst v).tmps.getD t undef = a.tmps.getD t undef := by
            cases hd : o.dst with
            | none => rfl
            | some u =>
              have hne : u ≠ t := fun e => by
                have := Array.all_eq_true'.1 ht o (Array.mem_of_getElem? ho)
                rw [hd, e] at this
                simp at this
              simp only [Act.put]
              rw [Array.getD_eq_getD_getElem?, Array.getD_eq_getD_getElem?, Array.getElem?_setIfInBounds, if_neg hne]
          rw [e]
          exact hI.old t ht)
    unfold wpOpIn
    rw [ho]
    by_cases hw : Region.wanted o (yielded ops a.tmps) = true
    · rw [if_pos hw] at hgo
      simp only [hw, if_true]
      exact op_in_round (noDefer_at hnd hmem) hgo
    · rw [if_neg hw] at hgo
      simp only [hw]
      exact ⟨fun _ _ => trivial, hgo⟩
  · intro listed a w hs hI hr
    have hal := all_listed hf hs hr
    refine hend a w hI.g hI.defers hI.size (fun j hj => ?_) hI.old
    obtain ⟨oj, hoj⟩ := Option.isSome_iff_exists.1 hj
    exact hI.done j oj hoj (hal j (Array.getElem?_eq_some_iff.1 hoj).1)
  · unfold toCome
    have := List.countP_le_length (p := fun b => !b) (l := (Array.replicate ops.size false).toList)
    simpa using this

/-! ### An operation of such a region -/
theorem op_value {o : Oper} {a : Act} {w w' : World} {K : Act → World → Prop} {E : Prop} {v : Value} (hw : Region.wanted o (yielded ops a.tmps) = true) (hr : (execOp a.eval o).run P w = .ok (.value v) w') (h : K (a.put o.dst v) w') :
    if Region.wanted o (yielded ops a.tmps) = true then o.wp P a w K Q else E := by
  rw [if_pos hw]
  unfold Oper.wp
  rw [hr]
  exact h
theorem op_call {o : Oper} {a : Act} {w : World} {K : Act → World → Prop} {E : Prop} {f : FuncId} {args : Array Value} (hw : Region.wanted o (yielded ops a.tmps) = true) (hr : (execOp a.eval o).run P w = .ok (.enter f args) w)
    (h : Calls P f args w fun e w' => ∃ v, e = .returned v ∧ K (a.put o.dst v) w') : if Region.wanted o (yielded ops a.tmps) = true then o.wp P a w K Q else E := by
  rw [if_pos hw]
  unfold Oper.wp
  rw [hr]
  refine h.mono ?_
  rintro e w' ⟨v, rfl, hk⟩
  exact hk
theorem yielded_of {a : Act} {j : Nat} {b : Bool} (h : vals ops a j = .bool b) : yielded ops a.tmps j = some b := by
  unfold vals at h
  unfold yielded
  cases hj : (ops[j]?).bind (·.dst) with
  | none => rw [hj] at h; cases h
  | some t =>
    rw [hj] at h
    simp only [Option.bind_some]
    simp only [Array.getD_eq_getD_getElem?] at h
    cases ht : a.tmps[t]? with
    | none => rw [ht] at h; cases h
    | some v =>
      rw [ht] at h
      simp only [Option.getD_some] at h
      rw [h]
theorem wanted_of {o : Oper} {a : Act} {j : Nat} {b : Bool} (hg : o.guard = some (j, b)) (h : vals ops a j = .bool b) : Region.wanted o (yielded ops a.tmps) = true := by
  unfold Region.wanted
  rw [hg]
  simp [yielded_of h]
theorem wanted_none {o : Oper} {a : Act} (hg : o.guard = none) : Region.wanted o (yielded ops a.tmps) = true := by
  unfold Region.wanted
  rw [hg]
end
end
section

section
variable {P : Program} {ops : Array Oper} {Q : Exit → Act → World → Prop}
/-- Whatever order is drawn, a word of the state that each operation hands on is handed on to the end. -/
theorem wpAny_inv {md : Region.Mode} (I : Array Bool → Act → World → Prop)
    (hstep : ∀ i listed a w, listed.size = ops.size → I listed a w → i ∈ Region.ready md ops listed → wpOp P ops Q i (fun a' w' => I (listed.setIfInBounds i true) a' w') a w)
    (hend : ∀ listed a w, listed.size = ops.size → I listed a w → Region.ready md ops listed = [] → Q .normal a w) :
    ∀ (fuel : Nat) (listed : Array Bool) (a : Act) (w : World), listed.size = ops.size → toCome listed ≤ fuel → I listed a w → wpAny P md ops Q fuel listed a w := by
  intro fuel
  induction fuel with
  | zero =>
    intro listed a w hs hc hI
    have hr : Region.ready md ops listed = [] := by
      rw [List.eq_nil_iff_forall_not_mem]
      intro i hi
      have h1 := (mem_ready.1 hi).1
      rw [toCome_none (by omega) i] at h1
      cases h1
    exact ⟨hr, hend _ _ _ hs hI hr⟩
  | succ fuel ih =>
    intro listed a w hs hc hI
    refine ⟨hend _ _ _ hs hI, fun i hi => ?_⟩
    refine wpOp_mono (fun a' w' h' => ih _ a' w' (by simpa using hs) ?_ h') (hstep i listed a w hs hI hi)
    have := toCome_set (mem_ready.1 hi).1
    omega

def updv (f : Nat → Value) (i : Nat) (v : Value) : Nat → Value := fun k => if k = i then v else f k
theorem updv_same (f : Nat → Value) (i : Nat) (v : Value) : updv f i v i = v := by simp [updv]
theorem updv_ne (f : Nat → Value) {i k : Nat} (h : k ≠ i) (v : Value) : updv f i v k = f k := by simp [updv, h]
theorem vals_put {a : Act} {i : Nat} {o : Oper} {v : Value} (hsl : slotsOk ops a.tmps.size = true) (ho : ops[i]? = some o) : vals ops (a.put o.dst v) = updv (vals ops a) i (told o v) := by
  funext k
  by_cases hk : k = i
  · subst hk; rw [updv_same, vals_same hsl ho]
  · rw [updv_ne _ hk, vals_other hsl ho hk]
/-- What is known of a state: of each operation that has come up what it yields; the other slots are as they were. -/
structure KnownS (ops : Array Oper) (φ : Nat → Value → World → Prop) (G : (Nat → Value) → World → Prop) (a0 : Act) (listed : Array Bool) (a : Act) (w : World) : Prop where
  g : G (vals ops a) w
  defers : a.defers = a0.defers
  size : a.tmps.size = a0.tmps.size
  done : ∀ i o, ops[i]? = some o → listed.getD i false = true → φ i (vals ops a i) w
  fresh : ∀ i, listed.getD i false = false → vals ops a i = vals ops a0 i
  old : ∀ t, (ops.all fun o => o.dst != some t) = true → a.tmps.getD t undef = a0.tmps.getD t undef
/-- What is asked of one operation: in whatever state in which those that it waits for have come up. -/
def OpOkS (P : Program) (ops : Array Oper) (Q : Exit → Act → World → Prop) (φ : Nat → Value → World → Prop) (G : (Nat → Value) → World → Prop) (R : World → World → Prop) (a0 : Act) (i : Nat) (o : Oper) : Prop :=
  ∀ (a : Act) (w : World) (K : Act → World → Prop), G (vals ops a) w →
    (∀ j, (o.after.any fun e => e.on == j && Region.binds .any e) = true → (ops[j]?).isSome = true → φ j (vals ops a j) w) →
    (∀ t, (ops.all fun o => o.dst != some t) = true → a.tmps.getD t undef = a0.tmps.getD t undef) →
    a.tmps.size = a0.tmps.size →
    vals ops a i = vals ops a0 i →
    (∀ v w', φ i (told o v) w' → G (updv (vals ops a) i (told o v)) w' → R w w' → K (a.put o.dst v) w') →
    if Region.wanted o (yielded ops a.tmps) = true then o.wp P a w K Q else K (a.put o.dst undef) w
def OpsOkS (P : Program) (ops : Array Oper) (Q : Exit → Act → World → Prop) (φ : Nat → Value → World → Prop) (G : (Nat → Value) → World → Prop) (R : World → World → Prop) (a0 : Act) : Nat → List Oper → Prop
  | _, [] => True
  | i, o :: r => OpOkS P ops Q φ G R a0 i o ∧ OpsOkS P ops Q φ G R a0 (i + 1) r
theorem OpsOkS.nil {φ : Nat → Value → World → Prop} {G : (Nat → Value) → World → Prop} {R : World → World → Prop} {a0 : Act} {i : Nat} : OpsOkS P ops Q φ G R a0 i [] := trivial
theorem OpsOkS.cons {φ : Nat → Value → World → Prop} {G : (Nat → Value) → World → Prop} {R : World → World → Prop} {a0 : Act} {i : Nat} {o : Oper} {r : List Oper} (h : OpOkS P ops Q φ G R a0 i o) (hr : OpsOkS P ops Q φ G R a0 (i + 1) r) : OpsOkS P ops Q φ G R a0 i (o :: r) := ⟨h, hr⟩
theorem OpsOkS.at_ {φ : Nat → Value → World → Prop} {G : (Nat → Value) → World → Prop} {R : World → World → Prop} {a0 : Act} : ∀ (l : List Oper) (i j : Nat) (o : Oper), OpsOkS P ops Q φ G R a0 i l → l[j]? = some o → OpOkS P ops Q φ G R a0 (i + j) o
  | [], _, _, _, _, h => by simp at h
  | o :: r, i, 0, o', h, hj => by
    obtain rfl : o = o' := by simpa using hj
    exact h.1
  | o :: r, i, j + 1, o', h, hj => by
    have := OpsOkS.at_ r (i + 1) j o' h.2 (by simpa using hj)
    rwa [show i + 1 + j = i + (j + 1) by omega] at this
/-- THE LAW. -/
theorem region_st {id : Nat} {a0 : Act} {w : World} (φ : Nat → Value → World → Prop) (G : (Nat → Value) → World → Prop) (R : World → World → Prop) (hm : P.follows .mixedOrders = true) (hf : forwards ops = true) (hsl : slotsOk ops a0.tmps.size = true)
    (hR : ∀ j v w w', φ j v w → R w w' → φ j v w') (hG : G (vals ops a0) w.drew) (hops : OpsOkS P ops Q φ G R a0 0 ops.toList)
    (hend : ∀ a w', G (vals ops a) w' → a.defers = a0.defers → a.tmps.size = a0.tmps.size → (∀ j, (ops[j]?).isSome = true → φ j (vals ops a j) w') → (∀ t, (ops.all fun o => o.dst != some t) = true → a.tmps.getD t undef = a0.tmps.getD t undef) → Q .normal a w') :
    (Code.region id ops true).wp P Q a0 w := by
  refine wp_region_any hm ?_
  have h0 : KnownS ops φ G a0 (Array.replicate ops.size false) a0 w.drew :=
    ⟨hG, rfl, rfl, fun i o _ h => by
      exfalso
      simp [Array.getD] at h, fun _ _ => rfl, fun t _ => rfl⟩
  refine wpAny_inv (fun listed a w => KnownS ops φ G a0 listed a w) ?_ ?_ ops.size (Array.replicate ops.size false) a0 w.drew (by simp) ?_ h0
  · intro i listed a w hs hI hi
    obtain ⟨hun, o, ho, hall⟩ := mem_ready.1 hi
    have hok := OpsOkS.at_ ops.toList 0 i o hops (by simpa using ho)
    rw [Nat.zero_add] at hok
    have hil : i < listed.size := by have := (Array.getElem?_eq_some_iff.1 ho).1; omega
    have hunf : listed.getD i false = false := by simpa [Array.getD, hil] using hun
    have hsl' : slotsOk ops a.tmps.size = true := by rw [hI.size]; exact hsl
    have hgo := hok a w (fun a' w' => KnownS ops φ G a0 (listed.setIfInBounds i true) a' w') hI.g
      (fun j he hj => by
        obtain ⟨e, he1, he2⟩ := Array.any_eq_true'.1 he
        simp only [Bool.and_eq_true, beq_iff_eq] at he2
        obtain ⟨oj, hoj⟩ := Option.isSome_iff_exists.1 hj
        exact hI.done j oj hoj (by have := hall e he1 he2.2; rwa [he2.1] at this))
      hI.old hI.size (hI.fresh i hunf)
      (fun v w' hv hg' hr => by
        refine ⟨by rw [vals_put hsl' ho]; exact hg', ?_, ?_, ?_, ?_, ?_⟩
        · cases hd : o.dst <;> simpa [Act.put] using hI.defers
        · cases hd : o.dst <;> simpa [Act.put] using hI.size
        · intro j oj hoj hlj
          by_cases hij : i = j
          · subst hij
            rw [vals_same hsl' ho]
            exact hv
          · have hl : listed.getD j false = true := by rw [getD_set_ne false hij] at hlj; exact hlj
            rw [vals_other hsl' ho (Ne.symm hij)]
            exact hR j _ _ _ (hI.done j oj hoj hl) hr
        · intro k hk
          have hki : k ≠ i := fun e => by
            subst e
            simp [Array.getD, hil] at hk
          rw [vals_other hsl' ho hki]
          exact hI.fresh k (by rwa [getD_set_ne false (Ne.symm hki)] at hk)
        · intro t ht
          have e : (a.put o.dst v).tmps.getD t undef = a.tmps.getD t undef := by
            cases hd : o.dst with
            | none => rfl
            | some u =>
              have hne : u ≠ t := fun e => by
                have := Array.all_eq_true'.1 ht o (Array.mem_of_getElem? ho)
                rw [hd, e] at this
                simp at this
              simp only [Act.put]
              rw [Array.getD_eq_getD_getElem?, Array.getD_eq_getD_getElem?, Array.getElem?_setIfInBounds, if_neg hne]
          rw [e]
          exact hI.old t ht)
    unfold wpOp
    rw [ho]
    by_cases hw : Region.wanted o (yielded ops a.tmps) = true
    · rw [if_pos hw] at hgo
      simp only [hw, if_true]
      exact .inl hgo
    · rw [if_neg hw] at hgo
      simp only [hw]
      exact hgo
  · intro listed a w hs hI hr
    have hal := all_listed hf hs hr
    refine hend a w hI.g hI.defers hI.size (fun j hj => ?_) hI.old
    obtain ⟨oj, hoj⟩ := Option.isSome_iff_exists.1 hj
    exact hI.done j oj hoj (hal j (Array.getElem?_eq_some_iff.1 hoj).1)
  · unfold toCome
    have := List.countP_le_length (p := fun b => !b) (l := (Array.replicate ops.size false).toList)
    simpa using this

end
end
section
section
variable {P : Program} {ops : Array Oper} {Q : Exit → Act → World → Prop}
theorem skip_op {o : Oper} {a : Act} {w : World} {K : Act → World → Prop} {j : Nat} {b c : Bool} (hg : o.guard = some (j, b)) (h : vals ops a j = .bool c) (hne : c ≠ b) (hK : K (a.put o.dst undef) w) :
    if Region.wanted o (yielded ops a.tmps) = true then o.wp P a w K Q else K (a.put o.dst undef) w := by
  have hw : Region.wanted o (yielded ops a.tmps) = false := by
    unfold Region.wanted
    rw [hg]
    simp [yielded_of h, hne]
  rw [hw]
  exact hK
theorem yielded_undef {a : Act} {j : Nat} (h : vals ops a j = undef) : yielded ops a.tmps j = none := by
  unfold vals at h
  unfold yielded
  cases hj : (ops[j]?).bind (·.dst) with
  | none => rfl
  | some t =>
    rw [hj] at h
    simp only [Option.bind_some]
    simp only [Array.getD_eq_getD_getElem?] at h
    cases ht : a.tmps[t]? with
    | none => rfl
    | some v =>
      rw [ht] at h
      simp only [Option.getD_some] at h
      rw [h]
      rfl
/-- One whose guard wasn't wanted itself. -/
theorem skip_undef {o : Oper} {a : Act} {w : World} {K : Act → World → Prop} {j : Nat} {b : Bool} (hg : o.guard = some (j, b)) (h : vals ops a j = undef) (hK : K (a.put o.dst undef) w) :
    if Region.wanted o (yielded ops a.tmps) = true then o.wp P a w K Q else K (a.put o.dst undef) w := by
  have hw : Region.wanted o (yielded ops a.tmps) = false := by
    unfold Region.wanted
    rw [hg]
    simp [yielded_undef h]
  rw [hw]
  exact hK
end
end
section
section
variable {P : Program} {ops : Array Oper} {Q : Exit → Act → World → Prop}
theorem put_getD (a : Act) (t u : Tmp) (v : Value) : (a.put (some t) v).tmps.getD u undef = if t = u ∧ u < a.tmps.size then v else a.tmps.getD u undef := by
  simp only [Act.put]
  rw [Array.getD_eq_getD_getElem?, Array.getD_eq_getD_getElem?, Array.getElem?_setIfInBounds]
  by_cases h : t = u
  · subst h
    rw [if_pos rfl]
    by_cases hs : t < a.tmps.size
    · rw [if_pos hs, if_pos ⟨rfl, hs⟩]; rfl
    · have e : a.tmps[t]? = none := Array.getElem?_eq_none (Nat.not_lt.1 hs)
      rw [if_neg hs, if_neg fun h => hs h.2, e]
  · rw [if_neg h, if_neg fun h' => h h'.1]
theorem act_ext {a b : Act} (hd : a.defers = b.defers) (hs : a.tmps.size = b.tmps.size) (h : ∀ t, a.tmps.getD t undef = b.tmps.getD t undef) : a = b := by
  obtain ⟨ta, da⟩ := a
  obtain ⟨tb, db⟩ := b
  simp only at hd hs h
  subst hd
  congr 1
  refine Array.ext hs fun i h1 h2 => ?_
  have := h i
  simpa [Array.getD, h1, h2] using this
/-- a0 with each of these slots written. -/
def putAll (a : Act) : List (Tmp × Value) → Act
  | [] => a
  | p :: r => putAll (a.put (some p.1) p.2) r
theorem putAll_defers (l : List (Tmp × Value)) : ∀ a : Act, (putAll a l).defers = a.defers := by
  induction l with
  | nil => intro a; rfl
  | cons p r ih => intro a; exact (ih _).trans rfl
theorem putAll_size (l : List (Tmp × Value)) : ∀ a : Act, (putAll a l).tmps.size = a.tmps.size := by
  induction l with
  | nil => intro a; rfl
  | cons p r ih => intro a; exact (ih _).trans (by simp [Act.put])
theorem putAll_out (l : List (Tmp × Value)) : ∀ (a : Act) (t : Tmp), (∀ p ∈ l, p.1 ≠ t) → (putAll a l).tmps.getD t undef = a.tmps.getD t undef := by
  induction l with
  | nil => intro a t _; rfl
  | cons p r ih =>
    intro a t h
    rw [putAll, ih _ t fun q hq => h q (by simp [hq]), put_getD, if_neg fun h' => h p (by simp) h'.1]
theorem putAll_in (l : List (Tmp × Value)) : ∀ (a : Act) (f : Tmp → Value), (∀ p ∈ l, p.2 = f p.1 ∧ p.1 < a.tmps.size) → ∀ p ∈ l, (putAll a l).tmps.getD p.1 undef = f p.1 := by
  induction l with
  | nil => intro a f _ p hp; cases hp
  | cons q r ih =>
    intro a f h p hp
    rw [putAll]
    by_cases hr : p ∈ r
    · exact ih _ f (fun x hx => ⟨(h x (by simp [hx])).1, by have := (h x (by simp [hx])).2; simpa [Act.put] using this⟩) p hr
    · obtain rfl : p = q := by simpa [hr] using hp
      by_cases hq : ∃ x ∈ r, x.1 = p.1
      · obtain ⟨x, hx, e⟩ := hq
        rw [← e]
        exact ih _ f (fun y hy => ⟨(h y (by simp [hy])).1, by have := (h y (by simp [hy])).2; simpa [Act.put] using this⟩) x hx
      · rw [putAll_out r _ p.1 fun x hx e => hq ⟨x, hx, e⟩, put_getD, if_pos ⟨rfl, (h p (by simp)).2⟩]
        exact (h p (by simp)).1
/-- Each slot of the region is in the list. -/
def covers (ops : Array Oper) (ts : List Tmp) : Bool := ops.all fun o => (o.dst.map fun t => ts.contains t).getD true
/-- THE FRAME behind a drawn region. -/
theorem act_puts {a a0 : Act} (l : List (Tmp × Value)) (ts : List Tmp) (hts : l.map Prod.fst = ts) (hc : covers ops ts = true) (hlt : ts.all (fun t => decide (t < a0.tmps.size)) = true) (hd : a.defers = a0.defers) (hs : a.tmps.size = a0.tmps.size)
    (hin : ∀ p ∈ l, a.tmps.getD p.1 undef = p.2) (hold : ∀ t, (ops.all fun o => o.dst != some t) = true → a.tmps.getD t undef = a0.tmps.getD t undef) : a = putAll a0 l := by
  refine act_ext (hd.trans (putAll_defers l a0).symm) (hs.trans (putAll_size l a0).symm) fun t => ?_
  by_cases ht : ∃ p ∈ l, p.1 = t
  · obtain ⟨p, hp, rfl⟩ := ht
    rw [putAll_in l a0 (fun t => a.tmps.getD t undef) (fun q hq => ⟨(hin q hq).symm, ?_⟩) p hp]
    have : q.1 ∈ ts := by rw [← hts]; exact List.mem_map_of_mem hq
    simpa using List.all_eq_true.1 hlt q.1 this
  · rw [putAll_out l a0 t fun p hp e => ht ⟨p, hp, e⟩]
    refine hold t (Array.all_eq_true'.2 fun o ho => ?_)
    have h1 := Array.all_eq_true'.1 hc o ho
    cases hdst : o.dst with
    | none => rfl
    | some u =>
      rw [hdst] at h1
      have h2 : u ∈ ts := by simpa using h1
      rw [← hts] at h2
      obtain ⟨p, hp, e⟩ := List.mem_map.1 h2
      simp only [bne_iff_ne, ne_eq, Option.some.injEq]
      intro e'
      exact ht ⟨p, hp, e.trans e'⟩
end
end
end Go.Proofs.YtfboilbmehcgoaaDoor

/- A region that draws its order and ends in operations that wait for all ahead of them, one behind the other (stores of an assignment): those ahead are each looked at once (region_st), the end is walked as it stands. Of no program, no conditions. -/
namespace Go.Proofs.YtfboilbmehcgoaaDoor
open Go.RowKit

section
variable {P : Program} {ops : Array Oper} {Q : Exit → Act → World → Prop}
theorem region_tail {id : Nat} {a0 : Act} {w : World} (n : Nat) (φ : Nat → Value → World → Prop) (G : (Nat → Value) → World → Prop) (R : World → World → Prop) (hm : P.follows .mixedOrders = true) (hf : forwards ops = true) (hsl : slotsOk ops a0.tmps.size = true)
    (hn : decide (n < ops.size) = true) (hsk : Region.sinkB .any ops n = true) (hch : Region.chainB .any ops n = true)
    (hR : ∀ j v w w', φ j v w → R w w' → φ j v w') (hG : G (vals ops a0) w.drew) (hops : OpsOkS P ops Q φ G R a0 0 (ops.toList.take n))
    (hend : ∀ a w', G (vals ops a) w' → a.defers = a0.defers → a.tmps.size = a0.tmps.size → (∀ j, j < n → φ j (vals ops a j) w') → (∀ t, ((ops.toList.take n).toArray.all fun o => o.dst != some t) = true → a.tmps.getD t undef = a0.tmps.getD t undef) → wpList P ops Q (ops.toList.drop n) a w') :
    (Code.region id ops true).wp P Q a0 w := by
  have hn' : n < ops.size := of_decide_eq_true hn
  refine wp_region_any hm ?_
  have h0 : KnownS ops φ G a0 (Array.replicate ops.size false) a0 w.drew :=
    ⟨hG, rfl, rfl, fun i o _ h => by
      exfalso
      simp [Array.getD] at h, fun _ _ => rfl, fun t _ => rfl⟩
  have hh0 : HeadInv .any ops n (Array.replicate ops.size false) :=
    ⟨by simp, (fun j oj _ h => by rw [getD_replicate_false] at h; cases h), fun t _ ht => by simp [Array.getD, ht]⟩
  have hlist : ∀ (m : Nat) (o : Oper), ops[m]? = some o → ops.toList.drop m = o :: ops.toList.drop (m + 1) := fun m o ho => by
    have hl : m < ops.toList.length := by simpa using (Array.getElem?_eq_some_iff.1 ho).1
    rw [List.drop_eq_getElem_cons hl]
    obtain ⟨h1, h2⟩ := Array.getElem?_eq_some_iff.1 ho
    rw [← h2]; simp
  have hstep : ∀ (m : Nat) (o : Oper) (a : Act) (w : World), ops[m]? = some o → wpList P ops Q (ops.toList.drop m) a w → wpOp P ops Q m (wpList P ops Q (ops.toList.drop (m + 1))) a w := fun m o a w ho h => by
    rw [hlist m o ho] at h
    unfold wpOp; simp only [ho]; exact h
  refine wpAny_inv (fun listed a w => (KnownS ops φ G a0 listed a w ∧ HeadInv .any ops n listed) ∨ ∃ m, n ≤ m ∧ m ≤ ops.size ∧ (∀ t, t < m → listed.getD t false = true) ∧ (∀ t, m ≤ t → t < ops.size → listed.getD t true = false) ∧ wpList P ops Q (ops.toList.drop m) a w) ?_ ?_ ops.size (Array.replicate ops.size false) a0 w.drew (by simp) ?_ (.inl ⟨h0, hh0⟩)
  · intro i listed a w hs hI0 hi
    obtain ⟨hun, o, ho, hall⟩ := mem_ready.1 hi
    have hisz : i < ops.size := (Array.getElem?_eq_some_iff.1 ho).1
    have hone : ∀ m, (∀ t, m ≤ t → t < ops.size → listed.getD t true = false) → n ≤ m → m ≤ i → i = m := fun m hm' hnm hmi => by
      rcases Nat.lt_or_ge m i with h | h
      · exfalso
        have h1 := List.all_eq_true.1 hch i (List.mem_range.2 hisz)
        simp only [Bool.or_eq_true, decide_eq_true_eq] at h1
        rcases h1 with h1 | h1
        · omega
        · obtain ⟨o', ho', e, he, hb, hon⟩ := Region.waitsFor_spec h1
          have : o' = o := Option.some.inj (ho'.symm.trans ho)
          subst this
          have h2 := hall e he hb
          rw [hon, getD_both (hm' (i - 1) (by omega) (by omega))] at h2
          cases h2
      · omega
    have hnext : ∀ m, i = m → n ≤ m → (∀ t, t < m → listed.getD t false = true) → (∀ t, m ≤ t → t < ops.size → listed.getD t true = false) → wpList P ops Q (ops.toList.drop m) a w → wpOp P ops Q i (fun a' w' => (KnownS ops φ G a0 (listed.setIfInBounds i true) a' w' ∧ HeadInv .any ops n (listed.setIfInBounds i true)) ∨ ∃ m, n ≤ m ∧ m ≤ ops.size ∧ (∀ t, t < m → (listed.setIfInBounds i true).getD t false = true) ∧ (∀ t, m ≤ t → t < ops.size → (listed.setIfInBounds i true).getD t true = false) ∧ wpList P ops Q (ops.toList.drop m) a' w') a w := fun m hm' hnm hbe ht hw => by
      subst hm'
      refine wpOp_mono (fun a' w' h' => .inr ⟨i + 1, by omega, by omega, fun t h1 => ?_, fun t h1 h2 => ?_, h'⟩) (hstep i o a w ho hw)
      · by_cases e : i = t
        · subst e; simp [Array.getD, show i < listed.size by omega]
        · rw [getD_set_ne false e]; exact hbe t (by omega)
      rw [getD_set_ne true (by omega)]
      exact ht t (by omega) h2
    rcases hI0 with ⟨hI, hH⟩ | ⟨m, hnm, hm1, hbe, hm2, hw⟩
    · by_cases hin : i < n
      · have hok := OpsOkS.at_ (ops.toList.take n) 0 i o hops (by rw [List.getElem?_take, if_pos hin]; simpa using ho)
        rw [Nat.zero_add] at hok
        have hil : i < listed.size := by have := (Array.getElem?_eq_some_iff.1 ho).1; omega
        have hunf : listed.getD i false = false := by simpa [Array.getD, hil] using hun
        have hsl' : slotsOk ops a.tmps.size = true := by rw [hI.size]; exact hsl
        have hgo := hok a w (fun a' w' => (KnownS ops φ G a0 (listed.setIfInBounds i true) a' w' ∧ HeadInv .any ops n (listed.setIfInBounds i true)) ∨ ∃ m, n ≤ m ∧ m ≤ ops.size ∧ (∀ t, t < m → (listed.setIfInBounds i true).getD t false = true) ∧ (∀ t, m ≤ t → t < ops.size → (listed.setIfInBounds i true).getD t true = false) ∧ wpList P ops Q (ops.toList.drop m) a' w') hI.g
          (fun j he hj => by
            obtain ⟨e, he1, he2⟩ := Array.any_eq_true'.1 he
            simp only [Bool.and_eq_true, beq_iff_eq] at he2
            obtain ⟨oj, hoj⟩ := Option.isSome_iff_exists.1 hj
            exact hI.done j oj hoj (by have := hall e he1 he2.2; rwa [he2.1] at this))
          hI.old hI.size (hI.fresh i hunf)
          (fun v w' hv hg' hr => by
            refine .inl ⟨⟨by rw [vals_put hsl' ho]; exact hg', ?_, ?_, ?_, ?_, ?_⟩, hH.set hi hin⟩
            · cases hd : o.dst <;> simpa [Act.put] using hI.defers
            · cases hd : o.dst <;> simpa [Act.put] using hI.size
            · intro j oj hoj hlj
              by_cases hij : i = j
              · subst hij
                rw [vals_same hsl' ho]
                exact hv
              · have hl : listed.getD j false = true := by rw [getD_set_ne false hij] at hlj; exact hlj
                rw [vals_other hsl' ho (Ne.symm hij)]
                exact hR j _ _ _ (hI.done j oj hoj hl) hr
            · intro k hk
              have hki : k ≠ i := fun e => by
                subst e
                simp [Array.getD, hil] at hk
              rw [vals_other hsl' ho hki]
              exact hI.fresh k (by rwa [getD_set_ne false (Ne.symm hki)] at hk)
            · intro t ht
              have e : (a.put o.dst v).tmps.getD t undef = a.tmps.getD t undef := by
                cases hd : o.dst with
                | none => rfl
                | some u =>
                  have hne : u ≠ t := fun e => by
                    have := Array.all_eq_true'.1 ht o (Array.mem_of_getElem? ho)
                    rw [hd, e] at this
                    simp at this
                  simp only [Act.put]
                  rw [Array.getD_eq_getD_getElem?, Array.getD_eq_getD_getElem?, Array.getElem?_setIfInBounds, if_neg hne]
              rw [e]
              exact hI.old t ht)
        unfold wpOp
        rw [ho]
        by_cases hw : Region.wanted o (yielded ops a.tmps) = true
        · rw [if_pos hw] at hgo
          simp only [hw, if_true]
          exact .inl hgo
        · rw [if_neg hw] at hgo
          simp only [hw]
          exact hgo
      · have hfront : ∀ j, j < n → listed.getD j false = true := fun j hj => by
          cases h : listed.getD j false with
          | true => rfl
          | false => exact absurd hi (tail_waits hsk hch hn' hH _ j rfl hj (getD_in (by rw [hH.size]; omega) h) i (by omega))
        have hin2 := hone n hH.tail (Nat.le_refl _) (by omega)
        have hold : ∀ t, ((ops.toList.take n).toArray.all fun o => o.dst != some t) = true → a.tmps.getD t undef = a0.tmps.getD t undef := fun t ht => by
          by_cases hall : (ops.all fun o => o.dst != some t) = true
          · exact hI.old t hall
          · have hex : ∃ j, ∃ h : j < ops.size, ops[j].dst = some t := by
              rcases Classical.em (∃ j, ∃ h : j < ops.size, ops[j].dst = some t) with h | h
              · exact h
              · exfalso
                refine hall (Array.all_eq_true.2 fun j hj => ?_)
                have : ops[j].dst ≠ some t := fun e => h ⟨j, hj, e⟩
                simpa using this
            obtain ⟨j, hj, hd⟩ := hex
            have hjn : n ≤ j := by
              rcases Nat.lt_or_ge j n with h | h
              · exfalso
                have h1 := List.all_eq_true.1 (show ((ops.toList.take n).all fun o => o.dst != some t) = true by simpa using ht) ops[j] (by
                  rw [List.mem_take_iff_getElem]
                  exact ⟨j, by simp; omega, by simp⟩)
                rw [hd] at h1
                simp at h1
              · exact h
            have h2 := hI.fresh j (getD_both (hH.tail j hjn hj))
            unfold vals at h2
            rw [Array.getElem?_eq_getElem hj] at h2
            simp only [Option.bind_some, hd] at h2
            exact h2
        refine hnext n hin2 (Nat.le_refl _) hfront hH.tail (hend a w hI.g hI.defers hI.size (fun j hj => ?_) hold)
        obtain ⟨oj, hoj⟩ : ∃ oj, ops[j]? = some oj := ⟨ops[j]'(by omega), Array.getElem?_eq_getElem _⟩
        exact hI.done j oj hoj (hfront j hj)
    · have hmi : m ≤ i := by
        rcases Nat.lt_or_ge i m with h | h
        · have := hbe i h
          rw [getD_both hun] at this
          cases this
        · exact h
      exact hnext m (hone m hm2 hnm hmi) hnm hbe hm2 hw
  · intro listed a w hs hI hr
    have hal := all_listed hf hs hr
    rcases hI with ⟨hI, hH⟩ | ⟨m, hnm, hm1, hbe, hm2, hw⟩
    · have h1 := getD_both (hH.tail n (Nat.le_refl _) hn')
      rw [hal n hn'] at h1
      cases h1
    · have hme : m = ops.size := by
        rcases Nat.lt_or_ge m ops.size with h | h
        · have h1 := getD_both (hm2 m (Nat.le_refl _) h)
          rw [hal m h] at h1
          cases h1
        · omega
      subst hme
      rw [List.drop_eq_nil_of_le (by simp)] at hw
      exact hw
  · unfold toCome
    have := List.countP_le_length (p := fun b => !b) (l := (Array.replicate ops.size false).toList)
    simpa using this
end
/-- A block made since w0, as it was made. -/
structure NewBox (w0 w : World) (p : Nat) (Z : Array Value) (t : TypeId) : Prop where
  new : w0.heap.size ≤ p
  at_ : w.heap[p]? = some (.cells Z t (0, 0))
theorem NewBox.below {w0 w w' : World} {p : Nat} {Z : Array Value} {t : TypeId} (h : NewBox w0 w p Z t) (hb : Below w.heap.size w w') : NewBox w0 w' p Z t :=
  ⟨h.new, (hb.block p (Array.getElem?_eq_some_iff.1 h.at_).1).trans h.at_⟩
/-- The blocks that a value points to (a struct's fields among them). -/
def vblks : Value → List Nat
  | .pointer (some a) => [a.block]
  | .agg xs => xs.toList.filterMap Value.ownBlock
  | v => v.ownBlock.toList
/-- What operations of L yielded points to blocks that are there, each to others. -/
structure Apart2 (L : List Nat) (vs : Nat → Value) (w : World) : Prop where
  lt : ∀ i ∈ L, ∀ b ∈ vblks (vs i), b < w.heap.size
  ne : ∀ i ∈ L, ∀ j ∈ L, i ≠ j → ∀ b ∈ vblks (vs i), b ∉ vblks (vs j)
theorem Apart2.start {L : List Nat} {vs : Nat → Value} {w : World} (h : ∀ i ∈ L, vblks (vs i) = []) : Apart2 L vs w :=
  ⟨(fun i hi b e => by rw [h i hi] at e; cases e), fun i hi _ _ _ b e => by rw [h i hi] at e; cases e⟩
theorem Apart2.keep {L : List Nat} {vs : Nat → Value} {w w' : World} {i : Nat} {v : Value} (h : Apart2 L vs w) (hi : i ∉ L) (hz : w.heap.size ≤ w'.heap.size) : Apart2 L (updv vs i v) w' := by
  have hne : ∀ j ∈ L, updv vs i v j = vs j := fun j hj => updv_ne _ (fun e => hi (by rw [← e]; exact hj)) _
  refine ⟨fun j hj b e => ?_, fun j hj k hk hjk b e => ?_⟩
  · rw [hne j hj] at e
    exact Nat.lt_of_lt_of_le (h.lt j hj b e) hz
  · rw [hne j hj] at e
    rw [hne k hk]
    exact h.ne j hj k hk hjk b e
theorem Apart2.new {L : List Nat} {vs : Nat → Value} {w w' : World} {i : Nat} {v : Value} (h : Apart2 L vs w) (hz : w.heap.size ≤ w'.heap.size) (hv : ∀ b ∈ vblks v, w.heap.size ≤ b ∧ b < w'.heap.size) : Apart2 L (updv vs i v) w' := by
  have key : ∀ j, updv vs i v j = if j = i then v else vs j := fun j => by
    by_cases hj : j = i
    · subst hj; rw [updv_same, if_pos rfl]
    · rw [updv_ne _ hj, if_neg hj]
  refine ⟨fun j hj b e => ?_, fun j hj k hk hjk b e e' => ?_⟩
  · rw [key] at e
    split at e
    · exact (hv b e).2
    · exact Nat.lt_of_lt_of_le (h.lt j hj b e) hz
  · rw [key] at e e'
    split at e
    · next hji =>
      rw [if_neg (fun e => hjk (hji.trans e.symm))] at e'
      have h1 := h.lt k hk b e'
      have h2 := hv b e
      omega
    · split at e'
      · have h1 := h.lt j hj b e
        have h2 := hv b e'
        omega
      · exact h.ne j hj k hk hjk b e e'
theorem Apart2.alloc {L : List Nat} {vs : Nat → Value} {w : World} {i : Nat} (h : Apart2 L vs w) (o : Obj) : Apart2 L (updv vs i (.pointer (some ⟨w.heap.size, 0, none⟩))) (w.alloc o) :=
  h.new (by simp) fun b hb => by
    simp [vblks] at hb
    subst hb
    simp
end Go.Proofs.YtfboilbmehcgoaaDoor

/- Entries of a directory as a list: in the order of their names; where one stands, put in, taken out. -/
namespace Go.Proofs.YtfboilbmehcgoaaDoor
open Go.Lib

abbrev Ent := ByteArray × Int
def ltB (a b : ByteArray) : Bool := decide (a.data.toList < b.data.toList)
theorem byte_ext' {a b : ByteArray} (h : a.data.toList = b.data.toList) : a = b := by
  obtain ⟨⟨la⟩⟩ := a
  obtain ⟨⟨lb⟩⟩ := b
  simp at h
  rw [h]
theorem bytes_lt (x y : List UInt8) : Op.bytesLess x y = decide (x < y) := by
  induction x generalizing y with
  | nil => cases y <;> simp [Op.bytesLess]
  | cons a x ih =>
    cases y with
    | nil => simp [Op.bytesLess]
    | cons b y =>
      rw [Op.bytesLess, ih y, Bool.eq_iff_iff]
      simp [List.cons_lt_cons_iff]
theorem less_ltB (a b : ByteArray) : Op.bytesLess a.toList b.toList = ltB a b := by
  rw [Lib.toList_data, Lib.toList_data, bytes_lt]; rfl
theorem eq_eqB (a b : ByteArray) : (a.toList == b.toList) = decide (a = b) := by
  rw [Lib.toList_data, Lib.toList_data, Bool.eq_iff_iff, beq_iff_eq, decide_eq_true_eq]
  exact ⟨byte_ext', fun e => by rw [e]⟩
theorem ltB_irr (a : ByteArray) : ltB a a = false := by simp [ltB, List.lt_irrefl]
theorem ltB_tr {a b c : ByteArray} (h : ltB a b = true) (k : ltB b c = true) : ltB a c = true := by
  simp only [ltB, decide_eq_true_eq] at *
  exact List.lt_trans h k
theorem ltB_tot {a b : ByteArray} (h : ltB a b = false) (hne : a ≠ b) : ltB b a = true := by
  simp only [ltB, decide_eq_true_eq, decide_eq_false_iff_not, List.not_lt] at *
  rcases Decidable.em (b.data.toList < a.data.toList) with h1 | h1
  · exact h1
  · exact absurd (byte_ext' (List.le_antisymm (List.not_lt.1 h1) h)) hne
theorem ltB_asy {a b : ByteArray} (h : ltB a b = true) : ltB b a = false := by
  cases e : ltB b a with
  | false => rfl
  | true => have := ltB_tr h e; rw [ltB_irr] at this; cases this
theorem ltB_ne {a b : ByteArray} (h : ltB a b = true) : a ≠ b := fun e => by subst e; rw [ltB_irr] at h; cases h
theorem ltB_le_tr {a b c : ByteArray} (h : ltB b a = false) (k : ltB b c = true) : ltB a c = true := by
  by_cases e : a = b
  · rw [e]; exact k
  · exact ltB_tr (ltB_tot h (Ne.symm e)) k

theorem cmp_cases : ∀ a b : List UInt8, compareBytes a b = (if a < b then -1 else if b < a then 1 else 0)
  | [], [] => rfl
  | [], _ :: _ => by simp [compareBytes]
  | _ :: _, [] => by simp [compareBytes]
  | x :: a, y :: b => by
    rw [compareBytes, cmp_cases a b]
    by_cases h1 : x < y
    · have e : x :: a < y :: b := List.cons_lt_cons_iff.2 (.inl h1)
      rw [if_pos h1, if_pos e]
    · by_cases h2 : y < x
      · have hne : x ≠ y := fun e => by subst e; exact h1 h2
        simp [List.cons_lt_cons_iff, h1, h2, hne]
      · have e : x = y := UInt8.le_antisymm (UInt8.not_lt.1 h2) (UInt8.not_lt.1 h1)
        subst e
        simp [h1]
/-- What Compare says of two texts. -/
def cmpB (a b : ByteArray) : Int := compareBytes a.data.toList b.data.toList
theorem cmpB_lt (a b : ByteArray) : decide (cmpB a b < 0) = ltB a b := by
  unfold cmpB ltB
  rw [cmp_cases]
  by_cases h : a.data.toList < b.data.toList
  · simp [h]
  · rw [if_neg h, decide_eq_false h]
    split <;> rfl
theorem cmpB_eq (a b : ByteArray) : (cmpB a b == 0) = decide (a = b) := by
  unfold cmpB
  rw [cmp_cases, Bool.eq_iff_iff, beq_iff_eq, decide_eq_true_eq]
  constructor
  · intro h
    by_cases h1 : a.data.toList < b.data.toList
    · rw [if_pos h1] at h; cases h
    · rw [if_neg h1] at h
      by_cases h2 : b.data.toList < a.data.toList
      · rw [if_pos h2] at h; cases h
      · exact byte_ext' (List.le_antisymm (List.not_lt.1 h2) (List.not_lt.1 h1))
  · rintro rfl
    simp [List.lt_irrefl]

def mayE (e : Ent) : Bool := mayL e.1.data.toList && decide (1 ≤ e.2) && decide (e.2 ≤ 11)
/-- Each ahead of the next. -/
def ris : List Ent → Bool
  | [] => true
  | [_] => true
  | a :: b :: l => ltB a.1 b.1 && ris (b :: l)
def mayEs (l : List Ent) : Bool := decide (l.length ≤ 10) && l.all mayE && ris l
abbrev Ri (l : List Ent) : Prop := l.Pairwise fun a b => ltB a.1 b.1 = true
theorem ris_of : ∀ {l : List Ent}, (∀ i (h : i + 1 < l.length), ltB l[i].1 l[i + 1].1 = true) → ris l = true
  | [], _ => rfl
  | [_], _ => rfl
  | a :: b :: l, h => by
    have h0 : ltB a.1 b.1 = true := h 0 (by simp)
    rw [ris, h0, Bool.true_and]
    exact ris_of fun i hi => h (i + 1) (by simpa using hi)
theorem ris_at : ∀ {l : List Ent} (i : Nat) (h : i + 1 < l.length), ltB l[i].1 l[i + 1].1 = false → ris l = false
  | [], _, h, _ => by simp at h
  | [_], _, h, _ => by simp at h
  | a :: b :: l, 0, _, e => by rw [ris, show ltB a.1 b.1 = false from e]; rfl
  | a :: b :: l, i + 1, h, e => by rw [ris, ris_at (l := b :: l) i (by simpa using h) e, Bool.and_false]
theorem ris_ri : ∀ {l : List Ent}, ris l = true → Ri l
  | [], _ => List.Pairwise.nil
  | [_], _ => List.pairwise_singleton _ _
  | a :: b :: l, h => by
    rw [ris, Bool.and_eq_true] at h
    have ih := ris_ri h.2
    refine List.pairwise_cons.2 ⟨fun x hx => ?_, ih⟩
    rcases List.mem_cons.1 hx with rfl | hx
    · exact h.1
    · exact ltB_tr h.1 ((List.pairwise_cons.1 ih).1 x hx)
theorem ri_ris : ∀ {l : List Ent}, Ri l → ris l = true
  | [], _ => rfl
  | [_], _ => rfl
  | a :: b :: l, h => by
    obtain ⟨h1, h2⟩ := List.pairwise_cons.1 h
    rw [ris, h1 b (List.mem_cons_self ..), ri_ris h2]
    rfl
theorem mayEs_iff {l : List Ent} : mayEs l = true ↔ l.length ≤ 10 ∧ (∀ e ∈ l, mayE e = true) ∧ Ri l := by
  unfold mayEs
  rw [Bool.and_eq_true, Bool.and_eq_true, decide_eq_true_eq, List.all_eq_true]
  exact ⟨fun ⟨⟨h1, h2⟩, h3⟩ => ⟨h1, h2, ris_ri h3⟩, fun ⟨h1, h2, h3⟩ => ⟨⟨h1, h2⟩, ri_ris h3⟩⟩

def posE (l : List Ent) (s : ByteArray) : Nat := l.countP fun e => ltB e.1 s
def hasE (l : List Ent) (s : ByteArray) : Bool := l.any fun e => decide (e.1 = s)
/-- The node of the first entry of a name. -/
def findE : List Ent → ByteArray → Int
  | [], _ => -1
  | e :: l, s => if e.1 = s then e.2 else findE l s
def putE (l : List Ent) (e : Ent) : List Ent := l.take (posE l e.1) ++ e :: l.drop (posE l e.1)
def cutE (l : List Ent) (s : ByteArray) : List Ent := l.take (posE l s) ++ l.drop (posE l s + 1)

theorem posE_le (l : List Ent) (s : ByteArray) : posE l s ≤ l.length := List.countP_le_length
theorem posE_cons (a : Ent) (l : List Ent) (s : ByteArray) : posE (a :: l) s = posE l s + if ltB a.1 s = true then 1 else 0 := by
  unfold posE
  rw [List.countP_cons]
theorem posE_zero {l : List Ent} {s : ByteArray} (h : ∀ e ∈ l, ltB e.1 s = false) : posE l s = 0 := by
  unfold posE
  rw [List.countP_eq_zero]
  intro e he
  simp [h e he]
theorem below_pos : ∀ {l : List Ent}, Ri l → ∀ (s : ByteArray) (i : Nat) (h : i < l.length), i < posE l s → ltB l[i].1 s = true
  | [], _, _, _, h, _ => by simp at h
  | a :: l, hr, s, i, h, hp => by
    obtain ⟨h1, h2⟩ := List.pairwise_cons.1 hr
    by_cases ha : ltB a.1 s = true
    · rw [posE_cons, if_pos ha] at hp
      cases i with
      | zero => exact ha
      | succ i => exact below_pos h2 s i (by simpa using h) (by omega)
    · exfalso
      have hz : posE l s = 0 := posE_zero fun e he => by
        cases x : ltB e.1 s with
        | false => rfl
        | true => exact absurd (ltB_tr (h1 e he) x) ha
      rw [posE_cons, if_neg ha, hz] at hp
      omega
theorem above_pos : ∀ {l : List Ent}, Ri l → ∀ (s : ByteArray) (i : Nat) (h : i < l.length), posE l s ≤ i → ltB l[i].1 s = false
  | [], _, _, _, h, _ => by simp at h
  | a :: l, hr, s, i, h, hp => by
    obtain ⟨h1, h2⟩ := List.pairwise_cons.1 hr
    cases ha : ltB a.1 s with
    | true =>
      rw [posE_cons, if_pos ha] at hp
      cases i with
      | zero => omega
      | succ i => exact above_pos h2 s i (by simpa using h) (by omega)
    | false =>
      cases i with
      | zero => exact ha
      | succ i =>
        cases x : ltB ((a :: l)[i + 1]).1 s with
        | false => rfl
        | true =>
          have := ltB_tr (h1 ((a :: l)[i + 1]) (by simp)) x
          rw [ha] at this; cases this
theorem hasE_pos {l : List Ent} (hr : Ri l) (s : ByteArray) : hasE l s = true ↔ ∃ h : posE l s < l.length, l[posE l s].1 = s := by
  unfold hasE
  rw [List.any_eq_true]
  constructor
  · rintro ⟨e, he, hs⟩
    obtain ⟨i, hi, rfl⟩ := List.getElem_of_mem he
    have hs' : l[i].1 = s := by simpa using hs
    rcases Nat.lt_trichotomy i (posE l s) with h1 | h1 | h1
    · have := below_pos hr s i hi h1
      rw [hs', ltB_irr] at this; cases this
    · subst h1; exact ⟨hi, hs'⟩
    · have h2 : posE l s < l.length := by omega
      have h3 := List.pairwise_iff_getElem.1 hr (posE l s) i h2 hi h1
      rw [hs'] at h3
      rw [above_pos hr s _ h2 (Nat.le_refl _)] at h3; cases h3
  · rintro ⟨h, e⟩
    exact ⟨_, List.getElem_mem h, by simp [e]⟩
theorem has_of_find {l : List Ent} (s : ByteArray) (hn : ∀ e ∈ l, 0 ≤ e.2) : decide (0 ≤ findE l s) = hasE l s := by
  induction l with
  | nil => rfl
  | cons a l ih =>
    have ih := ih fun e he => hn e (List.mem_cons_of_mem _ he)
    unfold hasE at ih ⊢
    rw [findE, List.any_cons]
    by_cases h : a.1 = s
    · rw [if_pos h, decide_eq_true (hn a (List.mem_cons_self ..))]
      simp [h]
    · rw [if_neg h, ih]
      simp [h]
theorem find_none {l : List Ent} {s : ByteArray} (h : hasE l s = false) : findE l s = -1 := by
  induction l with
  | nil => rfl
  | cons a l ih =>
    unfold hasE at ih h
    rw [List.any_cons, Bool.or_eq_false_iff] at h
    rw [findE, if_neg (by simpa using h.1), ih h.2]
theorem find_some {l : List Ent} {s : ByteArray} (h : hasE l s = true) : ∃ e ∈ l, e.1 = s ∧ findE l s = e.2 := by
  induction l with
  | nil => cases h
  | cons a l ih =>
    unfold hasE at ih h
    by_cases e : a.1 = s
    · exact ⟨a, List.mem_cons_self .., e, by rw [findE, if_pos e]⟩
    · rw [List.any_cons, Bool.or_eq_true] at h
      rcases h with h | h
      · exact absurd (by simpa using h) e
      · obtain ⟨x, hx, h1, h2⟩ := ih h
        exact ⟨x, List.mem_cons_of_mem _ hx, h1, by rw [findE, if_neg e]; exact h2⟩
theorem ri_inj {l : List Ent} (hr : Ri l) {x y : Ent} (hx : x ∈ l) (hy : y ∈ l) (e : x.1 = y.1) : x = y := by
  obtain ⟨i, hi, rfl⟩ := List.getElem_of_mem hx
  obtain ⟨j, hj, rfl⟩ := List.getElem_of_mem hy
  rcases Nat.lt_trichotomy i j with h | h | h
  · exact absurd e (ltB_ne (List.pairwise_iff_getElem.1 hr i j hi hj h))
  · subst h; rfl
  · exact absurd e.symm (ltB_ne (List.pairwise_iff_getElem.1 hr j i hj hi h))
theorem find_mem {l : List Ent} (hr : Ri l) {x : Ent} (hx : x ∈ l) : findE l x.1 = x.2 := by
  obtain ⟨e, he, h1, h2⟩ := find_some (l := l) (s := x.1) (List.any_eq_true.2 ⟨x, hx, by simp⟩)
  rw [h2, ri_inj hr he hx h1]
theorem putE_perm (l : List Ent) (e : Ent) : (putE l e).Perm (e :: l) := by
  unfold putE
  refine List.perm_middle.trans ?_
  rw [List.take_append_drop]
theorem putE_mem {l : List Ent} {e x : Ent} : x ∈ putE l e ↔ x = e ∨ x ∈ l := by
  rw [(putE_perm l e).mem_iff, List.mem_cons]
theorem putE_len (l : List Ent) (e : Ent) : (putE l e).length = l.length + 1 := by rw [(putE_perm l e).length_eq]; rfl
theorem putE_ri {l : List Ent} (hr : Ri l) {e : Ent} (hn : hasE l e.1 = false) : Ri (putE l e) := by
  have hne : ∀ x ∈ l, x.1 ≠ e.1 := fun x hx h => by
    have : hasE l e.1 = true := List.any_eq_true.2 ⟨x, hx, by simp [h]⟩
    rw [hn] at this; cases this
  have hlo : ∀ x ∈ l.take (posE l e.1), ltB x.1 e.1 = true := fun x hx => by
    obtain ⟨i, hi, rfl⟩ := List.getElem_of_mem hx
    rw [List.length_take] at hi
    rw [List.getElem_take]
    exact below_pos hr e.1 i (by omega) (by omega)
  have hhi : ∀ x ∈ l.drop (posE l e.1), ltB e.1 x.1 = true := fun x hx => by
    have hx' := List.mem_of_mem_drop hx
    obtain ⟨i, hi, rfl⟩ := List.getElem_of_mem hx
    rw [List.length_drop] at hi
    rw [List.getElem_drop] at hx' ⊢
    exact ltB_tot (above_pos hr e.1 _ (by omega) (by omega)) (hne _ hx')
  unfold putE
  refine List.pairwise_append.2 ⟨hr.sublist (List.take_sublist ..), List.pairwise_cons.2 ⟨hhi, hr.sublist (List.drop_sublist ..)⟩, fun a ha b hb => ?_⟩
  rcases List.mem_cons.1 hb with rfl | hb
  · exact hlo a ha
  · exact ltB_tr (hlo a ha) (hhi b hb)
theorem putE_may {l : List Ent} (h : mayEs l = true) {e : Ent} (he : mayE e = true) (hn : hasE l e.1 = false) (hl : l.length ≠ 10) : mayEs (putE l e) = true := by
  obtain ⟨h1, h2, h3⟩ := mayEs_iff.1 h
  refine mayEs_iff.2 ⟨by rw [putE_len]; omega, fun x hx => ?_, putE_ri h3 hn⟩
  rcases putE_mem.1 hx with rfl | hx
  · exact he
  · exact h2 x hx
theorem put_pos (l : List Ent) (e : Ent) : posE (putE l e) e.1 = posE l e.1 := by
  have hp := putE_perm l e
  unfold posE
  rw [hp.countP_eq, List.countP_cons, ltB_irr]
  rfl
theorem cut_put (l : List Ent) (e : Ent) : cutE (putE l e) e.1 = l := by
  have hl := posE_le l e.1
  unfold cutE
  rw [put_pos l e]
  unfold putE
  have e1 : (l.take (posE l e.1)).length = posE l e.1 := by rw [List.length_take]; omega
  rw [List.take_append_of_le_length (by omega), List.take_of_length_le (by omega), List.drop_append, e1, List.drop_of_length_le (by omega), Nat.add_sub_cancel_left]
  simp
theorem filter_cut : ∀ {l : List Ent}, Ri l → ∀ (s : ByteArray), hasE l s = true → l.filter (fun e => !decide (e.1 = s)) = cutE l s
  | [], _, _, h => by cases h
  | a :: l, hr, s, h => by
    obtain ⟨h1, h2⟩ := List.pairwise_cons.1 hr
    have hle := posE_le l s
    by_cases ha : a.1 = s
    · have hz : posE l s = 0 := posE_zero fun e he => by rw [← ha]; exact ltB_asy (h1 e he)
      have hall : l.filter (fun e => !decide (e.1 = s)) = l := List.filter_eq_self.2 fun e he => by
        have := ltB_ne (h1 e he)
        rw [ha] at this
        simpa using Ne.symm this
      rw [List.filter_cons_of_neg (by simp [ha]), hall]
      unfold cutE
      rw [posE_cons, hz, ha, ltB_irr]
      rfl
    · have hh : hasE l s = true := by
        unfold hasE at h ⊢
        rw [List.any_cons, Bool.or_eq_true] at h
        rcases h with h | h
        · exact absurd (by simpa using h) ha
        · exact h
      have hlt : ltB a.1 s = true := by
        obtain ⟨x, hx, hs⟩ := List.any_eq_true.1 hh
        have hs' : x.1 = s := by simpa using hs
        rw [← hs']; exact h1 x hx
      rw [List.filter_cons_of_pos (by simpa using ha), filter_cut h2 s hh]
      unfold cutE
      rw [posE_cons, if_pos hlt]
      simp
theorem ri_one : ∀ {L M : List Ent}, Ri L → Ri M → L.Perm M → L = M
  | [], M, _, _, hp => by rw [List.nil_perm.1 hp]
  | a :: L, [], _, _, hp => by cases List.perm_nil.1 hp
  | a :: L, b :: M, hL, hM, hp => by
    obtain ⟨a1, a2⟩ := List.pairwise_cons.1 hL
    obtain ⟨b1, b2⟩ := List.pairwise_cons.1 hM
    have e : a = b := by
      rcases List.mem_cons.1 (hp.mem_iff.1 (List.mem_cons_self ..)) with e | h1
      · exact e
      · rcases List.mem_cons.1 (hp.mem_iff.2 (List.mem_cons_self ..)) with e | h2
        · exact e.symm
        · have x := ltB_tr (b1 a h1) (a1 b h2)
          rw [ltB_irr] at x; cases x
    subst e
    rw [ri_one a2 b2 (List.Perm.cons_inv hp)]
end Go.Proofs.YtfboilbmehcgoaaDoor

/- Rows of entries: two cells each; one of the call's own; append to it: of no program but its types. -/
namespace Go.Proofs.YtfboilbmehcgoaaDoor
open Go.RowKit

/-- At A of w these entries lie. -/
def ELies (w : World) (A : Option Addr) (l : List Ent) : Prop :=
  0 < l.length → ∃ B o, A = some ⟨B, o, none⟩ ∧ B < w.heap.size ∧ ∀ j (h : j < l.length),
    w.cell? ⟨B, o + j * 2, none⟩ = some (.string l[j].1) ∧ w.cell? ⟨B, o + j * 2 + 1, none⟩ = some (.int .i64 l[j].2)
theorem ELies.below {w w' : World} {A : Option Addr} {l : List Ent} (h : ELies w A l) (hb : Below w.heap.size w w') : ELies w' A l := fun hn => by
  obtain ⟨B, o, e, hB, hc⟩ := h hn
  refine ⟨B, o, e, Nat.lt_of_lt_of_le hB hb.size, fun j hj => ?_⟩
  obtain ⟨h0, h1⟩ := hc j hj
  exact ⟨(hb.cell (p := ⟨B, o + j * 2, none⟩) hB).trans h0, (hb.cell (p := ⟨B, o + j * 2 + 1, none⟩) hB).trans h1⟩
theorem ELies.nil (w : World) (A : Option Addr) : ELies w A [] := fun h => absurd h (by simp)
def eenc (f : Ent) : List Value := [.string f.1, .int .i64 f.2]
def ecells (l : List Ent) : List Value := l.flatMap eenc
theorem ecells_cons (f : Ent) (l : List Ent) : ecells (f :: l) = eenc f ++ ecells l := rfl
theorem ecells_app (l m : List Ent) : ecells (l ++ m) = ecells l ++ ecells m := by simp [ecells]
theorem ecells_len (l : List Ent) : (ecells l).length = l.length * 2 := by
  induction l with
  | nil => rfl
  | cons f l ih => rw [ecells_cons, List.length_append, ih, List.length_cons]; simp [eenc]; omega
theorem ecells_at : ∀ (l : List Ent) (j : Nat) (h : j < l.length) (r : Nat), r < 2 → (ecells l)[j * 2 + r]? = (eenc l[j])[r]?
  | [], _, h, _, _ => by cases h
  | f :: l, 0, _, r, hr => by
    rw [ecells_cons, List.getElem?_append_left (by simp [eenc]; omega)]
    simp
  | f :: l, j + 1, h, r, hr => by
    rw [ecells_cons, List.getElem?_append_right (by simp [eenc]; omega)]
    have e : (j + 1) * 2 + r - (eenc f).length = j * 2 + r := by simp [eenc]; omega
    rw [e, ecells_at l j (by simpa using h) r hr]
    rfl
theorem ecells_one {l : List Ent} {u : Value} (h : u ∈ ecells l) : u.oneCell' = true := by
  obtain ⟨f, _, hu⟩ := List.mem_flatMap.1 h
  simp [eenc] at hu
  rcases hu with rfl | rfl <;> rfl
theorem ELies.cells {w : World} {A : Option Addr} {l : List Ent} (h : ELies w A l) {ad : Addr} (e : A = some ad) : ∀ (k : Nat) (u : Value), (ecells l)[k]? = some u → w.cell? (ad.add k) = some u := fun k u hu => by
  have hk : k < l.length * 2 := by
    rcases Nat.lt_or_ge k (l.length * 2) with h' | h'
    · exact h'
    · rw [List.getElem?_eq_none (by rw [ecells_len]; exact h')] at hu; cases hu
  obtain ⟨B, o, e2, _, hc⟩ := h (by omega)
  obtain rfl : ad = ⟨B, o, none⟩ := by rw [e] at e2; exact Option.some.inj e2
  have ea : (⟨B, o, none⟩ : Addr).add k = ⟨B, o + k, none⟩ := by
    unfold Addr.add
    split
    · next e => subst e; rfl
    · rfl
  have hj : k / 2 < l.length := by omega
  have hr : k % 2 < 2 := Nat.mod_lt _ (by omega)
  have hkk : k = k / 2 * 2 + k % 2 := by omega
  obtain ⟨c0, c1⟩ := hc (k / 2) hj
  have hf := ecells_at l (k / 2) hj (k % 2) hr
  rw [← hkk, hu] at hf
  rw [ea, show o + k = o + k / 2 * 2 + k % 2 by omega]
  generalize k / 2 = j at *
  generalize k % 2 = r at *
  rcases (by omega : r = 0 ∨ r = 1) with rfl | rfl
  · rw [Nat.add_zero, c0, hf]; rfl
  · rw [c1, hf]; rfl
/-- Such a row of the call's own. -/
def EOwn (w : World) (base : Nat) (v : Value) (l : List Ent) : Prop := w.ownsRow base 34 2 v l.length (ecells l)
theorem eown_nil (W : World) (B : Nat) : EOwn W B (.slice none 0 0) [] := World.ownsRow_nil _ _ _ _
/-- A row that has no place yet, but an address. -/
theorem eown_empty {W : World} {B g : Nat} (h : W.heap[g]? = some (.cells #[] 34 (0, 0))) (hB : B ≤ g) : EOwn W B (.slice (some ⟨g, 0, none⟩) 0 0) [] :=
  ⟨rfl, .inr ⟨g, 0, #[], rfl, hB, h, Nat.le_refl _, Nat.zero_le _, rfl, rfl⟩⟩
theorem eown_keep {W W' : World} {B : Nat} {v : Value} {l : List Ent} (h : EOwn W B v l) (hb : Below W.heap.size W W') : EOwn W' B v l := own_keep h fun k e => hb.block k (World.ownsRow.lt h k e).2
theorem eown_below {w0 w w' : World} {n : Nat} {v : Value} {xs : List Ent} (h : EOwn w n v xs) (hb : Below n w0 w) (hg : w.grownBy w' v.ownBlock) (hn : n ≤ w.heap.size) : Below n w0 w' :=
  hb.grown hg hn fun k e => (World.ownsRow.lt h k e).1
theorem EOwn.lies {w : World} {base c : Nat} {q : Option Addr} {l : List Ent} {n : Nat} (h : EOwn w base (.slice q n c) l) : ELies w q l ∧ n = l.length ∧ (∀ ad, q = some ad → base ≤ ad.block) ∧ n ≤ c := by
  rcases h.2 with ⟨e, e2⟩ | ⟨g, cap, cur, e, hb, hg, hc, _, _, ht⟩
  · simp at e
    obtain ⟨rfl, rfl, rfl⟩ := e
    exact ⟨fun hn => by omega, by omega, fun ad e => (by cases e), Nat.le_refl _⟩
  · simp at e
    obtain ⟨rfl, rfl, rfl⟩ := e
    refine ⟨fun hn => ⟨g, 0, rfl, lt_size hg, fun j hj => ?_⟩, rfl, fun ad e => (by cases e; exact hb), hc⟩
    have key : ∀ r, r < 2 → w.cell? ⟨g, 0 + j * 2 + r, none⟩ = (eenc l[j])[r]? := fun r hr => by
      have hf := ecells_at l j hj r hr
      rw [← ht, List.getElem?_take_of_lt (by omega)] at hf
      rw [← hf, Nat.zero_add]
      simp [World.cell?, hg]
    exact ⟨key 0 (by omega), key 1 (by omega)⟩
theorem info_entry : (Tryd.prog.info? 34).map (fun i => (i.zero, i.size, i.bytes)) = some (some (.agg #[.string ⟨#[]⟩, .int .i64 0]), 2, 24) := by kernel_rfl
theorem entry_parts : ∃ i, Tryd.prog.info? 34 = some i ∧ i.zero = some (.agg #[.string ⟨#[]⟩, .int .i64 0]) ∧ i.size = 2 ∧ i.bytes = 24 := by
  have h := info_entry
  cases e : Tryd.prog.info? 34 with
  | none => rw [e] at h; cases h
  | some i =>
    rw [e] at h
    simp only [Option.map_some, Option.some.injEq, Prod.mk.injEq] at h
    exact ⟨i, rfl, h.1, h.2.1, h.2.2⟩
theorem run_eapp {w : World} {base : Nat} {v : Value} {xs l : List Ent} {A : Option Addr} {c : Nat} (ty : TypeId) (hown : EOwn w base v xs) (hl : ELies w A l) (hA : A = none → l = [] ∧ c = 0) (h63 : xs.length + l.length ≤ 100000) (hbase : base ≤ w.heap.size) :
    ∃ q cap w', (Builtin.append_ #[30, 30] ty #[v, .slice A l.length c]).run Tryd.prog w = .ok (.slice q (xs.length + l.length) cap) w' ∧ EOwn w' base (.slice q (xs.length + l.length) cap) (xs ++ l) ∧ w.grownBy w' v.ownBlock := by
  obtain ⟨i, hi, hz, hs, hb⟩ := entry_parts
  cases A with
  | some ad =>
    obtain ⟨v', w', hr, h2, h3, _⟩ := run_append_own (P := Tryd.prog) (w := w) base 30 ty 34 i _ 2 24 Tryd.underlying30 hi hz hs hb rfl (by omega) v xs.length (ecells xs) hown ad l.length c (ecells l) (ecells_len l) (hl.cells rfl) (fun u hu => ecells_one hu) (by unfold maxLen; omega) (by omega) hbase
    obtain ⟨q, cap, rfl, _⟩ := own_slice h2
    exact ⟨q, cap, w', hr, by unfold EOwn; rw [List.length_append, ecells_app]; exact h2, h3⟩
  | none =>
    obtain ⟨rfl, rfl⟩ := hA rfl
    have hr := run_append_owned_none (P := Tryd.prog) (w := w) base 30 ty 34 i 2 Tryd.underlying30 hi v xs.length (ecells xs) hown
    obtain ⟨q, cap, rfl, _⟩ := own_slice hown
    exact ⟨q, cap, w, hr, by simpa using hown, ⟨rfl, rfl, rfl, Nat.le_refl _, fun _ _ _ => rfl⟩⟩
theorem oper_eapp {w : World} {o : Oper} {a : Act} {K : Act → World → Prop} {Q : Exit → Act → World → Prop} (s x : Operand) (ho : o.op = .call { callee := .builtin .append, args := #[s, x], argTypes := #[30, 30] })
    {base : Nat} {v : Value} {xs l : List Ent} {A : Option Addr} {c : Nat} (hs : a.eval s = v) (hx : a.eval x = .slice A l.length c) (hown : EOwn w base v xs) (hl : ELies w A l) (hA : A = none → l = [] ∧ c = 0) (h63 : xs.length + l.length ≤ 100000) (hbase : base ≤ w.heap.size)
    (h : ∀ q cap w', EOwn w' base (.slice q (xs.length + l.length) cap) (xs ++ l) → w.grownBy w' v.ownBlock → K (a.put o.dst (.slice q (xs.length + l.length) cap)) w') : Oper.wp Tryd.prog o a w K Q := by
  obtain ⟨q, cap, w', hr, h2, h3⟩ := run_eapp o.type hown hl hA h63 hbase
  unfold Oper.wp execOp
  simp only [ho, resolve, invoke, builtin, Sem.run_bind, Sem.run_pure, Result.andThen_ok, List.map_toArray, List.map_cons, List.map_nil, hs, hx, hr]
  exact h q cap w' h2 h3
/-- In a region without a draw. -/
theorem wpList_eapp {w : World} {ops : Array Oper} {rest : List Oper} {o : Oper} {a : Act} {Q : Exit → Act → World → Prop} (hgd : o.guard = none) (s x : Operand) (ho : o.op = .call { callee := .builtin .append, args := #[s, x], argTypes := #[30, 30] })
    (base : Nat) (v : Value) (xs l : List Ent) (A : Option Addr) (c : Nat) (hs : a.eval s = v) (hx : a.eval x = .slice A l.length c) (hown : EOwn w base v xs) (hl : ELies w A l) (hA : A = none → l = [] ∧ c = 0) (h63 : xs.length + l.length ≤ 100000) (hbase : base ≤ w.heap.size)
    (h : ∀ q cap w', EOwn w' base (.slice q (xs.length + l.length) cap) (xs ++ l) → w.grownBy w' v.ownBlock → wpList Tryd.prog ops Q rest (a.put o.dst (.slice q (xs.length + l.length) cap)) w') : wpList Tryd.prog ops Q (o :: rest) a w :=
  wpList_plain hgd fun _ hK => oper_eapp s x ho hs hx hown hl hA h63 hbase fun q cap w' h2 h3 => hK _ _ (h q cap w' h2 h3)
/-- One of them, newly built. -/
theorem eown_one_at (w : World) (f : Ent) {k : Nat} (h : k = w.heap.size) : ELies (w.alloc (.cells #[.string f.1, .int .i64 f.2] 34)) (some ⟨k, 0, none⟩) [f] := by
  subst h
  intro _
  have hn := heap_alloc_new w (.cells #[.string f.1, .int .i64 f.2] 34)
  refine ⟨_, 0, rfl, lt_size hn, fun j hj => ?_⟩
  obtain rfl : j = 0 := by simpa using hj
  generalize w.alloc _ = W at hn ⊢
  simp [World.cell?, hn]
/-- The first of a row. -/
theorem ELies.take {w : World} {A : Option Addr} {l : List Ent} (h : ELies w A l) (k : Nat) : ELies w A (l.take k) := fun hn => by
  obtain ⟨B, o, e, hB, hc⟩ := h (by rw [List.length_take] at hn; omega)
  exact ⟨B, o, e, hB, fun j hj => by
    have hj2 : j < l.length := by rw [List.length_take] at hj; omega
    have e : (l.take k)[j] = l[j] := List.getElem_take
    rw [e]
    exact hc j hj2⟩
theorem ELies.map_add {w : World} {A : Option Addr} {l : List Ent} (h : ELies w A l) (k c : Nat) (hc : l.length ≤ c) : ELies w (if c = k then A else A.map (·.add (k * 2))) (l.drop k) := fun hn => by
  rw [List.length_drop] at hn
  obtain ⟨B, o, e, hB, hx⟩ := h (by omega)
  rw [if_neg (by omega), e]
  refine ⟨B, o + k * 2, ?_, hB, fun j hj => ?_⟩
  · show some _ = _
    congr 1
    unfold Addr.add
    split
    · next h0 => rw [h0]; rfl
    · rfl
  · rw [List.length_drop] at hj
    rw [List.getElem_drop]
    obtain ⟨h0, h1⟩ := hx (k + j) (by omega)
    rw [Nat.add_mul, ← Nat.add_assoc] at h0 h1
    exact ⟨h0, h1⟩
theorem box_cells (w : World) (a b : Value) (t : TypeId) : (w.alloc (.cells #[a, b] t)).cell? ⟨w.heap.size, 0, none⟩ = some a ∧ (w.alloc (.cells #[a, b] t)).cell? ⟨w.heap.size, 1, none⟩ = some b := by
  have hn := heap_alloc_new w (.cells #[a, b] t)
  generalize w.alloc _ = W at hn ⊢
  exact ⟨by simp [World.cell?, hn], by simp [World.cell?, hn]⟩
end Go.Proofs.YtfboilbmehcgoaaDoor

/- Package name: may, May, Find: the landed functions' contracts. -/
namespace Go.Proofs.YtfboilbmehcgoaaDoor
open Go.RowKit Go.Lib

abbrev entV (e : Ent) : Value := .agg #[.string e.1, .int .i64 e.2]
theorem mayE_eq (s : ByteArray) (n : Int) : mayE (s, n) = (mayL s.data.toList && decide (1 ≤ n) && decide (n ≤ 11)) := rfl
set_option maxRecDepth 100000 in
theorem may_ent (s : ByteArray) (n : Int) (w : World) : Calls Tryd.prog 77 #[.agg #[.string s, .int .i64 n]] w fun x w' => x = .returned (.bool (mayE (s, n))) ∧ Below w.heap.size w w' := by
  rw [mayE_eq]
  obtain ⟨V, hV⟩ : ∃ V, mayL s.data.toList = V := ⟨_, rfl⟩
  rw [hV]
  have hm : ∀ w, Calls Tryd.prog 61 #[.string s] w fun e w' => e = .returned (.bool V) ∧ Below w.heap.size w w' := fun w => by rw [← hV]; exact may_any s w
  replace hm := Lib.hid hm
  clear hV
  cases V <;> by_cases h1 : 1 ≤ n <;> by_cases h2 : n ≤ 11 <;> first | (exfalso; omega) | skip
  all_goals
    (first | have d1 : decide (1 ≤ n) = true := decide_eq_true h1 | have d1 : decide (1 ≤ n) = false := decide_eq_false h1)
    (first | have d2 : decide (n ≤ 11) = true := decide_eq_true h2 | have d2 : decide (n ≤ 11) = false := decide_eq_false h2)
    rw [d1, d2]
    go_enter Tryd.func77, Tryd.ntmps77
    go_wp2_with (first
      | (go_at_call 61; (with_reducible refine (hm.out _).mono ?_); rintro e w1 ⟨rfl, hb1⟩; have hq : w1.cell? ⟨w.heap.size, 1, none⟩ = some (.int .i64 n) := (hb1.cell (p := ⟨w.heap.size, 1, none⟩) (by simp)).trans (box_cells _ _ _ _).2; replace hb1 := Lib.hid (((Below.refl _ w).alloc (Nat.le_refl _) _).trans (hb1.mono (by simp))))
      | fail)
    go_ret
    exact ⟨rfl, hb1.out⟩
theorem mayEs_long {l : List Ent} (h : ¬ l.length ≤ 10) : mayEs l = false := by
  unfold mayEs; rw [decide_eq_false h]; rfl
theorem mayEs_one {l : List Ent} {i : Nat} (h : i < l.length) (e : mayE l[i] = false) : mayEs l = false := by
  have : l.all mayE = false := List.all_eq_false.2 ⟨l[i], List.getElem_mem h, by simp [e]⟩
  unfold mayEs; rw [this]; simp
theorem mayEs_two {l : List Ent} {i : Nat} (h : i + 1 < l.length) (e : ltB l[i].1 l[i + 1].1 = false) : mayEs l = false := by
  unfold mayEs; rw [ris_at i h e]; simp
theorem mayEs_all {l : List Ent} (h : l.length ≤ 10) (h1 : ∀ i (h : i < l.length), mayE l[i] = true) (h2 : ∀ i (h : i + 1 < l.length), ltB l[i].1 l[i + 1].1 = true) : mayEs l = true := by
  have : l.all mayE = true := List.all_eq_true.2 fun e he => by
    obtain ⟨i, hi, rfl⟩ := List.getElem_of_mem he
    exact h1 i hi
  unfold mayEs; rw [decide_eq_true h, this, ris_of h2]; rfl
theorem i64w_idE (x : Int) (h : -9223372036854775808 ≤ x ∧ x ≤ 9223372036854775807) : IntKind.i64.wrap x = x := by
  rw [IntKind.wrap_i64]; omega
set_option maxRecDepth 100000 in
set_option maxHeartbeats 2000000 in
theorem mays_any (A : Option Addr) (c : Nat) (l : List Ent) (w : World) (hA : ELies w A l) : Calls Tryd.prog 68 #[.slice A l.length c] w fun x w' => x = .returned (.bool (mayEs l)) ∧ Below w.heap.size w w' := by
  by_cases h10 : l.length ≤ 10
  case neg =>
    rw [mayEs_long h10]
    have d1 : decide ((10 : Int) < (l.length : Int)) = true := decide_eq_true (by omega)
    go_enter Tryd.func68, Tryd.ntmps68
    go_wp2_with fail
    go_ret
    exact ⟨rfl, Below.refl _ _⟩
  have d1 : decide ((10 : Int) < (l.length : Int)) = false := decide_eq_false (by omega)
  have HA := Lib.hid hA
  obtain ⟨R, hR⟩ : ∃ R, mayEs l = R := ⟨_, rfl⟩
  rw [hR]
  replace hR := Lib.hid hR
  clear hA
  go_enter Tryd.func68, Tryd.ntmps68
  go_wp2_with fail
  go_loopw [3, 4, 10] (fun _ _ v10 wr => ∃ jx : Nat, jx ≤ l.length ∧ v10 = .int .i64 jx ∧ Hid ((∀ i (h : i < l.length), i < jx → mayE l[i] = true) ∧ (∀ i (h : i + 1 < l.length), i + 1 < jx → ltB l[i].1 l[i + 1].1 = true)) ∧ Below w.heap.size w wr) (fun _ _ v10 _ => l.length - (RowKit.intOf v10).toNat)
  case atStart => exact ⟨0, Nat.zero_le _, rfl, Lib.hid ⟨fun i _ h => absurd h (Nat.not_lt_zero i), fun i _ h => absurd h (Nat.not_lt_zero _)⟩, Below.refl _ _⟩
  case round =>
    obtain ⟨jx, hj, rfl, HI, hB⟩ := hrel
    have HB := Lib.hid hB
    have hs := hB.size
    clear hB
    by_cases hj1 : jx < l.length
    · obtain ⟨B, o, rfl, hBs, hc⟩ := (HA.out.below HB.out) (by omega)
      have d2 : decide ((jx : Int) < (l.length : Int)) = true := decide_eq_true (by omega)
      obtain ⟨k0, k1⟩ := hc jx hj1
      obtain ⟨m, hm⟩ : ∃ m, mayE l[jx] = m := ⟨_, rfl⟩
      have hm2 := Lib.hid hm
      obtain ⟨q, hq⟩ : ∃ q, l[jx] = q := ⟨_, rfl⟩
      have hq2 := Lib.hid hq
      rw [hq] at k0 k1 hm
      obtain ⟨s, n⟩ := q
      have hcall := fun w => may_ent s n w
      rw [hm] at hcall
      have HC := Lib.hid hcall
      clear hm hq hcall
      have hc' := Lib.hid hc
      clear hc
      have HBW := Lib.hid (HB.out.alloc (by omega) (.cells #[.string s, .int .i64 n] 34))
      have HRW := Lib.hid ((Below.refl wr.heap.size wr).alloc (Nat.le_refl _) (.cells #[.string s, .int .i64 n] 34))
      have HX := Lib.hid (box_cells wr (.string s) (.int .i64 n) 34)
      have hlt : Hid (wr.heap.size < (wr.alloc (.cells #[.string s, .int .i64 n] 34)).heap.size) := Lib.hid (by simp)
      cases m with
      | false =>
        have hF : R = false := by rw [← hR.out]; exact mayEs_one hj1 hm2.out
        subst hF
        go_wp2_with fail
        generalize wr.alloc _ = W at HBW HRW HX hlt ⊢
        have HK : Hid (∀ w1, Below W.heap.size W w1 → w1.cell? ⟨wr.heap.size, 0, none⟩ = some (.string s) ∧ w1.cell? ⟨wr.heap.size, 1, none⟩ = some (.int .i64 n)) := Lib.hid fun w1 h => ⟨(h.cell (p := ⟨wr.heap.size, 0, none⟩) hlt.out).trans HX.out.1, (h.cell (p := ⟨wr.heap.size, 1, none⟩) hlt.out).trans HX.out.2⟩
        clear k0 k1
        refine region_st (fun j v w' => match j with | 0 => v = .agg #[.string s, .int .i64 n] | 1 => v = .bool false | 2 => v = .bool true | 3 => v = .bool true | 4 => v = undef | 5 => v = undef | 6 => v = undef | 7 => v = undef | 8 => v = undef | 9 => v = undef | 10 => v = undef | 11 => v = undef | 12 => v = undef | 13 => v = undef | 14 => v = undef | 15 => v = undef | 16 => v = undef | 17 => v = .bool true | _ => True) (fun _ w' => Below W.heap.size W w') (fun w1 w2 => Below w1.heap.size w1 w2) (by kernel_rfl) (by kernel_rfl) (by kernel_rfl) ?hR ?hG ?hops ?hend
        case hR =>
          intro j v w1 w2 hv hb
          match j, hv with
          | 0, hv => exact hv
          | 1, hv => exact hv
          | 2, hv => exact hv
          | 3, hv => exact hv
          | 4, hv => exact hv
          | 5, hv => exact hv
          | 6, hv => exact hv
          | 7, hv => exact hv
          | 8, hv => exact hv
          | 9, hv => exact hv
          | 10, hv => exact hv
          | 11, hv => exact hv
          | 12, hv => exact hv
          | 13, hv => exact hv
          | 14, hv => exact hv
          | 15, hv => exact hv
          | 16, hv => exact hv
          | 17, hv => exact hv
          | _ + 18, _ => exact trivial
        case hG => exact (Below.refl _ _).drew
        case hops =>
          refine OpsOkS.cons ?o0 (OpsOkS.cons ?o1 (OpsOkS.cons ?o2 (OpsOkS.cons ?o3 (OpsOkS.cons ?o4 (OpsOkS.cons ?o5 (OpsOkS.cons ?o6 (OpsOkS.cons ?o7 (OpsOkS.cons ?o8 (OpsOkS.cons ?o9 (OpsOkS.cons ?o10 (OpsOkS.cons ?o11 (OpsOkS.cons ?o12 (OpsOkS.cons ?o13 (OpsOkS.cons ?o14 (OpsOkS.cons ?o15 (OpsOkS.cons ?o16 (OpsOkS.cons ?o17 OpsOkS.nil)))))))))))))))))
          case o0 =>
            intro a w1 Kx hG need old hsz fresh hKx
            have e0 : a.tmps[4]?.getD undef = .pointer (some ⟨wr.heap.size, 0, none⟩) := by rw [← Array.getD_eq_getD_getElem?]; exact old 4 (by kernel_rfl)
            have j0 := (HK.out w1 hG).1
            have j1 := (HK.out w1 hG).2
            refine op_value (v := .agg #[.string s, .int .i64 n]) (wanted_none rfl) ?_ (hKx _ w1 rfl hG (Below.refl _ _))
            simp [execOp, go_sem, e0, j0, j1]
          case o1 =>
            intro a w1 Kx hG need old hsz fresh hKx
            have e0 : a.tmps[15]?.getD undef = .agg #[.string s, .int .i64 n] := by rw [← Array.getD_eq_getD_getElem?]; exact (need 0 (by kernel_rfl) (by kernel_rfl))
            refine op_call (wanted_none rfl) (f := 77) (args := #[.agg #[.string s, .int .i64 n]]) ?run ((HC.out w1).mono ?post)
            case run => simp [go_sem, e0]
            case post =>
              rintro e w2 ⟨rfl, hb2⟩
              exact ⟨_, rfl, hKx _ w2 rfl (hG.trans (hb2.mono hG.size)) hb2⟩
          case o2 =>
            intro a w1 Kx hG need old hsz fresh hKx
            have e0 : a.tmps[16]?.getD undef = .bool false := by rw [← Array.getD_eq_getD_getElem?]; exact (need 1 (by kernel_rfl) (by kernel_rfl))
            refine op_value (v := .bool true) (wanted_none rfl) ?_ (hKx _ w1 rfl hG (Below.refl _ _))
            simp [execOp, go_sem, e0]
          case o3 =>
            intro a w1 Kx hG need old hsz fresh hKx
            have e0 : a.tmps[17]?.getD undef = .bool true := by rw [← Array.getD_eq_getD_getElem?]; exact (need 2 (by kernel_rfl) (by kernel_rfl))
            refine op_value (v := .bool true) (wanted_none rfl) ?_ (hKx _ w1 rfl hG (Below.refl _ _))
            simp [execOp, go_sem, e0]
          case o4 =>
            intro a w1 Kx hG need old hsz fresh hKx
            exact skip_op (j := 3) rfl (need 3 (by kernel_rfl) (by kernel_rfl)) (by decide) (hKx undef w1 rfl hG (Below.refl _ _))
          case o5 =>
            intro a w1 Kx hG need old hsz fresh hKx
            exact skip_op (j := 3) rfl (need 3 (by kernel_rfl) (by kernel_rfl)) (by decide) (hKx undef w1 rfl hG (Below.refl _ _))
          case o6 =>
            intro a w1 Kx hG need old hsz fresh hKx
            exact skip_op (j := 3) rfl (need 3 (by kernel_rfl) (by kernel_rfl)) (by decide) (hKx undef w1 rfl hG (Below.refl _ _))
          case o7 =>
            intro a w1 Kx hG need old hsz fresh hKx
            exact skip_undef (j := 6) rfl (need 6 (by kernel_rfl) (by kernel_rfl)) (hKx undef w1 rfl hG (Below.refl _ _))
          case o8 =>
            intro a w1 Kx hG need old hsz fresh hKx
            exact skip_undef (j := 6) rfl (need 6 (by kernel_rfl) (by kernel_rfl)) (hKx undef w1 rfl hG (Below.refl _ _))
          case o9 =>
            intro a w1 Kx hG need old hsz fresh hKx
            exact skip_undef (j := 6) rfl (need 6 (by kernel_rfl) (by kernel_rfl)) (hKx undef w1 rfl hG (Below.refl _ _))
          case o10 =>
            intro a w1 Kx hG need old hsz fresh hKx
            exact skip_undef (j := 6) rfl (need 6 (by kernel_rfl) (by kernel_rfl)) (hKx undef w1 rfl hG (Below.refl _ _))
          case o11 =>
            intro a w1 Kx hG need old hsz fresh hKx
            exact skip_undef (j := 6) rfl (need 6 (by kernel_rfl) (by kernel_rfl)) (hKx undef w1 rfl hG (Below.refl _ _))
          case o12 =>
            intro a w1 Kx hG need old hsz fresh hKx
            exact skip_undef (j := 6) rfl (need 6 (by kernel_rfl) (by kernel_rfl)) (hKx undef w1 rfl hG (Below.refl _ _))
          case o13 =>
            intro a w1 Kx hG need old hsz fresh hKx
            exact skip_undef (j := 6) rfl (need 6 (by kernel_rfl) (by kernel_rfl)) (hKx undef w1 rfl hG (Below.refl _ _))
          case o14 =>
            intro a w1 Kx hG need old hsz fresh hKx
            exact skip_undef (j := 6) rfl (need 6 (by kernel_rfl) (by kernel_rfl)) (hKx undef w1 rfl hG (Below.refl _ _))
          case o15 =>
            intro a w1 Kx hG need old hsz fresh hKx
            exact skip_undef (j := 6) rfl (need 6 (by kernel_rfl) (by kernel_rfl)) (hKx undef w1 rfl hG (Below.refl _ _))
          case o16 =>
            intro a w1 Kx hG need old hsz fresh hKx
            exact skip_op (j := 3) rfl (need 3 (by kernel_rfl) (by kernel_rfl)) (by decide) (hKx undef w1 rfl hG (Below.refl _ _))
          case o17 =>
            intro a w1 Kx hG need old hsz fresh hKx
            have e0 : a.tmps[18]?.getD undef = .bool true := by rw [← Array.getD_eq_getD_getElem?]; exact (need 3 (by kernel_rfl) (by kernel_rfl))
            refine op_value (v := .bool true) (wanted_none rfl) ?_ (hKx _ w1 rfl hG (Below.refl _ _))
            simp [execOp, go_sem, asBool, e0]
        case hend =>
          intro a w6 hG hde hsz hφ hold
          obtain rfl := act_puts [(15, .agg #[.string s, .int .i64 n]), (16, .bool false), (17, .bool true), (18, .bool true), (19, undef), (20, undef), (21, undef), (22, undef), (23, undef), (24, undef), (25, undef), (26, undef), (27, undef), (28, undef), (29, undef), (30, undef), (31, undef), (32, .bool true)] [15, 16, 17, 18, 19, 20, 21, 22, 23, 24, 25, 26, 27, 28, 29, 30, 31, 32] rfl (by kernel_rfl) (by kernel_rfl) hde hsz (List.forall_mem_cons.2 ⟨(show a.tmps.getD 15 undef = .agg #[.string s, .int .i64 n] from (hφ 0 (by kernel_rfl))), (List.forall_mem_cons.2 ⟨(show a.tmps.getD 16 undef = .bool false from (hφ 1 (by kernel_rfl))), (List.forall_mem_cons.2 ⟨(show a.tmps.getD 17 undef = .bool true from (hφ 2 (by kernel_rfl))), (List.forall_mem_cons.2 ⟨(show a.tmps.getD 18 undef = .bool true from (hφ 3 (by kernel_rfl))), (List.forall_mem_cons.2 ⟨(show a.tmps.getD 19 undef = undef from (hφ 4 (by kernel_rfl))), (List.forall_mem_cons.2 ⟨(show a.tmps.getD 20 undef = undef from (hφ 5 (by kernel_rfl))), (List.forall_mem_cons.2 ⟨(show a.tmps.getD 21 undef = undef from (hφ 6 (by kernel_rfl))), (List.forall_mem_cons.2 ⟨(show a.tmps.getD 22 undef = undef from (hφ 7 (by kernel_rfl))), (List.forall_mem_cons.2 ⟨(show a.tmps.getD 23 undef = undef from (hφ 8 (by kernel_rfl))), (List.forall_mem_cons.2 ⟨(show a.tmps.getD 24 undef = undef from (hφ 9 (by kernel_rfl))), (List.forall_mem_cons.2 ⟨(show a.tmps.getD 25 undef = undef from (hφ 10 (by kernel_rfl))), (List.forall_mem_cons.2 ⟨(show a.tmps.getD 26 undef = undef from (hφ 11 (by kernel_rfl))), (List.forall_mem_cons.2 ⟨(show a.tmps.getD 27 undef = undef from (hφ 12 (by kernel_rfl))), (List.forall_mem_cons.2 ⟨(show a.tmps.getD 28 undef = undef from (hφ 13 (by kernel_rfl))), (List.forall_mem_cons.2 ⟨(show a.tmps.getD 29 undef = undef from (hφ 14 (by kernel_rfl))), (List.forall_mem_cons.2 ⟨(show a.tmps.getD 30 undef = undef from (hφ 15 (by kernel_rfl))), (List.forall_mem_cons.2 ⟨(show a.tmps.getD 31 undef = undef from (hφ 16 (by kernel_rfl))), (List.forall_mem_cons.2 ⟨(show a.tmps.getD 32 undef = .bool true from (hφ 17 (by kernel_rfl))), (fun _ h => absurd h (by simp))⟩)⟩)⟩)⟩)⟩)⟩)⟩)⟩)⟩)⟩)⟩)⟩)⟩)⟩)⟩)⟩)⟩)⟩) hold
          clear hφ hold hsz hde
          simp only [putAll]
          go_frame
          go_wp2_with fail
          go_ret
          exact ⟨rfl, HBW.out.trans (hG.mono HBW.out.size)⟩
      | true =>
        by_cases hj0 : jx = 0
        · have d3 : decide ((0 : Int) < (jx : Int)) = false := decide_eq_false (by omega)
          have hjz := Lib.hid hj0
          clear hj0
          go_wp2_with fail
          generalize wr.alloc _ = W at HBW HRW HX hlt ⊢
          have HK : Hid (∀ w1, Below W.heap.size W w1 → w1.cell? ⟨wr.heap.size, 0, none⟩ = some (.string s) ∧ w1.cell? ⟨wr.heap.size, 1, none⟩ = some (.int .i64 n)) := Lib.hid fun w1 h => ⟨(h.cell (p := ⟨wr.heap.size, 0, none⟩) hlt.out).trans HX.out.1, (h.cell (p := ⟨wr.heap.size, 1, none⟩) hlt.out).trans HX.out.2⟩
          clear k0 k1
          refine region_st (fun j v w' => match j with | 0 => v = .agg #[.string s, .int .i64 n] | 1 => v = .bool true | 2 => v = .bool false | 3 => v = .bool false | 4 => v = .int .i64 (jx : Nat) | 5 => v = .bool false | 6 => v = .bool false | 7 => v = undef | 8 => v = undef | 9 => v = undef | 10 => v = undef | 11 => v = undef | 12 => v = undef | 13 => v = undef | 14 => v = undef | 15 => v = undef | 16 => v = .bool false | 17 => v = .bool false | _ => True) (fun _ w' => Below W.heap.size W w') (fun w1 w2 => Below w1.heap.size w1 w2) (by kernel_rfl) (by kernel_rfl) (by kernel_rfl) ?hR ?hG ?hops ?hend
          case hR =>
            intro j v w1 w2 hv hb
            match j, hv with
            | 0, hv => exact hv
            | 1, hv => exact hv
            | 2, hv => exact hv
            | 3, hv => exact hv
            | 4, hv => exact hv
            | 5, hv => exact hv
            | 6, hv => exact hv
            | 7, hv => exact hv
            | 8, hv => exact hv
            | 9, hv => exact hv
            | 10, hv => exact hv
            | 11, hv => exact hv
            | 12, hv => exact hv
            | 13, hv => exact hv
            | 14, hv => exact hv
            | 15, hv => exact hv
            | 16, hv => exact hv
            | 17, hv => exact hv
            | _ + 18, _ => exact trivial
          case hG => exact (Below.refl _ _).drew
          case hops =>
            refine OpsOkS.cons ?o0 (OpsOkS.cons ?o1 (OpsOkS.cons ?o2 (OpsOkS.cons ?o3 (OpsOkS.cons ?o4 (OpsOkS.cons ?o5 (OpsOkS.cons ?o6 (OpsOkS.cons ?o7 (OpsOkS.cons ?o8 (OpsOkS.cons ?o9 (OpsOkS.cons ?o10 (OpsOkS.cons ?o11 (OpsOkS.cons ?o12 (OpsOkS.cons ?o13 (OpsOkS.cons ?o14 (OpsOkS.cons ?o15 (OpsOkS.cons ?o16 (OpsOkS.cons ?o17 OpsOkS.nil)))))))))))))))))
            case o0 =>
              intro a w1 Kx hG need old hsz fresh hKx
              have e0 : a.tmps[4]?.getD undef = .pointer (some ⟨wr.heap.size, 0, none⟩) := by rw [← Array.getD_eq_getD_getElem?]; exact old 4 (by kernel_rfl)
              have j0 := (HK.out w1 hG).1
              have j1 := (HK.out w1 hG).2
              refine op_value (v := .agg #[.string s, .int .i64 n]) (wanted_none rfl) ?_ (hKx _ w1 rfl hG (Below.refl _ _))
              simp [execOp, go_sem, e0, j0, j1]
            case o1 =>
              intro a w1 Kx hG need old hsz fresh hKx
              have e0 : a.tmps[15]?.getD undef = .agg #[.string s, .int .i64 n] := by rw [← Array.getD_eq_getD_getElem?]; exact (need 0 (by kernel_rfl) (by kernel_rfl))
              refine op_call (wanted_none rfl) (f := 77) (args := #[.agg #[.string s, .int .i64 n]]) ?run ((HC.out w1).mono ?post)
              case run => simp [go_sem, e0]
              case post =>
                rintro e w2 ⟨rfl, hb2⟩
                exact ⟨_, rfl, hKx _ w2 rfl (hG.trans (hb2.mono hG.size)) hb2⟩
            case o2 =>
              intro a w1 Kx hG need old hsz fresh hKx
              have e0 : a.tmps[16]?.getD undef = .bool true := by rw [← Array.getD_eq_getD_getElem?]; exact (need 1 (by kernel_rfl) (by kernel_rfl))
              refine op_value (v := .bool false) (wanted_none rfl) ?_ (hKx _ w1 rfl hG (Below.refl _ _))
              simp [execOp, go_sem, e0]
            case o3 =>
              intro a w1 Kx hG need old hsz fresh hKx
              have e0 : a.tmps[17]?.getD undef = .bool false := by rw [← Array.getD_eq_getD_getElem?]; exact (need 2 (by kernel_rfl) (by kernel_rfl))
              refine op_value (v := .bool false) (wanted_none rfl) ?_ (hKx _ w1 rfl hG (Below.refl _ _))
              simp [execOp, go_sem, e0]
            case o4 =>
              intro a w1 Kx hG need old hsz fresh hKx
              have e0 : a.tmps[3]?.getD undef = .int .i64 (jx : Nat) := by rw [← Array.getD_eq_getD_getElem?]; exact old 3 (by kernel_rfl)
              refine op_value (v := .int .i64 (jx : Nat)) (wanted_of (j := 3) rfl (need 3 (by kernel_rfl) (by kernel_rfl))) ?_ (hKx _ w1 rfl hG (Below.refl _ _))
              simp [execOp, go_sem, e0]
            case o5 =>
              intro a w1 Kx hG need old hsz fresh hKx
              have e0 : a.tmps[19]?.getD undef = .int .i64 (jx : Nat) := by rw [← Array.getD_eq_getD_getElem?]; exact (need 4 (by kernel_rfl) (by kernel_rfl))
              refine op_value (v := .bool false) (wanted_of (j := 3) rfl (need 3 (by kernel_rfl) (by kernel_rfl))) ?_ (hKx _ w1 rfl hG (Below.refl _ _))
              simp [execOp, go_sem, e0]; exact hjz.out
            case o6 =>
              intro a w1 Kx hG need old hsz fresh hKx
              have e0 : a.tmps[20]?.getD undef = .bool false := by rw [← Array.getD_eq_getD_getElem?]; exact (need 5 (by kernel_rfl) (by kernel_rfl))
              refine op_value (v := .bool false) (wanted_of (j := 3) rfl (need 3 (by kernel_rfl) (by kernel_rfl))) ?_ (hKx _ w1 rfl hG (Below.refl _ _))
              simp [execOp, go_sem, e0]
            case o7 =>
              intro a w1 Kx hG need old hsz fresh hKx
              exact skip_op (j := 6) rfl (need 6 (by kernel_rfl) (by kernel_rfl)) (by decide) (hKx undef w1 rfl hG (Below.refl _ _))
            case o8 =>
              intro a w1 Kx hG need old hsz fresh hKx
              exact skip_op (j := 6) rfl (need 6 (by kernel_rfl) (by kernel_rfl)) (by decide) (hKx undef w1 rfl hG (Below.refl _ _))
            case o9 =>
              intro a w1 Kx hG need old hsz fresh hKx
              exact skip_op (j := 6) rfl (need 6 (by kernel_rfl) (by kernel_rfl)) (by decide) (hKx undef w1 rfl hG (Below.refl _ _))
            case o10 =>
              intro a w1 Kx hG need old hsz fresh hKx
              exact skip_op (j := 6) rfl (need 6 (by kernel_rfl) (by kernel_rfl)) (by decide) (hKx undef w1 rfl hG (Below.refl _ _))
            case o11 =>
              intro a w1 Kx hG need old hsz fresh hKx
              exact skip_op (j := 6) rfl (need 6 (by kernel_rfl) (by kernel_rfl)) (by decide) (hKx undef w1 rfl hG (Below.refl _ _))
            case o12 =>
              intro a w1 Kx hG need old hsz fresh hKx
              exact skip_op (j := 6) rfl (need 6 (by kernel_rfl) (by kernel_rfl)) (by decide) (hKx undef w1 rfl hG (Below.refl _ _))
            case o13 =>
              intro a w1 Kx hG need old hsz fresh hKx
              exact skip_op (j := 6) rfl (need 6 (by kernel_rfl) (by kernel_rfl)) (by decide) (hKx undef w1 rfl hG (Below.refl _ _))
            case o14 =>
              intro a w1 Kx hG need old hsz fresh hKx
              exact skip_op (j := 6) rfl (need 6 (by kernel_rfl) (by kernel_rfl)) (by decide) (hKx undef w1 rfl hG (Below.refl _ _))
            case o15 =>
              intro a w1 Kx hG need old hsz fresh hKx
              exact skip_op (j := 6) rfl (need 6 (by kernel_rfl) (by kernel_rfl)) (by decide) (hKx undef w1 rfl hG (Below.refl _ _))
            case o16 =>
              intro a w1 Kx hG need old hsz fresh hKx
              have e0 : a.tmps[21]?.getD undef = .bool false := by rw [← Array.getD_eq_getD_getElem?]; exact (need 6 (by kernel_rfl) (by kernel_rfl))
              refine op_value (v := .bool false) (wanted_of (j := 3) rfl (need 3 (by kernel_rfl) (by kernel_rfl))) ?_ (hKx _ w1 rfl hG (Below.refl _ _))
              simp [execOp, go_sem, asBool, e0]
            case o17 =>
              intro a w1 Kx hG need old hsz fresh hKx
              have e0 : a.tmps[18]?.getD undef = .bool false := by rw [← Array.getD_eq_getD_getElem?]; exact (need 3 (by kernel_rfl) (by kernel_rfl))
              have e1 : a.tmps[31]?.getD undef = .bool false := by rw [← Array.getD_eq_getD_getElem?]; exact (need 16 (by kernel_rfl) (by kernel_rfl))
              refine op_value (v := .bool false) (wanted_none rfl) ?_ (hKx _ w1 rfl hG (Below.refl _ _))
              simp [execOp, go_sem, asBool, e0, e1]
          case hend =>
            intro a w6 hG hde hsz hφ hold
            obtain rfl := act_puts [(15, .agg #[.string s, .int .i64 n]), (16, .bool true), (17, .bool false), (18, .bool false), (19, .int .i64 (jx : Nat)), (20, .bool false), (21, .bool false), (22, undef), (23, undef), (24, undef), (25, undef), (26, undef), (27, undef), (28, undef), (29, undef), (30, undef), (31, .bool false), (32, .bool false)] [15, 16, 17, 18, 19, 20, 21, 22, 23, 24, 25, 26, 27, 28, 29, 30, 31, 32] rfl (by kernel_rfl) (by kernel_rfl) hde hsz (List.forall_mem_cons.2 ⟨(show a.tmps.getD 15 undef = .agg #[.string s, .int .i64 n] from (hφ 0 (by kernel_rfl))), (List.forall_mem_cons.2 ⟨(show a.tmps.getD 16 undef = .bool true from (hφ 1 (by kernel_rfl))), (List.forall_mem_cons.2 ⟨(show a.tmps.getD 17 undef = .bool false from (hφ 2 (by kernel_rfl))), (List.forall_mem_cons.2 ⟨(show a.tmps.getD 18 undef = .bool false from (hφ 3 (by kernel_rfl))), (List.forall_mem_cons.2 ⟨(show a.tmps.getD 19 undef = .int .i64 (jx : Nat) from (hφ 4 (by kernel_rfl))), (List.forall_mem_cons.2 ⟨(show a.tmps.getD 20 undef = .bool false from (hφ 5 (by kernel_rfl))), (List.forall_mem_cons.2 ⟨(show a.tmps.getD 21 undef = .bool false from (hφ 6 (by kernel_rfl))), (List.forall_mem_cons.2 ⟨(show a.tmps.getD 22 undef = undef from (hφ 7 (by kernel_rfl))), (List.forall_mem_cons.2 ⟨(show a.tmps.getD 23 undef = undef from (hφ 8 (by kernel_rfl))), (List.forall_mem_cons.2 ⟨(show a.tmps.getD 24 undef = undef from (hφ 9 (by kernel_rfl))), (List.forall_mem_cons.2 ⟨(show a.tmps.getD 25 undef = undef from (hφ 10 (by kernel_rfl))), (List.forall_mem_cons.2 ⟨(show a.tmps.getD 26 undef = undef from (hφ 11 (by kernel_rfl))), (List.forall_mem_cons.2 ⟨(show a.tmps.getD 27 undef = undef from (hφ 12 (by kernel_rfl))), (List.forall_mem_cons.2 ⟨(show a.tmps.getD 28 undef = undef from (hφ 13 (by kernel_rfl))), (List.forall_mem_cons.2 ⟨(show a.tmps.getD 29 undef = undef from (hφ 14 (by kernel_rfl))), (List.forall_mem_cons.2 ⟨(show a.tmps.getD 30 undef = undef from (hφ 15 (by kernel_rfl))), (List.forall_mem_cons.2 ⟨(show a.tmps.getD 31 undef = .bool false from (hφ 16 (by kernel_rfl))), (List.forall_mem_cons.2 ⟨(show a.tmps.getD 32 undef = .bool false from (hφ 17 (by kernel_rfl))), (fun _ h => absurd h (by simp))⟩)⟩)⟩)⟩)⟩)⟩)⟩)⟩)⟩)⟩)⟩)⟩)⟩)⟩)⟩)⟩)⟩)⟩) hold
            clear hφ hold hsz hde
            simp only [putAll]
            go_frame
            have HB2 := Lib.hid (HBW.out.trans (hG.mono HBW.out.size))
            clear hG
            go_wp2_with fail
            go_roundw
            case rel =>
              refine ⟨jx + 1, by omega, by go_num, Lib.hid ⟨fun i hi h => ?_, fun i hi h => absurd h (by have := hjz.out; omega)⟩, HB2.out⟩
              obtain rfl : i = jx := by have := hjz.out; omega
              exact hm2.out
            case measure => simp [RowKit.intOf]; omega
        · have d3 : decide ((0 : Int) < (jx : Int)) = true := decide_eq_true (by omega)
          obtain ⟨k, hk⟩ : ∃ k, jx = k + 1 := ⟨jx - 1, by omega⟩
          have HWK : IntKind.i64.wrap ((jx : Int) - 1) = (k : Nat) := by rw [i64w_idE _ (by omega)]; omega
          have hkl : k < l.length := by omega
          have hcd := (hc'.out k hkl).1
          obtain ⟨t, ht⟩ : ∃ t, ltB l[k].1 s = t := ⟨_, rfl⟩
          have ht2 := Lib.hid ht
          obtain ⟨z, hz⟩ : ∃ z, l[k].1 = z := ⟨_, rfl⟩
          rw [hz] at hcd ht
          rw [← less_ltB] at ht
          have ht3 : Hid (Op.bytesLess z.toList s.toList = t) := Lib.hid ht
          have hkk := Lib.hid hk
          clear hz ht hk
          have HIX : ∀ w, (Instr.indexAt 30 (.slice (some ⟨B, o, none⟩) l.length c) (.int .i64 (k : Nat))).run Tryd.prog w = .ok (.pointer (some ⟨B, o + k * 2, none⟩)) w := fun w => by
            have e0 : ¬ ((k : Int) < 0) := by omega
            simp [go_sem, hkl]
          go_wp2_with fail
          generalize wr.alloc _ = W at HBW HRW HX hlt ⊢
          have HK : Hid (∀ w1, Below W.heap.size W w1 → w1.cell? ⟨wr.heap.size, 0, none⟩ = some (.string s) ∧ w1.cell? ⟨wr.heap.size, 1, none⟩ = some (.int .i64 n) ∧ w1.cell? ⟨B, o + k * 2, none⟩ = some (.string z)) := Lib.hid fun w1 h => ⟨(h.cell (p := ⟨wr.heap.size, 0, none⟩) hlt.out).trans HX.out.1, (h.cell (p := ⟨wr.heap.size, 1, none⟩) hlt.out).trans HX.out.2, (h.cell (p := ⟨B, o + k * 2, none⟩) (Nat.lt_of_lt_of_le hBs HRW.out.size)).trans ((HRW.out.cell (p := ⟨B, o + k * 2, none⟩) hBs).trans hcd)⟩
          have HIX2 := Lib.hid HIX
          clear k0 k1 HIX hcd
          cases t with
          | true =>
            refine region_st (fun j v w' => match j with | 0 => v = .agg #[.string s, .int .i64 n] | 1 => v = .bool true | 2 => v = .bool false | 3 => v = .bool false | 4 => v = .int .i64 (jx : Nat) | 5 => v = .bool true | 6 => v = .bool true | 7 => v = .slice (some ⟨B, o, none⟩) l.length c | 8 => v = .int .i64 (jx : Nat) | 9 => v = .int .i64 (k : Nat) | 10 => v = .pointer (some ⟨B, o + k * 2, none⟩) | 11 => v = .pointer (some ⟨B, o + k * 2, none⟩) | 12 => v = .string z | 13 => v = .pointer (some ⟨wr.heap.size, 0, none⟩) | 14 => v = .string s | 15 => v = .bool false | 16 => v = .bool false | 17 => v = .bool false | _ => True) (fun _ w' => Below W.heap.size W w') (fun w1 w2 => Below w1.heap.size w1 w2) (by kernel_rfl) (by kernel_rfl) (by kernel_rfl) ?hR ?hG ?hops ?hend
            case hR =>
              intro j v w1 w2 hv hb
              match j, hv with
              | 0, hv => exact hv
              | 1, hv => exact hv
              | 2, hv => exact hv
              | 3, hv => exact hv
              | 4, hv => exact hv
              | 5, hv => exact hv
              | 6, hv => exact hv
              | 7, hv => exact hv
              | 8, hv => exact hv
              | 9, hv => exact hv
              | 10, hv => exact hv
              | 11, hv => exact hv
              | 12, hv => exact hv
              | 13, hv => exact hv
              | 14, hv => exact hv
              | 15, hv => exact hv
              | 16, hv => exact hv
              | 17, hv => exact hv
              | _ + 18, _ => exact trivial
            case hG => exact (Below.refl _ _).drew
            case hops =>
              refine OpsOkS.cons ?o0 (OpsOkS.cons ?o1 (OpsOkS.cons ?o2 (OpsOkS.cons ?o3 (OpsOkS.cons ?o4 (OpsOkS.cons ?o5 (OpsOkS.cons ?o6 (OpsOkS.cons ?o7 (OpsOkS.cons ?o8 (OpsOkS.cons ?o9 (OpsOkS.cons ?o10 (OpsOkS.cons ?o11 (OpsOkS.cons ?o12 (OpsOkS.cons ?o13 (OpsOkS.cons ?o14 (OpsOkS.cons ?o15 (OpsOkS.cons ?o16 (OpsOkS.cons ?o17 OpsOkS.nil)))))))))))))))))
              case o0 =>
                intro a w1 Kx hG need old hsz fresh hKx
                have e0 : a.tmps[4]?.getD undef = .pointer (some ⟨wr.heap.size, 0, none⟩) := by rw [← Array.getD_eq_getD_getElem?]; exact old 4 (by kernel_rfl)
                have j0 := (HK.out w1 hG).1
                have j1 := (HK.out w1 hG).2.1
                refine op_value (v := .agg #[.string s, .int .i64 n]) (wanted_none rfl) ?_ (hKx _ w1 rfl hG (Below.refl _ _))
                simp [execOp, go_sem, e0, j0, j1]
              case o1 =>
                intro a w1 Kx hG need old hsz fresh hKx
                have e0 : a.tmps[15]?.getD undef = .agg #[.string s, .int .i64 n] := by rw [← Array.getD_eq_getD_getElem?]; exact (need 0 (by kernel_rfl) (by kernel_rfl))
                refine op_call (wanted_none rfl) (f := 77) (args := #[.agg #[.string s, .int .i64 n]]) ?run ((HC.out w1).mono ?post)
                case run => simp [go_sem, e0]
                case post =>
                  rintro e w2 ⟨rfl, hb2⟩
                  exact ⟨_, rfl, hKx _ w2 rfl (hG.trans (hb2.mono hG.size)) hb2⟩
              case o2 =>
                intro a w1 Kx hG need old hsz fresh hKx
                have e0 : a.tmps[16]?.getD undef = .bool true := by rw [← Array.getD_eq_getD_getElem?]; exact (need 1 (by kernel_rfl) (by kernel_rfl))
                refine op_value (v := .bool false) (wanted_none rfl) ?_ (hKx _ w1 rfl hG (Below.refl _ _))
                simp [execOp, go_sem, e0]
              case o3 =>
                intro a w1 Kx hG need old hsz fresh hKx
                have e0 : a.tmps[17]?.getD undef = .bool false := by rw [← Array.getD_eq_getD_getElem?]; exact (need 2 (by kernel_rfl) (by kernel_rfl))
                refine op_value (v := .bool false) (wanted_none rfl) ?_ (hKx _ w1 rfl hG (Below.refl _ _))
                simp [execOp, go_sem, e0]
              case o4 =>
                intro a w1 Kx hG need old hsz fresh hKx
                have e0 : a.tmps[3]?.getD undef = .int .i64 (jx : Nat) := by rw [← Array.getD_eq_getD_getElem?]; exact old 3 (by kernel_rfl)
                refine op_value (v := .int .i64 (jx : Nat)) (wanted_of (j := 3) rfl (need 3 (by kernel_rfl) (by kernel_rfl))) ?_ (hKx _ w1 rfl hG (Below.refl _ _))
                simp [execOp, go_sem, e0]
              case o5 =>
                intro a w1 Kx hG need old hsz fresh hKx
                have e0 : a.tmps[19]?.getD undef = .int .i64 (jx : Nat) := by rw [← Array.getD_eq_getD_getElem?]; exact (need 4 (by kernel_rfl) (by kernel_rfl))
                refine op_value (v := .bool true) (wanted_of (j := 3) rfl (need 3 (by kernel_rfl) (by kernel_rfl))) ?_ (hKx _ w1 rfl hG (Below.refl _ _))
                simp [execOp, go_sem, e0]; omega
              case o6 =>
                intro a w1 Kx hG need old hsz fresh hKx
                have e0 : a.tmps[20]?.getD undef = .bool true := by rw [← Array.getD_eq_getD_getElem?]; exact (need 5 (by kernel_rfl) (by kernel_rfl))
                refine op_value (v := .bool true) (wanted_of (j := 3) rfl (need 3 (by kernel_rfl) (by kernel_rfl))) ?_ (hKx _ w1 rfl hG (Below.refl _ _))
                simp [execOp, go_sem, e0]
              case o7 =>
                intro a w1 Kx hG need old hsz fresh hKx
                have e0 : a.tmps[0]?.getD undef = .slice (some ⟨B, o, none⟩) l.length c := by rw [← Array.getD_eq_getD_getElem?]; exact old 0 (by kernel_rfl)
                refine op_value (v := .slice (some ⟨B, o, none⟩) l.length c) (wanted_of (j := 6) rfl (need 6 (by kernel_rfl) (by kernel_rfl))) ?_ (hKx _ w1 rfl hG (Below.refl _ _))
                simp [execOp, go_sem, e0]
              case o8 =>
                intro a w1 Kx hG need old hsz fresh hKx
                have e0 : a.tmps[3]?.getD undef = .int .i64 (jx : Nat) := by rw [← Array.getD_eq_getD_getElem?]; exact old 3 (by kernel_rfl)
                refine op_value (v := .int .i64 (jx : Nat)) (wanted_of (j := 6) rfl (need 6 (by kernel_rfl) (by kernel_rfl))) ?_ (hKx _ w1 rfl hG (Below.refl _ _))
                simp [execOp, go_sem, e0]
              case o9 =>
                intro a w1 Kx hG need old hsz fresh hKx
                have e0 : a.tmps[23]?.getD undef = .int .i64 (jx : Nat) := by rw [← Array.getD_eq_getD_getElem?]; exact (need 8 (by kernel_rfl) (by kernel_rfl))
                refine op_value (v := .int .i64 (k : Nat)) (wanted_of (j := 6) rfl (need 6 (by kernel_rfl) (by kernel_rfl))) ?_ (hKx _ w1 rfl hG (Below.refl _ _))
                simp [execOp, go_sem, e0, HWK]
              case o10 =>
                intro a w1 Kx hG need old hsz fresh hKx
                have e0 : a.tmps[22]?.getD undef = .slice (some ⟨B, o, none⟩) l.length c := by rw [← Array.getD_eq_getD_getElem?]; exact (need 7 (by kernel_rfl) (by kernel_rfl))
                have e1 : a.tmps[24]?.getD undef = .int .i64 (k : Nat) := by rw [← Array.getD_eq_getD_getElem?]; exact (need 9 (by kernel_rfl) (by kernel_rfl))
                refine op_value (v := .pointer (some ⟨B, o + k * 2, none⟩)) (wanted_of (j := 6) rfl (need 6 (by kernel_rfl) (by kernel_rfl))) ?_ (hKx _ w1 rfl hG (Below.refl _ _))
                simp [execOp, go_sem, e0, e1, HIX2.out]
              case o11 =>
                intro a w1 Kx hG need old hsz fresh hKx
                have e0 : a.tmps[25]?.getD undef = .pointer (some ⟨B, o + k * 2, none⟩) := by rw [← Array.getD_eq_getD_getElem?]; exact (need 10 (by kernel_rfl) (by kernel_rfl))
                refine op_value (v := .pointer (some ⟨B, o + k * 2, none⟩)) (wanted_of (j := 6) rfl (need 6 (by kernel_rfl) (by kernel_rfl))) ?_ (hKx _ w1 rfl hG (Below.refl _ _))
                simp [execOp, go_sem, e0]
              case o12 =>
                intro a w1 Kx hG need old hsz fresh hKx
                have e0 : a.tmps[26]?.getD undef = .pointer (some ⟨B, o + k * 2, none⟩) := by rw [← Array.getD_eq_getD_getElem?]; exact (need 11 (by kernel_rfl) (by kernel_rfl))
                have k0 := (HK.out w1 hG).2.2
                refine op_value (v := .string z) (wanted_of (j := 6) rfl (need 6 (by kernel_rfl) (by kernel_rfl))) ?_ (hKx _ w1 rfl hG (Below.refl _ _))
                simp [execOp, go_sem, e0, k0]
              case o13 =>
                intro a w1 Kx hG need old hsz fresh hKx
                have e0 : a.tmps[4]?.getD undef = .pointer (some ⟨wr.heap.size, 0, none⟩) := by rw [← Array.getD_eq_getD_getElem?]; exact old 4 (by kernel_rfl)
                refine op_value (v := .pointer (some ⟨wr.heap.size, 0, none⟩)) (wanted_of (j := 6) rfl (need 6 (by kernel_rfl) (by kernel_rfl))) ?_ (hKx _ w1 rfl hG (Below.refl _ _))
                simp [execOp, go_sem, e0]
              case o14 =>
                intro a w1 Kx hG need old hsz fresh hKx
                have e0 : a.tmps[28]?.getD undef = .pointer (some ⟨wr.heap.size, 0, none⟩) := by rw [← Array.getD_eq_getD_getElem?]; exact (need 13 (by kernel_rfl) (by kernel_rfl))
                have k0 := (HK.out w1 hG).1
                refine op_value (v := .string s) (wanted_of (j := 6) rfl (need 6 (by kernel_rfl) (by kernel_rfl))) ?_ (hKx _ w1 rfl hG (Below.refl _ _))
                simp [execOp, go_sem, e0, k0]
              case o15 =>
                intro a w1 Kx hG need old hsz fresh hKx
                have e0 : a.tmps[27]?.getD undef = .string z := by rw [← Array.getD_eq_getD_getElem?]; exact (need 12 (by kernel_rfl) (by kernel_rfl))
                have e1 : a.tmps[29]?.getD undef = .string s := by rw [← Array.getD_eq_getD_getElem?]; exact (need 14 (by kernel_rfl) (by kernel_rfl))
                refine op_value (v := .bool false) (wanted_of (j := 6) rfl (need 6 (by kernel_rfl) (by kernel_rfl))) ?_ (hKx _ w1 rfl hG (Below.refl _ _))
                simp [execOp, go_sem, e0, e1]; exact ht3.out
              case o16 =>
                intro a w1 Kx hG need old hsz fresh hKx
                have e0 : a.tmps[21]?.getD undef = .bool true := by rw [← Array.getD_eq_getD_getElem?]; exact (need 6 (by kernel_rfl) (by kernel_rfl))
                have e1 : a.tmps[30]?.getD undef = .bool false := by rw [← Array.getD_eq_getD_getElem?]; exact (need 15 (by kernel_rfl) (by kernel_rfl))
                refine op_value (v := .bool false) (wanted_of (j := 3) rfl (need 3 (by kernel_rfl) (by kernel_rfl))) ?_ (hKx _ w1 rfl hG (Below.refl _ _))
                simp [execOp, go_sem, asBool, e0, e1]
              case o17 =>
                intro a w1 Kx hG need old hsz fresh hKx
                have e0 : a.tmps[18]?.getD undef = .bool false := by rw [← Array.getD_eq_getD_getElem?]; exact (need 3 (by kernel_rfl) (by kernel_rfl))
                have e1 : a.tmps[31]?.getD undef = .bool false := by rw [← Array.getD_eq_getD_getElem?]; exact (need 16 (by kernel_rfl) (by kernel_rfl))
                refine op_value (v := .bool false) (wanted_none rfl) ?_ (hKx _ w1 rfl hG (Below.refl _ _))
                simp [execOp, go_sem, asBool, e0, e1]
            case hend =>
              intro a w6 hG hde hsz hφ hold
              obtain rfl := act_puts [(15, .agg #[.string s, .int .i64 n]), (16, .bool true), (17, .bool false), (18, .bool false), (19, .int .i64 (jx : Nat)), (20, .bool true), (21, .bool true), (22, .slice (some ⟨B, o, none⟩) l.length c), (23, .int .i64 (jx : Nat)), (24, .int .i64 (k : Nat)), (25, .pointer (some ⟨B, o + k * 2, none⟩)), (26, .pointer (some ⟨B, o + k * 2, none⟩)), (27, .string z), (28, .pointer (some ⟨wr.heap.size, 0, none⟩)), (29, .string s), (30, .bool false), (31, .bool false), (32, .bool false)] [15, 16, 17, 18, 19, 20, 21, 22, 23, 24, 25, 26, 27, 28, 29, 30, 31, 32] rfl (by kernel_rfl) (by kernel_rfl) hde hsz (List.forall_mem_cons.2 ⟨(show a.tmps.getD 15 undef = .agg #[.string s, .int .i64 n] from (hφ 0 (by kernel_rfl))), (List.forall_mem_cons.2 ⟨(show a.tmps.getD 16 undef = .bool true from (hφ 1 (by kernel_rfl))), (List.forall_mem_cons.2 ⟨(show a.tmps.getD 17 undef = .bool false from (hφ 2 (by kernel_rfl))), (List.forall_mem_cons.2 ⟨(show a.tmps.getD 18 undef = .bool false from (hφ 3 (by kernel_rfl))), (List.forall_mem_cons.2 ⟨(show a.tmps.getD 19 undef = .int .i64 (jx : Nat) from (hφ 4 (by kernel_rfl))), (List.forall_mem_cons.2 ⟨(show a.tmps.getD 20 undef = .bool true from (hφ 5 (by kernel_rfl))), (List.forall_mem_cons.2 ⟨(show a.tmps.getD 21 undef = .bool true from (hφ 6 (by kernel_rfl))), (List.forall_mem_cons.2 ⟨(show a.tmps.getD 22 undef = .slice (some ⟨B, o, none⟩) l.length c from (hφ 7 (by kernel_rfl))), (List.forall_mem_cons.2 ⟨(show a.tmps.getD 23 undef = .int .i64 (jx : Nat) from (hφ 8 (by kernel_rfl))), (List.forall_mem_cons.2 ⟨(show a.tmps.getD 24 undef = .int .i64 (k : Nat) from (hφ 9 (by kernel_rfl))), (List.forall_mem_cons.2 ⟨(show a.tmps.getD 25 undef = .pointer (some ⟨B, o + k * 2, none⟩) from (hφ 10 (by kernel_rfl))), (List.forall_mem_cons.2 ⟨(show a.tmps.getD 26 undef = .pointer (some ⟨B, o + k * 2, none⟩) from (hφ 11 (by kernel_rfl))), (List.forall_mem_cons.2 ⟨(show a.tmps.getD 27 undef = .string z from (hφ 12 (by kernel_rfl))), (List.forall_mem_cons.2 ⟨(show a.tmps.getD 28 undef = .pointer (some ⟨wr.heap.size, 0, none⟩) from (hφ 13 (by kernel_rfl))), (List.forall_mem_cons.2 ⟨(show a.tmps.getD 29 undef = .string s from (hφ 14 (by kernel_rfl))), (List.forall_mem_cons.2 ⟨(show a.tmps.getD 30 undef = .bool false from (hφ 15 (by kernel_rfl))), (List.forall_mem_cons.2 ⟨(show a.tmps.getD 31 undef = .bool false from (hφ 16 (by kernel_rfl))), (List.forall_mem_cons.2 ⟨(show a.tmps.getD 32 undef = .bool false from (hφ 17 (by kernel_rfl))), (fun _ h => absurd h (by simp))⟩)⟩)⟩)⟩)⟩)⟩)⟩)⟩)⟩)⟩)⟩)⟩)⟩)⟩)⟩)⟩)⟩)⟩) hold
              clear hφ hold hsz hde
              simp only [putAll]
              go_frame
              have HB2 := Lib.hid (HBW.out.trans (hG.mono HBW.out.size))
              clear hG
              go_wp2_with fail
              go_roundw
              case rel =>
                refine ⟨jx + 1, by omega, by go_num, Lib.hid ⟨fun i hi h => ?_, fun i hi h => ?_⟩, HB2.out⟩
                · by_cases e : i = jx
                  · subst e; exact hm2.out
                  · exact HI.out.1 i hi (by omega)
                · by_cases e : i = k
                  · subst e
                    have hkj : l[i + 1].1 = s := by
                      have := hq2.out
                      simp only [hkk.out] at this
                      rw [this]
                    rw [hkj]; exact ht2.out
                  · exact HI.out.2 i hi (by have := hkk.out; omega)
              case measure => simp [RowKit.intOf]; omega
          | false =>
            have hF : R = false := by
              rw [← hR.out]
              have hj2 := hkk.out
              subst hj2
              refine mayEs_two hj1 ?_
              have := hq2.out
              rw [this]; exact ht2.out
            subst hF
            refine region_st (fun j v w' => match j with | 0 => v = .agg #[.string s, .int .i64 n] | 1 => v = .bool true | 2 => v = .bool false | 3 => v = .bool false | 4 => v = .int .i64 (jx : Nat) | 5 => v = .bool true | 6 => v = .bool true | 7 => v = .slice (some ⟨B, o, none⟩) l.length c | 8 => v = .int .i64 (jx : Nat) | 9 => v = .int .i64 (k : Nat) | 10 => v = .pointer (some ⟨B, o + k * 2, none⟩) | 11 => v = .pointer (some ⟨B, o + k * 2, none⟩) | 12 => v = .string z | 13 => v = .pointer (some ⟨wr.heap.size, 0, none⟩) | 14 => v = .string s | 15 => v = .bool true | 16 => v = .bool true | 17 => v = .bool true | _ => True) (fun _ w' => Below W.heap.size W w') (fun w1 w2 => Below w1.heap.size w1 w2) (by kernel_rfl) (by kernel_rfl) (by kernel_rfl) ?hR ?hG ?hops ?hend
            case hR =>
              intro j v w1 w2 hv hb
              match j, hv with
              | 0, hv => exact hv
              | 1, hv => exact hv
              | 2, hv => exact hv
              | 3, hv => exact hv
              | 4, hv => exact hv
              | 5, hv => exact hv
              | 6, hv => exact hv
              | 7, hv => exact hv
              | 8, hv => exact hv
              | 9, hv => exact hv
              | 10, hv => exact hv
              | 11, hv => exact hv
              | 12, hv => exact hv
              | 13, hv => exact hv
              | 14, hv => exact hv
              | 15, hv => exact hv
              | 16, hv => exact hv
              | 17, hv => exact hv
              | _ + 18, _ => exact trivial
            case hG => exact (Below.refl _ _).drew
            case hops =>
              refine OpsOkS.cons ?o0 (OpsOkS.cons ?o1 (OpsOkS.cons ?o2 (OpsOkS.cons ?o3 (OpsOkS.cons ?o4 (OpsOkS.cons ?o5 (OpsOkS.cons ?o6 (OpsOkS.cons ?o7 (OpsOkS.cons ?o8 (OpsOkS.cons ?o9 (OpsOkS.cons ?o10 (OpsOkS.cons ?o11 (OpsOkS.cons ?o12 (OpsOkS.cons ?o13 (OpsOkS.cons ?o14 (OpsOkS.cons ?o15 (OpsOkS.cons ?o16 (OpsOkS.cons ?o17 OpsOkS.nil)))))))))))))))))
              case o0 =>
                intro a w1 Kx hG need old hsz fresh hKx
                have e0 : a.tmps[4]?.getD undef = .pointer (some ⟨wr.heap.size, 0, none⟩) := by rw [← Array.getD_eq_getD_getElem?]; exact old 4 (by kernel_rfl)
                have j0 := (HK.out w1 hG).1
                have j1 := (HK.out w1 hG).2.1
                refine op_value (v := .agg #[.string s, .int .i64 n]) (wanted_none rfl) ?_ (hKx _ w1 rfl hG (Below.refl _ _))
                simp [execOp, go_sem, e0, j0, j1]
              case o1 =>
                intro a w1 Kx hG need old hsz fresh hKx
                have e0 : a.tmps[15]?.getD undef = .agg #[.string s, .int .i64 n] := by rw [← Array.getD_eq_getD_getElem?]; exact (need 0 (by kernel_rfl) (by kernel_rfl))
                refine op_call (wanted_none rfl) (f := 77) (args := #[.agg #[.string s, .int .i64 n]]) ?run ((HC.out w1).mono ?post)
                case run => simp [go_sem, e0]
                case post =>
                  rintro e w2 ⟨rfl, hb2⟩
                  exact ⟨_, rfl, hKx _ w2 rfl (hG.trans (hb2.mono hG.size)) hb2⟩
              case o2 =>
                intro a w1 Kx hG need old hsz fresh hKx
                have e0 : a.tmps[16]?.getD undef = .bool true := by rw [← Array.getD_eq_getD_getElem?]; exact (need 1 (by kernel_rfl) (by kernel_rfl))
                refine op_value (v := .bool false) (wanted_none rfl) ?_ (hKx _ w1 rfl hG (Below.refl _ _))
                simp [execOp, go_sem, e0]
              case o3 =>
                intro a w1 Kx hG need old hsz fresh hKx
                have e0 : a.tmps[17]?.getD undef = .bool false := by rw [← Array.getD_eq_getD_getElem?]; exact (need 2 (by kernel_rfl) (by kernel_rfl))
                refine op_value (v := .bool false) (wanted_none rfl) ?_ (hKx _ w1 rfl hG (Below.refl _ _))
                simp [execOp, go_sem, e0]
              case o4 =>
                intro a w1 Kx hG need old hsz fresh hKx
                have e0 : a.tmps[3]?.getD undef = .int .i64 (jx : Nat) := by rw [← Array.getD_eq_getD_getElem?]; exact old 3 (by kernel_rfl)
                refine op_value (v := .int .i64 (jx : Nat)) (wanted_of (j := 3) rfl (need 3 (by kernel_rfl) (by kernel_rfl))) ?_ (hKx _ w1 rfl hG (Below.refl _ _))
                simp [execOp, go_sem, e0]
              case o5 =>
                intro a w1 Kx hG need old hsz fresh hKx
                have e0 : a.tmps[19]?.getD undef = .int .i64 (jx : Nat) := by rw [← Array.getD_eq_getD_getElem?]; exact (need 4 (by kernel_rfl) (by kernel_rfl))
                refine op_value (v := .bool true) (wanted_of (j := 3) rfl (need 3 (by kernel_rfl) (by kernel_rfl))) ?_ (hKx _ w1 rfl hG (Below.refl _ _))
                simp [execOp, go_sem, e0]; omega
              case o6 =>
                intro a w1 Kx hG need old hsz fresh hKx
                have e0 : a.tmps[20]?.getD undef = .bool true := by rw [← Array.getD_eq_getD_getElem?]; exact (need 5 (by kernel_rfl) (by kernel_rfl))
                refine op_value (v := .bool true) (wanted_of (j := 3) rfl (need 3 (by kernel_rfl) (by kernel_rfl))) ?_ (hKx _ w1 rfl hG (Below.refl _ _))
                simp [execOp, go_sem, e0]
              case o7 =>
                intro a w1 Kx hG need old hsz fresh hKx
                have e0 : a.tmps[0]?.getD undef = .slice (some ⟨B, o, none⟩) l.length c := by rw [← Array.getD_eq_getD_getElem?]; exact old 0 (by kernel_rfl)
                refine op_value (v := .slice (some ⟨B, o, none⟩) l.length c) (wanted_of (j := 6) rfl (need 6 (by kernel_rfl) (by kernel_rfl))) ?_ (hKx _ w1 rfl hG (Below.refl _ _))
                simp [execOp, go_sem, e0]
              case o8 =>
                intro a w1 Kx hG need old hsz fresh hKx
                have e0 : a.tmps[3]?.getD undef = .int .i64 (jx : Nat) := by rw [← Array.getD_eq_getD_getElem?]; exact old 3 (by kernel_rfl)
                refine op_value (v := .int .i64 (jx : Nat)) (wanted_of (j := 6) rfl (need 6 (by kernel_rfl) (by kernel_rfl))) ?_ (hKx _ w1 rfl hG (Below.refl _ _))
                simp [execOp, go_sem, e0]
              case o9 =>
                intro a w1 Kx hG need old hsz fresh hKx
                have e0 : a.tmps[23]?.getD undef = .int .i64 (jx : Nat) := by rw [← Array.getD_eq_getD_getElem?]; exact (need 8 (by kernel_rfl) (by kernel_rfl))
                refine op_value (v := .int .i64 (k : Nat)) (wanted_of (j := 6) rfl (need 6 (by kernel_rfl) (by kernel_rfl))) ?_ (hKx _ w1 rfl hG (Below.refl _ _))
                simp [execOp, go_sem, e0, HWK]
              case o10 =>
                intro a w1 Kx hG need old hsz fresh hKx
                have e0 : a.tmps[22]?.getD undef = .slice (some ⟨B, o, none⟩) l.length c := by rw [← Array.getD_eq_getD_getElem?]; exact (need 7 (by kernel_rfl) (by kernel_rfl))
                have e1 : a.tmps[24]?.getD undef = .int .i64 (k : Nat) := by rw [← Array.getD_eq_getD_getElem?]; exact (need 9 (by kernel_rfl) (by kernel_rfl))
                refine op_value (v := .pointer (some ⟨B, o + k * 2, none⟩)) (wanted_of (j := 6) rfl (need 6 (by kernel_rfl) (by kernel_rfl))) ?_ (hKx _ w1 rfl hG (Below.refl _ _))
                simp [execOp, go_sem, e0, e1, HIX2.out]
              case o11 =>
                intro a w1 Kx hG need old hsz fresh hKx
                have e0 : a.tmps[25]?.getD undef = .pointer (some ⟨B, o + k * 2, none⟩) := by rw [← Array.getD_eq_getD_getElem?]; exact (need 10 (by kernel_rfl) (by kernel_rfl))
                refine op_value (v := .pointer (some ⟨B, o + k * 2, none⟩)) (wanted_of (j := 6) rfl (need 6 (by kernel_rfl) (by kernel_rfl))) ?_ (hKx _ w1 rfl hG (Below.refl _ _))
                simp [execOp, go_sem, e0]
              case o12 =>
                intro a w1 Kx hG need old hsz fresh hKx
                have e0 : a.tmps[26]?.getD undef = .pointer (some ⟨B, o + k * 2, none⟩) := by rw [← Array.getD_eq_getD_getElem?]; exact (need 11 (by kernel_rfl) (by kernel_rfl))
                have k0 := (HK.out w1 hG).2.2
                refine op_value (v := .string z) (wanted_of (j := 6) rfl (need 6 (by kernel_rfl) (by kernel_rfl))) ?_ (hKx _ w1 rfl hG (Below.refl _ _))
                simp [execOp, go_sem, e0, k0]
              case o13 =>
                intro a w1 Kx hG need old hsz fresh hKx
                have e0 : a.tmps[4]?.getD undef = .pointer (some ⟨wr.heap.size, 0, none⟩) := by rw [← Array.getD_eq_getD_getElem?]; exact old 4 (by kernel_rfl)
                refine op_value (v := .pointer (some ⟨wr.heap.size, 0, none⟩)) (wanted_of (j := 6) rfl (need 6 (by kernel_rfl) (by kernel_rfl))) ?_ (hKx _ w1 rfl hG (Below.refl _ _))
                simp [execOp, go_sem, e0]
              case o14 =>
                intro a w1 Kx hG need old hsz fresh hKx
                have e0 : a.tmps[28]?.getD undef = .pointer (some ⟨wr.heap.size, 0, none⟩) := by rw [← Array.getD_eq_getD_getElem?]; exact (need 13 (by kernel_rfl) (by kernel_rfl))
                have k0 := (HK.out w1 hG).1
                refine op_value (v := .string s) (wanted_of (j := 6) rfl (need 6 (by kernel_rfl) (by kernel_rfl))) ?_ (hKx _ w1 rfl hG (Below.refl _ _))
                simp [execOp, go_sem, e0, k0]
              case o15 =>
                intro a w1 Kx hG need old hsz fresh hKx
                have e0 : a.tmps[27]?.getD undef = .string z := by rw [← Array.getD_eq_getD_getElem?]; exact (need 12 (by kernel_rfl) (by kernel_rfl))
                have e1 : a.tmps[29]?.getD undef = .string s := by rw [← Array.getD_eq_getD_getElem?]; exact (need 14 (by kernel_rfl) (by kernel_rfl))
                refine op_value (v := .bool true) (wanted_of (j := 6) rfl (need 6 (by kernel_rfl) (by kernel_rfl))) ?_ (hKx _ w1 rfl hG (Below.refl _ _))
                simp [execOp, go_sem, e0, e1]; exact ht3.out
              case o16 =>
                intro a w1 Kx hG need old hsz fresh hKx
                have e0 : a.tmps[21]?.getD undef = .bool true := by rw [← Array.getD_eq_getD_getElem?]; exact (need 6 (by kernel_rfl) (by kernel_rfl))
                have e1 : a.tmps[30]?.getD undef = .bool true := by rw [← Array.getD_eq_getD_getElem?]; exact (need 15 (by kernel_rfl) (by kernel_rfl))
                refine op_value (v := .bool true) (wanted_of (j := 3) rfl (need 3 (by kernel_rfl) (by kernel_rfl))) ?_ (hKx _ w1 rfl hG (Below.refl _ _))
                simp [execOp, go_sem, asBool, e0, e1]
              case o17 =>
                intro a w1 Kx hG need old hsz fresh hKx
                have e0 : a.tmps[18]?.getD undef = .bool false := by rw [← Array.getD_eq_getD_getElem?]; exact (need 3 (by kernel_rfl) (by kernel_rfl))
                have e1 : a.tmps[31]?.getD undef = .bool true := by rw [← Array.getD_eq_getD_getElem?]; exact (need 16 (by kernel_rfl) (by kernel_rfl))
                refine op_value (v := .bool true) (wanted_none rfl) ?_ (hKx _ w1 rfl hG (Below.refl _ _))
                simp [execOp, go_sem, asBool, e0, e1]
            case hend =>
              intro a w6 hG hde hsz hφ hold
              obtain rfl := act_puts [(15, .agg #[.string s, .int .i64 n]), (16, .bool true), (17, .bool false), (18, .bool false), (19, .int .i64 (jx : Nat)), (20, .bool true), (21, .bool true), (22, .slice (some ⟨B, o, none⟩) l.length c), (23, .int .i64 (jx : Nat)), (24, .int .i64 (k : Nat)), (25, .pointer (some ⟨B, o + k * 2, none⟩)), (26, .pointer (some ⟨B, o + k * 2, none⟩)), (27, .string z), (28, .pointer (some ⟨wr.heap.size, 0, none⟩)), (29, .string s), (30, .bool true), (31, .bool true), (32, .bool true)] [15, 16, 17, 18, 19, 20, 21, 22, 23, 24, 25, 26, 27, 28, 29, 30, 31, 32] rfl (by kernel_rfl) (by kernel_rfl) hde hsz (List.forall_mem_cons.2 ⟨(show a.tmps.getD 15 undef = .agg #[.string s, .int .i64 n] from (hφ 0 (by kernel_rfl))), (List.forall_mem_cons.2 ⟨(show a.tmps.getD 16 undef = .bool true from (hφ 1 (by kernel_rfl))), (List.forall_mem_cons.2 ⟨(show a.tmps.getD 17 undef = .bool false from (hφ 2 (by kernel_rfl))), (List.forall_mem_cons.2 ⟨(show a.tmps.getD 18 undef = .bool false from (hφ 3 (by kernel_rfl))), (List.forall_mem_cons.2 ⟨(show a.tmps.getD 19 undef = .int .i64 (jx : Nat) from (hφ 4 (by kernel_rfl))), (List.forall_mem_cons.2 ⟨(show a.tmps.getD 20 undef = .bool true from (hφ 5 (by kernel_rfl))), (List.forall_mem_cons.2 ⟨(show a.tmps.getD 21 undef = .bool true from (hφ 6 (by kernel_rfl))), (List.forall_mem_cons.2 ⟨(show a.tmps.getD 22 undef = .slice (some ⟨B, o, none⟩) l.length c from (hφ 7 (by kernel_rfl))), (List.forall_mem_cons.2 ⟨(show a.tmps.getD 23 undef = .int .i64 (jx : Nat) from (hφ 8 (by kernel_rfl))), (List.forall_mem_cons.2 ⟨(show a.tmps.getD 24 undef = .int .i64 (k : Nat) from (hφ 9 (by kernel_rfl))), (List.forall_mem_cons.2 ⟨(show a.tmps.getD 25 undef = .pointer (some ⟨B, o + k * 2, none⟩) from (hφ 10 (by kernel_rfl))), (List.forall_mem_cons.2 ⟨(show a.tmps.getD 26 undef = .pointer (some ⟨B, o + k * 2, none⟩) from (hφ 11 (by kernel_rfl))), (List.forall_mem_cons.2 ⟨(show a.tmps.getD 27 undef = .string z from (hφ 12 (by kernel_rfl))), (List.forall_mem_cons.2 ⟨(show a.tmps.getD 28 undef = .pointer (some ⟨wr.heap.size, 0, none⟩) from (hφ 13 (by kernel_rfl))), (List.forall_mem_cons.2 ⟨(show a.tmps.getD 29 undef = .string s from (hφ 14 (by kernel_rfl))), (List.forall_mem_cons.2 ⟨(show a.tmps.getD 30 undef = .bool true from (hφ 15 (by kernel_rfl))), (List.forall_mem_cons.2 ⟨(show a.tmps.getD 31 undef = .bool true from (hφ 16 (by kernel_rfl))), (List.forall_mem_cons.2 ⟨(show a.tmps.getD 32 undef = .bool true from (hφ 17 (by kernel_rfl))), (fun _ h => absurd h (by simp))⟩)⟩)⟩)⟩)⟩)⟩)⟩)⟩)⟩)⟩)⟩)⟩)⟩)⟩)⟩)⟩)⟩)⟩) hold
              clear hφ hold hsz hde
              simp only [putAll]
              go_frame
              go_wp2_with fail
              go_ret
              exact ⟨rfl, HBW.out.trans (hG.mono HBW.out.size)⟩
    · have d2 : decide ((jx : Int) < (l.length : Int)) = false := decide_eq_false (by omega)
      have hT : R = true := by rw [← hR.out]; exact mayEs_all h10 (fun i hi => HI.out.1 i hi (by omega)) (fun i hi => HI.out.2 i hi (by omega))
      subst hT
      go_wp2_with fail
      go_ret
      exact ⟨rfl, HB.out⟩
end Go.Proofs.YtfboilbmehcgoaaDoor

/- Package name: Find; the reference's At, SameEntries; the law's Light. -/
namespace Go.Proofs.YtfboilbmehcgoaaDoor
open Go.RowKit Go.Lib

set_option maxRecDepth 100000 in
set_option maxHeartbeats 2000000 in
theorem find_any (A : Option Addr) (c : Nat) (l : List Ent) (s : ByteArray) (w : World) (hA : ELies w A l) (hl : l.length ≤ maxLen) : Calls Tryd.prog 62 #[.slice A l.length c, .string s] w fun x w' => x = .returned (.int .i64 (findE l s)) ∧ Below w.heap.size w w' := by
  have hmx : maxLen = 9223372036854775807 := rfl
  have HA := Lib.hid hA
  obtain ⟨R, hR⟩ : ∃ R, findE l s = R := ⟨_, rfl⟩
  rw [hR]
  replace hR := Lib.hid hR
  clear hA
  go_enter Tryd.func62, Tryd.ntmps62
  go_wp2_with fail
  go_loopw [6, 9] (fun _ v9 wr => ∃ j : Nat, j ≤ l.length ∧ v9 = .int .i64 j ∧ Hid (findE (l.drop j) s = R) ∧ Below w.heap.size w wr) (fun _ v9 _ => l.length - (RowKit.intOf v9).toNat)
  case atStart => exact ⟨0, Nat.zero_le _, rfl, hR, Below.refl _ _⟩
  case round =>
    obtain ⟨j, hj, rfl, HI, hB⟩ := hrel
    have HB := Lib.hid hB
    have hs := hB.size
    clear hB
    by_cases hj1 : j < l.length
    · obtain ⟨B, o, rfl, hBs, hc⟩ := (HA.out.below HB.out) (by omega)
      have d2 : decide ((j : Int) < (l.length : Int)) = true := decide_eq_true (by omega)
      obtain ⟨k0, k1⟩ := hc j hj1
      have HI2 := HI.out
      rw [List.drop_eq_getElem_cons hj1, findE] at HI2
      generalize l[j] = q at k0 k1 HI2
      obtain ⟨t, n⟩ := q
      have HI3 := Lib.hid HI2
      have HBW := Lib.hid (HB.out.alloc (by omega) (.cells #[.string t, .int .i64 n] 34))
      clear hc HI2
      by_cases e : t = s
      · have HE : (t.toList == s.toList) = true := by rw [eq_eqB, decide_eq_true e]
        have HR2 : Hid (R = n) := Lib.hid (by rw [← HI3.out, if_pos e])
        clear e
        go_wp2_with fail
        go_ret
        exact ⟨by rw [HR2.out]; rfl, HBW.out⟩
      · have HE : (t.toList == s.toList) = false := by rw [eq_eqB, decide_eq_false e]
        have HR2 : Hid (findE (l.drop (j + 1)) s = R) := Lib.hid (by rw [← HI3.out, if_neg e])
        clear e
        go_wp2_with fail
        go_roundw
        case rel => exact ⟨j + 1, by omega, by go_num, HR2, HBW.out⟩
        case measure => simp [RowKit.intOf]; omega
    · have d2 : decide ((j : Int) < (l.length : Int)) = false := decide_eq_false (by omega)
      have HR2 : Hid (R = -1) := Lib.hid (by rw [← HI.out, List.drop_of_length_le (by omega)]; rfl)
      go_wp2_with fail
      go_ret
      exact ⟨by rw [HR2.out]; rfl, HB.out⟩
set_option maxRecDepth 100000 in
set_option maxHeartbeats 2000000 in
theorem at_any (A : Option Addr) (c : Nat) (l : List Ent) (s : ByteArray) (w : World) (hA : ELies w A l) (hl : l.length ≤ maxLen) : Calls Tryd.prog 19 #[.slice A l.length c, .string s] w fun x w' => x = .returned (.int .i64 (findE l s)) ∧ Below w.heap.size w w' := by
  have hmx : maxLen = 9223372036854775807 := rfl
  have HA := Lib.hid hA
  obtain ⟨R, hR⟩ : ∃ R, findE l s = R := ⟨_, rfl⟩
  rw [hR]
  replace hR := Lib.hid hR
  clear hA
  go_enter Tryd.func19, Tryd.ntmps19
  go_wp2_with fail
  go_loopw [6, 9] (fun _ v9 wr => ∃ j : Nat, j ≤ l.length ∧ v9 = .int .i64 j ∧ Hid (findE (l.drop j) s = R) ∧ Below w.heap.size w wr) (fun _ v9 _ => l.length - (RowKit.intOf v9).toNat)
  case atStart => exact ⟨0, Nat.zero_le _, rfl, hR, Below.refl _ _⟩
  case round =>
    obtain ⟨j, hj, rfl, HI, hB⟩ := hrel
    have HB := Lib.hid hB
    have hs := hB.size
    clear hB
    by_cases hj1 : j < l.length
    · obtain ⟨B, o, rfl, hBs, hc⟩ := (HA.out.below HB.out) (by omega)
      have d2 : decide ((j : Int) < (l.length : Int)) = true := decide_eq_true (by omega)
      obtain ⟨k0, k1⟩ := hc j hj1
      have HI2 := HI.out
      rw [List.drop_eq_getElem_cons hj1, findE] at HI2
      generalize l[j] = q at k0 k1 HI2
      obtain ⟨t, n⟩ := q
      have HI3 := Lib.hid HI2
      have HBW := Lib.hid (HB.out.alloc (by omega) (.cells #[.string t, .int .i64 n] 34))
      clear hc HI2
      by_cases e : t = s
      · have HE : (t.toList == s.toList) = true := by rw [eq_eqB, decide_eq_true e]
        have HR2 : Hid (R = n) := Lib.hid (by rw [← HI3.out, if_pos e])
        clear e
        go_wp2_with fail
        go_ret
        exact ⟨by rw [HR2.out]; rfl, HBW.out⟩
      · have HE : (t.toList == s.toList) = false := by rw [eq_eqB, decide_eq_false e]
        have HR2 : Hid (findE (l.drop (j + 1)) s = R) := Lib.hid (by rw [← HI3.out, if_neg e])
        clear e
        go_wp2_with fail
        go_roundw
        case rel => exact ⟨j + 1, by omega, by go_num, HR2, HBW.out⟩
        case measure => simp [RowKit.intOf]; omega
    · have d2 : decide ((j : Int) < (l.length : Int)) = false := decide_eq_false (by omega)
      have HR2 : Hid (R = -1) := Lib.hid (by rw [← HI.out, List.drop_of_length_le (by omega)]; rfl)
      go_wp2_with fail
      go_ret
      exact ⟨by rw [HR2.out]; rfl, HB.out⟩
theorem toList_iff (a b : ByteArray) : a.toList = b.toList ↔ a = b := ⟨fun h => byte_ext' (by rw [← Lib.toList_data, ← Lib.toList_data]; exact h), fun h => by rw [h]⟩
theorem neq_ent (w : World) (s t : ByteArray) (n m : Int) : (binOp .neq 34 (.agg #[.string s, .int .i64 n]) (.agg #[.string t, .int .i64 m])).run Tryd.prog w = .ok (.bool (!decide ((s, n) = (t, m)))) w := by
  have e : ((s, n) = (t, m)) ↔ (s = t ∧ n = m) := Prod.mk.injEq .. ▸ Iff.rfl
  have hl := toList_iff s t
  by_cases h1 : s = t <;> by_cases h2 : n = m <;> simp [go_sem, e, h1, h2, hl]
set_option maxRecDepth 100000 in
set_option maxHeartbeats 2000000 in
theorem same_any (A1 A2 : Option Addr) (c1 c2 : Nat) (l m : List Ent) (w : World) (h1 : ELies w A1 l) (h2 : ELies w A2 m) (hl : l.length ≤ maxLen) (hm : m.length ≤ maxLen) : Calls Tryd.prog 51 #[.slice A1 l.length c1, .slice A2 m.length c2] w fun x w' => x = .returned (.bool (decide (l = m))) ∧ Below w.heap.size w w' := by
  have hmx : maxLen = 9223372036854775807 := rfl
  by_cases hlm : l.length = m.length
  case neg =>
    rw [decide_eq_false (fun e => hlm (by rw [e]))]
    have d1 : ((l.length : Int) != (m.length : Int)) = true := by rw [bne_iff_ne]; omega
    go_enter Tryd.func51, Tryd.ntmps51
    go_wp2_with fail
    go_ret
    exact ⟨rfl, Below.refl _ _⟩
  have d1 : ((l.length : Int) != (m.length : Int)) = false := by rw [bne_eq_false_iff_eq]; omega
  have HLM := Lib.hid hlm
  clear hlm
  have H1 := Lib.hid h1
  have H2 := Lib.hid h2
  obtain ⟨R, hR⟩ : ∃ R, decide (l = m) = R := ⟨_, rfl⟩
  rw [hR]
  replace hR := Lib.hid hR
  clear h1 h2
  go_enter Tryd.func51, Tryd.ntmps51
  go_wp2_with fail
  go_loopw [5, 13] (fun _ v13 wr => ∃ j : Nat, j ≤ l.length ∧ v13 = .int .i64 j ∧ Hid (∀ i (h : i < l.length) (h' : i < m.length), i < j → l[i] = m[i]) ∧ Below w.heap.size w wr) (fun _ v13 _ => l.length - (RowKit.intOf v13).toNat)
  case atStart => exact ⟨0, Nat.zero_le _, rfl, Lib.hid fun i _ _ h => absurd h (Nat.not_lt_zero i), Below.refl _ _⟩
  case round =>
    obtain ⟨j, hj, rfl, HI, hB⟩ := hrel
    have HB := Lib.hid hB
    clear hB
    by_cases hj1 : j < l.length
    · have hj2 : j < m.length := by have := HLM.out; omega
      obtain ⟨B, o, rfl, hBs, hc⟩ := (H1.out.below HB.out) (by omega)
      obtain ⟨B', o', rfl, hBs', hc'⟩ := (H2.out.below HB.out) (by omega)
      have d2 : decide ((j : Int) < (l.length : Int)) = true := decide_eq_true (by omega)
      obtain ⟨k0, k1⟩ := hc j hj1
      obtain ⟨p0, p1⟩ := hc' j hj2
      obtain ⟨x, hx⟩ : ∃ x, l[j] = x := ⟨_, rfl⟩
      obtain ⟨y, hy⟩ : ∃ y, m[j] = y := ⟨_, rfl⟩
      rw [hx] at k0 k1
      rw [hy] at p0 p1
      have HX := Lib.hid hx
      have HY := Lib.hid hy
      clear hc hc' hx hy
      obtain ⟨s, n⟩ := x
      obtain ⟨t, k⟩ := y
      have hne := fun w => neq_ent w s t n k
      by_cases e : (s, n) = (t, k)
      · have HE := Lib.hid e
        rw [decide_eq_true e] at hne
        clear e
        go_wp2_with fail
        go_quiet (fail)
        go_wp2_with fail
        go_roundw
        case rel =>
          refine ⟨j + 1, by omega, by go_num, Lib.hid fun i h h' hi => ?_, by first | exact HB.out | exact HB.out.drew | exact drewN_below HB.out _⟩
          by_cases e : i = j
          · subst e; rw [HX.out, HY.out]; exact HE.out
          · exact HI.out i h h' (by omega)
        case measure => simp [RowKit.intOf]; omega
      · have HE : Hid (R = false) := Lib.hid (by
          rw [← hR.out]
          refine decide_eq_false fun hh => e ?_
          have h3 := HX.out
          have h4 := HY.out
          subst hh
          rw [← h3, ← h4])
        rw [decide_eq_false e] at hne
        clear e
        go_wp2_with fail
        go_quiet (fail)
        go_wp2_with fail
        go_ret
        exact ⟨by rw [HE.out]; rfl, by first | exact HB.out | exact HB.out.drew | exact drewN_below HB.out _⟩
    · have d2 : decide ((j : Int) < (l.length : Int)) = false := decide_eq_false (by omega)
      have HR2 : Hid (R = true) := Lib.hid (by
        rw [← hR.out]
        exact decide_eq_true (List.ext_getElem HLM.out fun i h h' => HI.out i h h' (by omega)))
      go_wp2_with fail
      go_ret
      exact ⟨by rw [HR2.out]; rfl, HB.out⟩
/-- What Light counts, as ints are. -/
def sumW (l : List Ent) : Int := l.foldl (fun n e => IntKind.i64.wrap (n + (e.1.size : Int))) 0
theorem sumW_snoc (l : List Ent) (e : Ent) : sumW (l ++ [e]) = IntKind.i64.wrap (sumW l + (e.1.size : Int)) := by simp [sumW]
def lightV (l : List Ent) : Int := if l.length ≤ 60 ∧ sumW l ≤ 1000 then 0 else 1
theorem lightV_cases (l : List Ent) : lightV l = 0 ∧ l.length ≤ 60 ∨ lightV l = 1 := by
  unfold lightV
  split
  · next h => exact .inl ⟨rfl, h.1⟩
  · exact .inr rfl
set_option maxRecDepth 100000 in
set_option maxHeartbeats 2000000 in
theorem light_any (A : Option Addr) (c : Nat) (l : List Ent) (w : World) (hA : ELies w A l) (hl : l.length ≤ maxLen) : Calls Tryd.prog 46 #[.slice A l.length c] w fun x w' => x = .returned (.int .i64 (lightV l)) ∧ Below w.heap.size w w' := by
  have hmx : maxLen = 9223372036854775807 := rfl
  have HA := Lib.hid hA
  obtain ⟨R, hR⟩ : ∃ R, lightV l = R := ⟨_, rfl⟩
  rw [hR]
  have HR := Lib.hid hR
  clear hA hR
  go_enter Tryd.func46, Tryd.ntmps46
  go_wp2_with fail
  go_loopw [3, 5, 8] (fun v3 _ v8 wr => ∃ (j : Nat) (n : Int), j ≤ l.length ∧ v8 = .int .i64 j ∧ v3 = .int .i64 n ∧ Hid (n = sumW (l.take j)) ∧ Below w.heap.size w wr) (fun _ _ v8 _ => l.length - (RowKit.intOf v8).toNat)
  case atStart => exact ⟨0, 0, Nat.zero_le _, rfl, rfl, Lib.hid rfl, Below.refl _ _⟩
  case round =>
    obtain ⟨j, n, hj, rfl, rfl, HS, hB⟩ := hrel
    have HB := Lib.hid hB
    have hs := hB.size
    clear hB
    by_cases hj1 : j < l.length
    · obtain ⟨B, o, rfl, hBs, hc⟩ := (HA.out.below HB.out) (by omega)
      have d2 : decide ((j : Int) < (l.length : Int)) = true := decide_eq_true (by omega)
      obtain ⟨k0, k1⟩ := hc j hj1
      have HS2 : Hid (sumW (l.take (j + 1)) = IntKind.i64.wrap (n + ((l[j].1).size : Int))) := Lib.hid (by rw [List.take_succ_eq_append_getElem hj1, sumW_snoc, ← HS.out])
      generalize l[j] = q at k0 k1 HS2
      obtain ⟨t, z⟩ := q
      have HBW := Lib.hid (HB.out.alloc (by omega) (.cells #[.string t, .int .i64 z] 34))
      clear hc
      go_wp2_with fail
      go_roundw
      case rel => exact ⟨j + 1, _, by omega, by go_num, rfl, Lib.hid (by rw [HS2.out, IntWalk.i64_left]), HBW.out⟩
      case measure => simp [RowKit.intOf]; omega
    · have d2 : decide ((j : Int) < (l.length : Int)) = false := decide_eq_false (by omega)
      have HS2 : Hid (n = sumW l) := Lib.hid (by rw [HS.out, List.take_of_length_le (by omega)])
      by_cases h60 : l.length ≤ 60
      · have d3 : decide ((60 : Int) < (l.length : Int)) = false := decide_eq_false (by omega)
        have H60 := Lib.hid h60
        clear h60
        by_cases hn : 1000 < n
        · have d4 : decide (1000 < n) = true := decide_eq_true hn
          have HE : Hid (R = 1) := Lib.hid (by rw [← HR.out]; unfold lightV; rw [if_neg (by rw [← HS2.out]; omega)])
          go_wp2_with fail
          go_ret
          exact ⟨by rw [HE.out]; rfl, HB.out⟩
        · have d4 : decide (1000 < n) = false := decide_eq_false hn
          have HE : Hid (R = 0) := Lib.hid (by rw [← HR.out]; unfold lightV; rw [if_pos ⟨H60.out, by rw [← HS2.out]; omega⟩])
          go_wp2_with fail
          go_ret
          exact ⟨by rw [HE.out]; rfl, HB.out⟩
      · have d3 : decide ((60 : Int) < (l.length : Int)) = true := decide_eq_true (by omega)
        have HE : Hid (R = 1) := Lib.hid (by rw [← HR.out]; unfold lightV; rw [if_neg (by omega)])
        go_wp2_with fail
        go_ret
        exact ⟨by rw [HE.out]; rfl, HB.out⟩
end Go.Proofs.YtfboilbmehcgoaaDoor
