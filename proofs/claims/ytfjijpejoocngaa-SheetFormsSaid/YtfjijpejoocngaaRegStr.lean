/- Words for regions that draw their order, make bytes and compare them as strings: what each operation has yielded, and what keeps it. -/
import Derived.Test.YtfjijpejoocngaaRegInv
import Derived.Test.YtfjijpejoocngaaRefStep
namespace Go.Proofs.Ytfjijpejoocngaa
open Go.RowKit

/-- What an operation yields: a value that is known; bytes, till the mark's operation has come up; a slice without room; a slice of the call's own, till the next operation has used it up. -/
inductive Kd where
  | val (v : Value)
  | bytes (m : Option Nat) (l : List UInt8)
  | noroom
  | onto (pr nx : Nat) (m : Option Nat) (l : List UInt8)
def IsB (v : Value) (l : List UInt8) (w : World) : Prop := ∃ (A : Option Addr) (c : Nat) (L : List UInt8), v = .slice A L.length c ∧ Hid (L = l) ∧ RB w w.heap.size A L
def OntoR (row : Option Nat) (w : World) (v : Value) (xs : List UInt8) : Prop :=
  (w.ownsRow 0 5 1 v xs.length (xs.map ub) ∧ v.ownBlock = row) ∨ (xs = [] ∧ (∃ a0, v = .slice (some a0) 0 0) ∧ row = none)
theorem OntoR.onto {row : Option Nat} {w : World} {v : Value} {xs : List UInt8} (h : OntoR row w v xs) : Onto w row w v xs := by
  rcases h with ⟨h1, h2⟩ | ⟨h1, h2, _⟩
  · exact .inl ⟨h1, .inl h2⟩
  · exact .inr ⟨h1, h2⟩
def Sem3 (base : Nat) (k : Kd) (j : Nat) (f : Nat → Value) (w : World) : Prop := match k with
  | .val v => f j = v
  | .bytes m l => (∀ q, m = some q → f q = undef) → IsB (f j) l w
  | .noroom => ∃ a0, f j = .slice (some a0) 0 0 ∧ a0.block < w.heap.size
  | .onto pr nx m l => ∃ p cap row, f j = .slice p l.length cap ∧ (∀ g, row = some g → base ≤ g ∧ g < w.heap.size ∧ (f pr).ownBlock ≠ some g) ∧ (∀ g, (f j).ownBlock = some g → g < w.heap.size) ∧ ((∀ q, m = some q → f q = undef) → f nx = undef → OntoR row w (f j) l)
theorem mark_back {f : Nat → Value} {i : Nat} {v : Value} {m : Option Nat} (hv : v ≠ undef) (h : ∀ q, m = some q → updv f i v q = undef) : ∀ q, m = some q → f q = undef := fun q hq => by
  have h1 := h q hq
  by_cases e : q = i
  · subst e; rw [updv_same] at h1; exact absurd h1 hv
  · rwa [updv_ne _ e] at h1
theorem one_back {f : Nat → Value} {i q : Nat} {v : Value} (hv : v ≠ undef) (h : updv f i v q = undef) : f q = undef ∧ q ≠ i := by
  by_cases e : q = i
  · subst e; rw [updv_same] at h; exact absurd h hv
  · rw [updv_ne _ e] at h; exact ⟨h, e⟩
theorem IsB.below {v : Value} {l : List UInt8} {w w' : World} (h : IsB v l w) (hb : Below w.heap.size w w') : IsB v l w' := by
  obtain ⟨A, c, L, h1, h2, h3⟩ := h
  exact ⟨A, c, L, h1, h2, (h3.below hb (Nat.le_refl _)).mono hb.size⟩
theorem IsB.grown {v : Value} {l : List UInt8} {w w' : World} {row : Option Nat} (h : IsB v l w) (hg : w.grownBy w' row) (hne : ∀ g, row = some g → v.ownBlock ≠ some g) : IsB v l w' := by
  obtain ⟨A, c, L, h1, h2, h3⟩ := h
  refine ⟨A, c, L, h1, h2, fun hn => ?_⟩
  obtain ⟨ad, e, hb, hc⟩ := h3 hn
  refine ⟨ad, e, Nat.lt_of_lt_of_le hb hg.size, fun j hj => (World.cell?_of_block (hg.block _ (by rw [block_add]; exact hb) ?_)).trans (hc j hj)⟩
  rw [block_add]
  intro e'
  refine hne ad.block e'.symm ?_
  rw [h1, e]; rfl
/-- A step that turns nothing that was there. -/
theorem Sem3.keep {base i j : Nat} {k : Kd} {f : Nat → Value} {v : Value} {w w' : World} (hij : j ≠ i) (hv : v ≠ undef) (hb : Below w.heap.size w w') (hpr : ∀ pr nx m l, k = .onto pr nx m l → pr ≠ i) (h : Sem3 base k j f w) : Sem3 base k j (updv f i v) w' := by
  cases k with
  | val x => show updv f i v j = x; rw [updv_ne _ hij]; exact h
  | bytes m l => intro hm; show IsB (updv f i v j) l w'; rw [updv_ne _ hij]; exact (h (mark_back hv hm)).below hb
  | noroom =>
    obtain ⟨a0, h1, h2⟩ := h
    exact ⟨a0, by rw [updv_ne _ hij]; exact h1, Nat.lt_of_lt_of_le h2 hb.size⟩
  | onto pr nx m l =>
    obtain ⟨p, cap, row, h1, h2, h3, h4⟩ := h
    refine ⟨p, cap, row, by rw [updv_ne _ hij]; exact h1, fun g hg => ?_, fun g hg => ?_, fun hm hn => ?_⟩
    · obtain ⟨a, b, c⟩ := h2 g hg
      exact ⟨a, Nat.lt_of_lt_of_le b hb.size, by rw [updv_ne _ (hpr pr nx m l rfl)]; exact c⟩
    · rw [updv_ne _ hij] at hg; exact Nat.lt_of_lt_of_le (h3 g hg) hb.size
    · rw [updv_ne _ hij]
      rcases h4 (mark_back hv hm) (one_back hv hn).1 with ⟨a, b⟩ | a
      · exact .inl ⟨own_keep a fun g e => hb.block g (h3 g e), b⟩
      · exact .inr a
/-- A step that turns one block. -/
theorem Sem3.kept {base i j : Nat} {k : Kd} {f : Nat → Value} {v : Value} {w w' : World} {row : Option Nat} (hij : j ≠ i) (hv : v ≠ undef) (hg : w.grownBy w' row) (hpr : ∀ pr nx m l, k = .onto pr nx m l → pr ≠ i ∧ (nx = i ∨ ∃ q, m = some q ∧ f q ≠ undef))
    (hby : ∀ m l, k = .bytes m l → (∃ q, m = some q ∧ f q ≠ undef) ∨ ∀ g, row = some g → (f j).ownBlock ≠ some g) (h : Sem3 base k j f w) : Sem3 base k j (updv f i v) w' := by
  cases k with
  | val x => show updv f i v j = x; rw [updv_ne _ hij]; exact h
  | bytes m l =>
    intro hm
    show IsB (updv f i v j) l w'
    rw [updv_ne _ hij]
    have hm' := mark_back hv hm
    rcases hby m l rfl with ⟨q, h1, h2⟩ | h1
    · exact absurd (hm' q h1) h2
    · exact (h hm').grown hg h1
  | noroom =>
    obtain ⟨a0, h1, h2⟩ := h
    exact ⟨a0, by rw [updv_ne _ hij]; exact h1, Nat.lt_of_lt_of_le h2 hg.size⟩
  | onto pr nx m l =>
    obtain ⟨p, cap, row', h1, h2, h3, h4⟩ := h
    obtain ⟨hp1, hp2⟩ := hpr pr nx m l rfl
    refine ⟨p, cap, row', by rw [updv_ne _ hij]; exact h1, fun g hg' => ?_, fun g hg' => ?_, fun hm hn => ?_⟩
    · obtain ⟨a, b, c⟩ := h2 g hg'
      exact ⟨a, Nat.lt_of_lt_of_le b hg.size, by rw [updv_ne _ hp1]; exact c⟩
    · rw [updv_ne _ hij] at hg'; exact Nat.lt_of_lt_of_le (h3 g hg') hg.size
    · exfalso
      rcases hp2 with e | ⟨q, e1, e2⟩
      · exact (one_back hv hn).2 e
      · exact e2 (mark_back hv hm q e1)
theorem OpsOk3.nil {P : Program} {ops : Array Oper} {Q : Exit → Act → World → Prop} {φ : Nat → (Nat → Value) → World → Prop} {G : World → Prop} {n : Nat} {a0 : Act} {i : Nat} : OpsOk3 P ops Q φ G n a0 i [] := trivial
section
variable {P : Program} {w : World} {o : Oper} {ρ : Operand → Value}
theorem run_move (x : Operand) (ho : o.op = .move x) {v : Value} (hv : ρ x = v) : (execOp ρ o).run P w = .ok (.value v) w := by simp [execOp, ho, hv]
theorem run_assign (x : Operand) (ho : o.op = .assign x) {v : Value} (hv : ρ x = v) : (execOp ρ o).run P w = .ok (.value v) w := by simp [execOp, ho, hv]
theorem run_pick (q x y : Operand) (ho : o.op = .pick q x y) (hq : ρ q = .bool true) {v : Value} (hv : ρ x = v) : (execOp ρ o).run P w = .ok (.value v) w := by simp [execOp, ho, hq, hv, asBool]
theorem run_conv (x : Operand) (ho : o.op = .convert 22 9 x) {l : List UInt8} (h : IsB (ρ x) l w) : (execOp ρ o).run Try.prog w = .ok (.value (.string (strOf l))) w := by
  obtain ⟨A, c, L, h1, h2, h3⟩ := h
  have := run_str h3 c
  rw [h2.out] at this
  rw [h2.out] at h1
  simp [execOp, ho, h1, this, Result.andThen]
theorem run_eqs (x y : Operand) (t : TypeId) (ho : o.op = .binOp .eql 9 x y t) {S : ByteArray} (hx : ρ x = .string S) (hy : ρ y = .string S) : (execOp ρ o).run Try.prog w = .ok (.value (.bool true)) w := by
  simp [execOp, ho, hx, hy, go_sem]
theorem run_build0 (ho : o.op = .buildSlice 22 0 #[]) : (execOp ρ o).run Try.prog w = .ok (.value (.slice (some ⟨w.heap.size, 0, none⟩) 0 0)) (w.alloc (.cells #[] 5)) := by
  simp [execOp, ho, go_sem]
theorem run_app (x y : Operand) (ho : o.op = .call { callee := .builtin .append, args := #[x, y], argTypes := #[22, 22] }) {v u r : Value} {w' : World} (hx : ρ x = v) (hy : ρ y = u) (hr : (Builtin.append_ #[22, 22] o.type #[v, u]).run P w = .ok r w') :
    (execOp ρ o).run P w = .ok (.value r) w' := by
  unfold execOp
  simp only [ho, resolve, invoke, builtin, Sem.run_bind, Sem.run_pure, Result.andThen_ok, List.map_toArray, List.map_cons, List.map_nil, hx, hy, hr]
theorem run_go2 (F : FuncId) (x y : Operand) (ts : Array TypeId) (ho : o.op = .call { callee := .value (.func F), args := #[x, y], argTypes := ts }) (hF : ρ (.func F) = .func (.func F) #[] #[]) {v u : Value} (hx : ρ x = v) (hy : ρ y = u) (hc : (callFunc F #[v, u]).run P w = .ok (.enter F #[v, u]) w) :
    (execOp ρ o).run P w = .ok (.enter F #[v, u]) w := by
  simp [execOp, ho, resolve, invoke, hF, hx, hy, hc, go_sem]
theorem run_go0 (F : FuncId) (ts : Array TypeId) (ho : o.op = .call { callee := .value (.func F), args := #[], argTypes := ts }) (hF : ρ (.func F) = .func (.func F) #[] #[]) (hc : (callFunc F #[]).run P w = .ok (.enter F #[]) w) :
    (execOp ρ o).run P w = .ok (.enter F #[]) w := by
  simp [execOp, ho, resolve, invoke, hF, hc, go_sem]
end
end Go.Proofs.Ytfjijpejoocngaa
