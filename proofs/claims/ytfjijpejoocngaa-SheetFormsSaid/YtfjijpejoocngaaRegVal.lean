/- Words for drawn regions in which every operation yields a value that is known ahead, and calls leave alone what was there: one look at each. -/
import Derived.Test.YtfjijpejoocngaaRegStr
import Derived.Test.YtfjijpejoocngaaRefSheet
namespace Go.Proofs.Ytfjijpejoocngaa
open Go.RowKit
section
variable {P : Program} {w : World} {o : Oper} {ρ : Operand → Value}
theorem run_cv (x : Operand) (ho : o.op = .convert 22 9 x) {A : Option Addr} {c B : Nat} {l : List UInt8} (hx : ρ x = .slice A l.length c) (h : RB w B A l) {S : ByteArray} (hS : strOf l = S) : (execOp ρ o).run Try.prog w = .ok (.value (.string S)) w := by
  have := run_str h c
  rw [hS] at this
  simp [execOp, ho, hx, this, Result.andThen]
theorem run_eqli (x y : Operand) (t t' : TypeId) (ho : o.op = .binOp .eql t x y t') {k : IntKind} {a b : Int} {r : Bool} (hx : ρ x = .int k a) (hy : ρ y = .int k b) (hr : (a == b) = r) : (execOp ρ o).run Try.prog w = .ok (.value (.bool r)) w := by
  subst hr
  simp [execOp, ho, hx, hy, go_sem]
theorem run_eqlb (x y : Operand) (ho : o.op = .binOp .eql 4 x y 4) {a b r : Bool} (hx : ρ x = .bool a) (hy : ρ y = .bool b) (hr : (a == b) = r) : (execOp ρ o).run Try.prog w = .ok (.value (.bool r)) w := by
  subst hr
  have h : ∀ a b : Bool, (binOp .eql 4 (.bool a) (.bool b)).run Try.prog w = .ok (.bool (a == b)) w := fun a b => by cases a <;> cases b <;> rfl
  simp [execOp, ho, hx, hy, go_sem, h]
theorem run_eqls (x y : Operand) (t t' : TypeId) (ho : o.op = .binOp .eql t x y t') {l l' : List UInt8} {r : Bool} (hx : ρ x = .string (strOf l)) (hy : ρ y = .string (strOf l')) (hr : decide (l = l') = r) : (execOp ρ o).run Try.prog w = .ok (.value (.bool r)) w := by
  subst hr
  have e : ((strOf l).toList == (strOf l').toList) = decide (l = l') := by rw [toList_str, toList_str]; by_cases h : l = l' <;> simp [h]
  simp [execOp, ho, hx, hy, go_sem, e]
theorem run_pickf (q x y : Operand) (ho : o.op = .pick q x y) (hq : ρ q = .bool false) {v : Value} (hv : ρ y = v) : (execOp ρ o).run P w = .ok (.value v) w := by simp [execOp, ho, hq, hv, asBool]
theorem run_not (x : Operand) (t : TypeId) (ho : o.op = .unOp .not t x) {b : Bool} (hx : ρ x = .bool b) : (execOp ρ o).run P w = .ok (.value (.bool !b)) w := by simp [execOp, ho, hx, go_sem]
theorem run_ldsh (x : Operand) (ho : o.op = .load 24 x) {R : Nat} {a b c : Value} {t : TypeId} (hx : ρ x = .pointer (some ⟨R, 0, none⟩)) (hc : w.heap[R]? = some (.cells #[a, b, c] t (0, 0))) : (execOp ρ o).run Try.prog w = .ok (.value (.agg #[a, b, c])) w := by
  obtain ⟨k0, k1, k2⟩ := cells3 hc
  simp [execOp, ho, hx, go_sem, k0, k1, k2]
theorem run_go1 (F : FuncId) (x : Operand) (ts : Array TypeId) (ho : o.op = .call { callee := .value (.func F), args := #[x], argTypes := ts }) (hF : ρ (.func F) = .func (.func F) #[] #[]) {v : Value} (hx : ρ x = v) (hc : (callFunc F #[v]).run P w = .ok (.enter F #[v]) w) :
    (execOp ρ o).run P w = .ok (.enter F #[v]) w := by
  simp [execOp, ho, resolve, invoke, hF, hx, hc, go_sem]
end
end Go.Proofs.Ytfjijpejoocngaa
