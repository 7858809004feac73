/- A drawn region by one look at each operation: one that isn't wanted; of no program, no conditions. -/
import Derived.Test.YtfnhmnfhkhjojaaRegInv
namespace Go.Proofs.Ytfnhmnfhkhjojaa
section
variable {P : Program} {ops : Array Oper} {Q : Exit → Act → World → Prop}
theorem skip_op {o : Oper} {a : Act} {w : World} {K : Act → World → Prop} {j : Nat} {b c : Bool} (hg : o.guard = some (j, b)) (h : vals ops a j = .bool c) (hne : c ≠ b) (hK : K (a.put o.dst undef) w) :
    if Region.wanted o (yielded ops a.tmps) = true then o.wp P a w K Q else K (a.put o.dst undef) w := by
  have hw : Region.wanted o (yielded ops a.tmps) = false := by
    unfold Region.wanted
    rw [hg]
    simp [yielded_of h, hne]
  rw [hw]
  exact hK
theorem yielded_undef {a : Act} {j : Nat} (h : vals ops a j = undef) : yielded ops a.tmps j = none := by
  unfold vals at h
  unfold yielded
  cases hj : (ops[j]?).bind (·.dst) with
  | none => rfl
  | some t =>
    rw [hj] at h
    simp only [Option.bind_some]
    simp only [Array.getD_eq_getD_getElem?] at h
    cases ht : a.tmps[t]? with
    | none => rfl
    | some v =>
      rw [ht] at h
      simp only [Option.getD_some] at h
      rw [h]
      rfl
/-- One whose guard wasn't wanted itself. -/
theorem skip_undef {o : Oper} {a : Act} {w : World} {K : Act → World → Prop} {j : Nat} {b : Bool} (hg : o.guard = some (j, b)) (h : vals ops a j = undef) (hK : K (a.put o.dst undef) w) :
    if Region.wanted o (yielded ops a.tmps) = true then o.wp P a w K Q else K (a.put o.dst undef) w := by
  have hw : Region.wanted o (yielded ops a.tmps) = false := by
    unfold Region.wanted
    rw [hg]
    simp [yielded_undef h]
  rw [hw]
  exact hK
end
end Go.Proofs.Ytfnhmnfhkhjojaa
