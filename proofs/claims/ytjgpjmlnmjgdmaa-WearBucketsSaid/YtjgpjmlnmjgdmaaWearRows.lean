/- The laws of package wear, as their rows open them. -/
import Derived.Test.YtjgpjmlnmjgdmaaWearOpen
import Derived.Test.YtjgpjmlnmjgdmaaWearForms
import Derived.Test.YtjgpjmlnmjgdmaaWearBuckets
namespace Go.Proofs.Ytjgpjmlnmjgdmaa

theorem forms_row (sv tv : Value) (l : List Int) (b : List Bool) (most : Int) (w : World) (h1 : Row (Value.int .i64) w sv l) (h2 : Row Value.bool w tv b) (n1 : l.length ≤ maxLen) (n2 : b.length ≤ maxLen) (hw : ∀ x ∈ l, (Lit.int .i64 x).wf = true) (hm : (Lit.int .i64 most).wf = true) : Calls Try.prog 3 #[sv, tv, .int .i64 most] w (Holds w) := by
  obtain ⟨A, c, rfl, hA, _⟩ := arr_of h1
  obtain ⟨A', c', rfl, hA', hAn, hcb⟩ := arr_of h2
  exact forms_any A A' c c' l b most w n1 n2 hA hA' hw hm ⟨hcb, fun e => (hAn e).2⟩
theorem wears_row (sv tv : Value) (l : List Int) (b : List Bool) (most : Int) (w : World) (h1 : Row (Value.int .i64) w sv l) (h2 : Row Value.bool w tv b) (n1 : l.length ≤ maxLen) (n2 : b.length ≤ maxLen) : Calls Try.prog 4 #[sv, tv, .int .i64 most] w (Holds w) := by
  obtain ⟨A, c, rfl, hA, _⟩ := arr_of h1
  obtain ⟨A', c', rfl, hA', hAn, hcb⟩ := arr_of h2
  exact wears_any A A' c c' l b most w n1 n2 hA hA' ⟨hcb, fun e => (hAn e).2⟩
theorem one_row (sv tv : Value) (l : List Int) (b : List Bool) (at_ : Int) (w : World) (h1 : Row (Value.int .i64) w sv l) (h2 : Row Value.bool w tv b) (n1 : l.length ≤ maxLen) (n2 : b.length ≤ maxLen) : Calls Try.prog 5 #[sv, tv, .int .i64 at_] w (Holds w) := by
  obtain ⟨A, c, rfl, hA, _⟩ := arr_of h1
  obtain ⟨A', c', rfl, hA', hAn, hcb⟩ := arr_of h2
  exact one_any A A' c c' l b at_ w n1 n2 hA hA' ⟨hcb, fun e => (hAn e).2⟩
theorem buckets_row (sv : Value) (l : List Int) (at_ : Int) (w : World) (h1 : Row (Value.int .i64) w sv l) (n1 : l.length ≤ maxLen) : Calls Try.prog 7 #[sv, .int .i64 at_] w (Holds w) := by
  obtain ⟨A, c, rfl, hA, _⟩ := arr_of h1
  exact buckets_any A c l at_ w n1 hA
end Go.Proofs.Ytjgpjmlnmjgdmaa
