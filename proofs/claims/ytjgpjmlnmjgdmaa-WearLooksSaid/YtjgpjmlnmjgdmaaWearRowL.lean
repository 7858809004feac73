/- The law WearLooks, as its row opens it. -/
import Derived.Test.YtjgpjmlnmjgdmaaWearOpen
import Derived.Test.YtjgpjmlnmjgdmaaWearLooks
namespace Go.Proofs.Ytjgpjmlnmjgdmaa

theorem looks_row (sv tv : Value) (l : List Int) (b : List Bool) (x most : Int) (w : World) (h1 : Row (Value.int .i64) w sv l) (h2 : Row Value.bool w tv b) (n1 : l.length ≤ maxLen) (n2 : b.length ≤ maxLen) (hw : ∀ x ∈ l, (Lit.int .i64 x).wf = true) (hx : (Lit.int .i64 x).wf = true) (hm : (Lit.int .i64 most).wf = true) : Calls Try.prog 6 #[sv, tv, .int .i64 x, .int .i64 most] w (Holds w) := by
  obtain ⟨A, c, rfl, hA, hAn, _⟩ := arr_of h1
  obtain ⟨A', c', rfl, hA', hAm, hcb⟩ := arr_of h2
  exact looks_any A A' c c' l b x most w n1 n2 hA hA' hw hx hm hAn hcb ⟨hcb, fun e => (hAm e).2⟩
end Go.Proofs.Ytjgpjmlnmjgdmaa
