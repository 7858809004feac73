/- The landed package span's calls, as the laws want them. -/
import Derived.Test.YtljlmaddbpihnaaSpU
import Derived.Test.YtljlmaddbpihnaaSpA
namespace Go.Proofs.Ytljlmaddbpihnaa
open Go.RowKit

theorem spanl_pc (a n : Int) (w : World) (ha : Wf6 a) (_ : Wf6 n) : Calls Try.prog 8 #[.int .i64 a, .int .i64 n] w (PcRead w (piecesF a n)) :=
  (piecesl_any a n w ha).mono fun _ _ h => h.read
theorem spanl_ft (a n : Int) (w : World) (ha : Wf6 a) (_ : Wf6 n) : Calls Try.prog 12 #[.int .i64 a, .int .i64 n] w fun e w' => e = .returned (.bool (fitsF a n)) ∧ Below w.heap.size w w' := fitsl_any a n w ha
theorem spanl_cut (z a n : Int) (w : World) (hz : Wf6 z) (_ : Wf6 a) (_ : Wf6 n) : Calls Try.prog 14 #[.int .i64 z, .int .i64 a, .int .i64 n] w fun e w' => e = .returned (.int .i64 (cutF z a n)) ∧ Below w.heap.size w w' := cutl_any z a n w hz
theorem spanl_pg (z : Int) (w : World) (_ : Wf6 z) : Calls Try.prog 10 #[.int .i64 z] w fun e w' => e = .returned (.int .i64 (pagesF z)) ∧ Below w.heap.size w w' := pagesl_any z w
theorem spanl_awake (w : World) : Calls Try.prog 16 #[] w fun x w' => x = .returned (.bool true) ∧ Below w.heap.size w w' := awake16_any spanl_pc spanl_ft spanl_cut spanl_pg w
theorem wf6_le {x : Int} (h : (Lit.int .i64 x).wf = true) : Wf6 x := by
  have h0 : IntKind.min .i64 = -9223372036854775808 := by decide
  have h1 : IntKind.max .i64 = 9223372036854775807 := by decide
  simpa [Lit.wf, h0, h1, Wf6] using h
end Go.Proofs.Ytljlmaddbpihnaa
