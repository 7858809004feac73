/- Two rows of refs and spots that are the same are told as the same. -/
import Derived.Test.YtbebbnkolpgndaaFRow
import Derived.Test.YtbebbnkolpgndaaPlcPerm
namespace Go.Proofs.Ytbebbnkolpgndaa
open Go.RowKit

theorem neq_found (a b c d : Int) (w : World) : Sem.run Try.prog (binOp BinOp.neq 34 (.agg #[.int .i64 a, .int .i64 b, .int .i64 c, .int .i64 d]) (.agg #[.int .i64 a, .int .i64 b, .int .i64 c, .int .i64 d])) w = .ok (.bool false) w := by
  simp [go_sem]
set_option maxHeartbeats 4000000 in
theorem same_any (A B : Option Addr) (c d : Nat) (l : List Fd) (w : World) (hl : l.length ≤ 1000) (hA : FLies w A l) (hB : FLies w B l) :
    Calls Try.prog 21 #[.slice A l.length c, .slice B l.length d] w (Holds w) := by
  have HA := Lib.hid hA
  have HB := Lib.hid hB
  clear hA hB
  go_enter Try.func21, Try.ntmps21
  go_wp2_with fail
  go_loopw [13] (fun v13 wr => ∃ j : Nat, j ≤ l.length ∧ v13 = .int .i64 j ∧ Below w.heap.size w wr) (fun v13 _ => l.length - (intOf v13).toNat)
  case atStart => exact ⟨0, Nat.zero_le _, rfl, Below.refl _ _⟩
  case round =>
    obtain ⟨j, hj, rfl, hB⟩ := hrel
    have HW := Lib.hid hB
    have hs := hB.size
    clear hB
    by_cases hj1 : j < l.length
    · obtain ⟨B1, o1, rfl, hB1, hc1⟩ := (HA.out.below HW.out) (by omega)
      obtain ⟨B2, o2, rfl, hB2, hc2⟩ := (HB.out.below HW.out) (by omega)
      obtain ⟨k0, k1, k2, k3⟩ := hc1 j hj1
      obtain ⟨m0, m1, m2, m3⟩ := hc2 j hj1
      clear hc1 hc2
      have hq := neq_found l[j].1.1 l[j].1.2 l[j].2.1 l[j].2.2
      generalize l[j] = f at *
      go_wp2_with fail
      go_quiet (fail)
      go_wp2_with fail
      go_roundw
      case rel => exact ⟨j + 1, by omega, by go_num, drewN_below HW.out nq⟩
      case measure => simp [intOf]; omega
    · obtain rfl : j = l.length := by omega
      go_wp2_with fail
      go_ret
      exact ⟨rfl, HW.out⟩
end Go.Proofs.Ytbebbnkolpgndaa
