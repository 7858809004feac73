/- awake of potsherdlaw5: a sheet that every program must know: true, and nothing that was there has turned. -/
import Derived.Test.YtfjijpejoocngaaParse
import Derived.Lib.SlBytesConst
namespace Go.Proofs.Ytfjijpejoocngaa
open Go.RowKit

/-- A law's end: true; nothing that was there when it began has turned. -/
def Holds (w : World) (e : Ending) (w' : World) : Prop := e = .returned (.bool true) ∧ Below w.heap.size w w'
theorem numL_small (n : Nat) (h : n < 128) : numL n = [byteOf n] := by
  unfold numL
  rw [show n / 128 = 0 by omega, hiL_zero, Nat.mod_eq_of_lt h]; rfl
theorem rb_lit (w : World) (l : List UInt8) (t : TypeId) (fr : Nat × Nat) : RB (w.alloc (.cells (l.map ub).toArray t fr)) (w.heap.size + 1) (some ⟨w.heap.size, 0, none⟩) l := fun _ => ⟨_, rfl, by simp, fun j hj => by
  have := World.cell?_alloc_mark w (l.map ub).toArray t fr j
  have e : (⟨w.heap.size, 0, none⟩ : Addr).add j = ⟨w.heap.size, j, none⟩ := by unfold Addr.add; split <;> simp_all
  rw [e, this]
  simp [hj]⟩
theorem sheet_nil : sheetL (0 : Int).toNat (1 : Int).toNat [] = [0, 1, 0, 90] := by
  unfold sheetL
  rw [numL_small _ (by decide), numL_small _ (by decide), numL_small _ (by decide)]; rfl
theorem may_nil : MayS 0 1 [] := ⟨by decide, by decide, by decide, by rw [sheet_nil]; decide⟩
theorem sheet_ab : sheetL (3 : Int).toNat (5 : Int).toNat [97, 98] = [3, 5, 2, 97, 98, 90] := by
  unfold sheetL
  rw [numL_small _ (by decide), numL_small _ (by decide), numL_small _ (by decide)]; rfl
theorem may_ab : MayS 3 5 [97, 98] := ⟨by decide, by decide, by decide, by rw [sheet_ab]; decide⟩

set_option maxRecDepth 100000 in
set_option maxHeartbeats 1000000 in
theorem awake_any (w : World) : Calls Try.prog 10 #[] w (Holds w) := by
  go_enter Try.func10, Try.ntmps10
  go_wp2_with fail
  refine (bytes_any 0 0 1 none 0 [] _ .nil (Nat.zero_le _)).mono ?_
  rintro e w1 ⟨A1, c1, L1, er, rfl, hL1, her, hc1, hr1, _, hb1⟩
  rw [if_pos may_nil] at her
  subst her
  obtain rfl : L1 = [0, 1, 0, 90] := by rw [hL1.out, if_pos may_nil, sheet_nil]
  clear hL1
  have hs1 := hb1.size
  have kc := fun (w : World) (C : Array Value) (n c : Nat) => Lib.run_convert_bytes_const (P := Try.prog) w 22 5 C n c Try.underlying22 Try.underlying5
  go_wp2_with fail
  have hlit : RB (w1.alloc (.cells #[.int .u8 3, .int .u8 5, .int .u8 2, .int .u8 97, .int .u8 98, .int .u8 90] 5 (6, 7))) (w1.heap.size + 1) (some ⟨w1.heap.size, 0, none⟩) [3, 5, 2, 97, 98, 90] := rb_lit w1 [3, 5, 2, 97, 98, 90] 5 (6, 7)
  refine (parse_sheet (w1.heap.size + 1) _ 6 [3, 5, 2, 97, 98, 90] _ hlit (by simp) (by decide)).mono ?_
  rintro e w2 ⟨hb2, ⟨p, s, A2, c2, d, hl, hM, hr2, rfl⟩ | ⟨hn, rfl⟩⟩
  · obtain ⟨rfl, rfl, rfl⟩ := sheet_inj hM.out may_ab (by rw [← hl.out, sheet_ab])
    have hr1' := (hr1.alloc (Nat.le_refl _) (.cells #[.int .u8 3, .int .u8 5, .int .u8 2, .int .u8 97, .int .u8 98, .int .u8 90] 5 (6, 7))).below hb2 (by simp)
    have hb3 := (hb1.alloc hs1 (.cells #[.int .u8 3, .int .u8 5, .int .u8 2, .int .u8 97, .int .u8 98, .int .u8 90] 5 (6, 7))).trans (hb2.mono (by simp; omega))
    have hs2 := hb3.size
    have hr3 := hr1'.alloc (by have := hb2.size; simp at this; omega) (.cells #[.int .i64 3, .int .i64 5, .slice A2 2 c2] 24)
    have hr4 := hr2.alloc (Nat.le_refl _) (.cells #[.int .i64 3, .int .i64 5, .slice A2 2 c2] 24)
    have ks1 : (convert 22 9 (.slice A1 4 c1)).run Try.prog (w2.alloc (.cells #[.int .i64 3, .int .i64 5, .slice A2 2 c2] 24)) = .ok (.string ⟨#[0, 1, 0, 90]⟩) (w2.alloc (.cells #[.int .i64 3, .int .i64 5, .slice A2 2 c2] 24)) := run_str hr3 c1
    have ks2 : (convert 22 9 (.slice A2 2 c2)).run Try.prog (w2.alloc (.cells #[.int .i64 3, .int .i64 5, .slice A2 2 c2] 24)) = .ok (.string ⟨#[97, 98]⟩) (w2.alloc (.cells #[.int .i64 3, .int .i64 5, .slice A2 2 c2] 24)) := run_str hr4 c2
    have HB := Lib.hid (hb3.alloc hs2 (.cells #[.int .i64 3, .int .i64 5, .slice A2 2 c2] 24))
    clear hb3 hr3 hr4 hr1' hr1 hr2 hb1 hb2 hl hM kc
    go_wp2_with (first | (go_at_call 20; refine (numof_any _ _ _).mono ?_; rintro e w' ⟨rfl, rfl⟩; rw [show numS 1 2 = 8 from by decide]))
    go_ret
    exact ⟨rfl, HB.out⟩
  · exact absurd sheet_ab.symm (hn.out 3 5 [97, 98] may_ab)
end Go.Proofs.Ytfjijpejoocngaa
