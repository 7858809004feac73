/- PathRaw: of any text: names that may be, whose path it is, or an error. -/
import Derived.Test.YtinkkmlbhkfmnaaDoorPaF
namespace Go.Proofs.YtinkkmlbhkfmnaaDoor
open Go.RowKit Go.Lib

set_option maxRecDepth 100000 in
theorem raw_law (s : ByteArray) (w : World) : Calls Tryd.prog 3 #[.string s] w fun e w' => e = .returned (.bool true) ∧ Below w.heap.size w w' := by
  by_cases h3 : (300 : Int) < s.size
  · go_enter Tryd.func3, Tryd.ntmps3
    go_wp2_with (first
      | (go_at_call 6; (with_reducible refine (awake_any _).mono ?_); rintro e w2 ⟨rfl, hb2⟩; have HB2 := Lib.hid hb2; clear hb2)
      | fail)
    go_ret
    exact ⟨rfl, HB2.out⟩
  have hsp := split_two s
  go_enter Tryd.func3, Tryd.ntmps3
  go_upto_region 4 with (first
    | (go_at_call 7; (with_reducible refine (hsp _).mono ?_); rintro e w1 ⟨A, L, r, rfl, hb1, hl61, hsl, hcase⟩; replace hcase := Lib.hid hcase; replace hsl := Lib.hid hsl; replace hb1 := Lib.hid hb1)
    | fail)
  rcases hcase.out with ⟨rfl, rfl, rfl, hN⟩ | ⟨rfl, hS⟩
  · clear hsp hN
    go_wp2_with (first
      | (go_at_call 6; (with_reducible refine (awake_any _).mono ?_); rintro e w2 ⟨rfl, hb2⟩; have HB2 := Lib.hid hb2; clear hb2)
      | fail)
    go_ret
    exact ⟨rfl, hb1.out.trans (HB2.out.mono hb1.out.size)⟩
  have hall : Hid (∀ j (h : j < L.length), mayL (L[j]).data.toList = true) := Lib.hid fun j hj => List.all_eq_true.1 (splitL_all hS) _ (List.mem_map.2 ⟨L[j], List.getElem_mem hj, rfl⟩)
  have h60 : s.size ≤ 60 := by rw [Lib.size_eq]; exact (splitL_some hS).1
  have hj : ∀ w2, Below w1.heap.size w1 w2 → Calls Tryd.prog 9 #[.slice A L.length L.length] w2 fun e w' => e = .returned (.string s) ∧ Below w2.heap.size w2 w' := fun w2 hb => by
    have h := join_any A L.length w.heap.size L w2 (hsl.out.below hb) (by omega)
    rw [show joinB L = s from byte_ext (by rw [joinB_data]; exact joinP_split hS)] at h
    exact h
  replace hj := Lib.hid hj
  clear hsp hS hcase h3
  go_wp2_with fail
  go_loopw [6, 30] (fun _ v30 wx => ∃ k : Nat, v30 = .int .i64 k ∧ k ≤ L.length ∧ Below w1.heap.size w1 wx) (fun _ v30 _ => L.length - (RowKit.intOf v30).toNat)
  case atStart => exact ⟨0, rfl, Nat.zero_le _, Below.refl _ _⟩
  case round =>
    obtain ⟨k, rfl, hk, hbx⟩ := hrel
    have hb3 : Hid (Below w1.heap.size w1 wr) := Lib.hid hbx
    by_cases hkl : k < L.length
    · have d5 : decide ((k : Int) < (L.length : Int)) = true := decide_eq_true (by omega)
      obtain ⟨b, eb, hb4, hb5, hcell⟩ := hsl.out.below hb3.out (fun e => by subst e; simp at hkl)
      cases eb
      have hck := hcell k hkl
      have hmy := hall.out k hkl
      obtain ⟨nm, hnm⟩ : ∃ nm, L[k] = nm := ⟨_, rfl⟩
      rw [hnm] at hck hmy
      have hn8 : nm.size ≤ 8 := by
        by_cases h8 : (8 : Int) < nm.size
        · rw [mayL_long h8] at hmy; cases hmy
        · omega
      clear hcell hbx hnm
      go_wp2_with (first
        | (go_at_call 8; (with_reducible refine (may_any _ _).mono ?_); rintro e w4 ⟨rfl, hb6⟩; rw [hmy]; replace hb6 := Lib.hid hb6)
        | fail)
      go_roundw
      case rel => exact ⟨k + 1, rfl, by omega, hb3.out.trans (hb6.out.mono hb3.out.size)⟩
      case measure =>
        simp [RowKit.intOf]
        omega
    · have d5 : decide ((k : Int) < (L.length : Int)) = false := decide_eq_false (by omega)
      clear hbx
      go_wp2_with (first
        | (go_at_call 9; (with_reducible refine (hj.out _ hb3.out).mono ?_); rintro e w4 ⟨rfl, hb6⟩; replace hb6 := Lib.hid hb6)
        | (go_at_call 6; (with_reducible refine (awake_any _).mono ?_); rintro e w2 ⟨rfl, hb2⟩; have HB2 := Lib.hid hb2; clear hb2)
        | fail)
      go_ret
      have h5 := hb1.out.trans ((hb3.out.mono hb1.out.size).trans (hb6.out.mono (hb1.out.trans (hb3.out.mono hb1.out.size)).size))
      exact ⟨rfl, h5.trans (HB2.out.mono h5.size)⟩
end Go.Proofs.YtinkkmlbhkfmnaaDoor
