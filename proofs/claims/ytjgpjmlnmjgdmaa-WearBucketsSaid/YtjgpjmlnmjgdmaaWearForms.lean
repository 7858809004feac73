/- WearForms: any counts, any blocks, any bound: the law's walk (written by wearforms.py). -/
import Derived.Test.YtjgpjmlnmjgdmaaWearLaw
namespace Go.Proofs.Ytjgpjmlnmjgdmaa
open Go.RowKit

set_option maxRecDepth 100000 in
set_option maxHeartbeats 4000000 in
theorem forms_any (A A' : Option Addr) (c c' : Nat) (l : List Int) (b : List Bool) (most : Int) (w : World) (_hc : l.length ≤ maxLen) (_hc' : b.length ≤ maxLen) (hA : IA w A l) (hA' : BA w A' b) (hw : ∀ x ∈ l, (Lit.int .i64 x).wf = true) (hm : (Lit.int .i64 most).wf = true) (hR : Roomy A' c' b.length) :
    Calls Try.prog 3 #[.slice A l.length c, .slice A' b.length c', .int .i64 most] w (Holds w) := by
  unfold maxLen at _hc _hc'
  by_cases hl : l.length ≤ 200
  · by_cases hb : b.length ≤ 200
    · have HW := Lib.hid hw
      have HM := Lib.hid hm
      have L0 := Lib.hid hA
      have M0 := Lib.hid hA'
      have B0 := Lib.hid (Below.refl w.heap.size w)
      have HRm := Lib.hid hR
      clear hA hA' hw hm hR
      go_enter Try.func3, Try.ntmps3
      go_wp2_with fail
      refine (ends_any A A' c c' l b w (by omega) (by omega) L0.out M0.out HW.out HRm.out).mono ?_
      rintro e w1 ⟨rfl, hb1⟩
      have B1 := Lib.hid (B0.out.trans (hb1.mono B0.out.size))
      have L1 := Lib.hid (L0.out.below hb1)
      have M1 := Lib.hid (M0.out.below hb1)
      clear hb1 B0 L0 M0
      go_wp2_with fail
      refine (endsr_any A A' c c' l b w1 (by omega) (by omega) L1.out M1.out).mono ?_
      rintro e w2 ⟨rfl, hb2⟩
      have B2 := Lib.hid (B1.out.trans (hb2.mono B1.out.size))
      have L2 := Lib.hid (L1.out.below hb2)
      have M2 := Lib.hid (M1.out.below hb2)
      clear hb2 B1 L1 M1
      go_wp2_with fail
      refine (apart_any A A' c c' l b w2 (by omega) (by omega) L2.out M2.out HW.out HRm.out).mono ?_
      rintro e w3 ⟨rfl, hb3⟩
      have B3 := Lib.hid (B2.out.trans (hb3.mono B2.out.size))
      have L3 := Lib.hid (L2.out.below hb3)
      have M3 := Lib.hid (M2.out.below hb3)
      clear hb3 B2 L2 M2
      go_wp2_with fail
      refine (apartr_any A A' c c' l b w3 (by omega) (by omega) L3.out M3.out HW.out).mono ?_
      rintro e w4 ⟨rfl, hb4⟩
      have B4 := Lib.hid (B3.out.trans (hb4.mono B3.out.size))
      have L4 := Lib.hid (L3.out.below hb4)
      have M4 := Lib.hid (M3.out.below hb4)
      clear hb4 B3 L3 M3
      go_wp2_with fail
      refine (cold_any A A' c c' l b w4 (by omega) (by omega) L4.out M4.out HW.out HRm.out).mono ?_
      rintro e w5 ⟨rfl, hb5⟩
      have B5 := Lib.hid (B4.out.trans (hb5.mono B4.out.size))
      have L5 := Lib.hid (L4.out.below hb5)
      have M5 := Lib.hid (M4.out.below hb5)
      clear hb5 B4 L4 M4
      go_wp2_with fail
      refine (coldr_any A A' c c' l b w5 (by omega) (by omega) L5.out M5.out).mono ?_
      rintro e w6 ⟨rfl, hb6⟩
      have B6 := Lib.hid (B5.out.trans (hb6.mono B5.out.size))
      have L6 := Lib.hid (L5.out.below hb6)
      have M6 := Lib.hid (M5.out.below hb6)
      clear hb6 B5 L5 M5
      go_wp2_with fail
      refine (hot_any A A' c c' l b w6 (by omega) (by omega) L6.out M6.out HW.out HRm.out).mono ?_
      rintro e w7 ⟨rfl, hb7⟩
      have B7 := Lib.hid (B6.out.trans (hb7.mono B6.out.size))
      have L7 := Lib.hid (L6.out.below hb7)
      have M7 := Lib.hid (M6.out.below hb7)
      clear hb7 B6 L6 M6
      go_wp2_with fail
      refine (hotr_any A A' c c' l b w7 (by omega) (by omega) L7.out M7.out).mono ?_
      rintro e w8 ⟨rfl, hb8⟩
      have B8 := Lib.hid (B7.out.trans (hb8.mono B7.out.size))
      have L8 := Lib.hid (L7.out.below hb8)
      have M8 := Lib.hid (M7.out.below hb8)
      clear hb8 B7 L7 M7
      go_wp2_with fail
      refine (due_any A A' c c' l b w8 (by omega) (by omega) L8.out M8.out HW.out HRm.out most HM.out).mono ?_
      rintro e w9 ⟨rfl, hb9⟩
      have B9 := Lib.hid (B8.out.trans (hb9.mono B8.out.size))
      have L9 := Lib.hid (L8.out.below hb9)
      have M9 := Lib.hid (M8.out.below hb9)
      clear hb9 B8 L8 M8
      go_wp2_with fail
      refine (duer_any A A' c c' l b w9 (by omega) (by omega) L9.out M9.out most HW.out).mono ?_
      rintro e w10 ⟨rfl, hb10⟩
      have B10 := Lib.hid (B9.out.trans (hb10.mono B9.out.size))
      have L10 := Lib.hid (L9.out.below hb10)
      have M10 := Lib.hid (M9.out.below hb10)
      clear hb10 B9 L9 M9
      go_wp2_with fail
      refine (buck_any A A' c c' l b w10 (by omega) (by omega) L10.out M10.out HW.out HRm.out).mono ?_
      rintro e w11 ⟨X1, x1, rfl, hx1, _, hb11⟩
      have B11 := Lib.hid (B10.out.trans (hb11.mono B10.out.size))
      have L11 := Lib.hid (L10.out.below hb11)
      have M11 := Lib.hid (M10.out.below hb11)
      have HX1 := Lib.hid hx1
      clear hx1
      clear hb11 B10 L10 M10
      go_wp2_with fail
      refine (buckr_any A A' c c' l b w11 (by omega) (by omega) L11.out M11.out HW.out).mono ?_
      rintro e w12 ⟨X2, rfl, hx2, _, hb12⟩
      have B12 := Lib.hid (B11.out.trans (hb12.mono B11.out.size))
      have L12 := Lib.hid (L11.out.below hb12)
      have M12 := Lib.hid (M11.out.below hb12)
      have HX2 := Lib.hid hx2
      have HX3 := Lib.hid (HX1.out.below hb12)
      have hbl := buck_len (l.zip b)
      clear hx2 HX1
      clear hb12 B11 L11 M11
      go_wp2_with fail
      refine (ints_any X1 X2 x1 _ (bucketsP (l.zip b)) w12 (by omega) HX3.out HX2.out).mono ?_
      rintro e w13 ⟨rfl, hb13⟩
      have B13 := Lib.hid (B12.out.trans (hb13.mono B12.out.size))
      have L13 := Lib.hid (L12.out.below hb13)
      have M13 := Lib.hid (M12.out.below hb13)
      clear hb13 B12 L12 M12
      go_wp2_with fail
      refine (awake_any w13).mono ?_
      rintro e wz ⟨rfl, hbz⟩
      go_wp2_with fail
      go_ret
      exact ⟨rfl, B13.out.trans (hbz.mono B13.out.size)⟩
    · go_enter Try.func3, Try.ntmps3
      go_wp2_with (go_at_call 8; (with_reducible refine (awake_any _).mono ?_); rintro e w9 ⟨rfl, hb9⟩)
      go_ret
      exact ⟨rfl, hb9⟩
  · go_enter Try.func3, Try.ntmps3
    go_wp2_with (go_at_call 8; (with_reducible refine (awake_any _).mono ?_); rintro e w9 ⟨rfl, hb9⟩)
    go_ret
    exact ⟨rfl, hb9⟩
end Go.Proofs.Ytjgpjmlnmjgdmaa
