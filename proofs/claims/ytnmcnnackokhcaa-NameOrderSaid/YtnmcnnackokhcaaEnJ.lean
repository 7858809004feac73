/- NameForms: any entries, any name, any node. -/
import Derived.Test.YtnmcnnackokhcaaEnH
import Derived.Test.YtnmcnnackokhcaaEnI
namespace Go.Proofs.Ytnmcnnackokhcaa
open Go.RowKit Go.Lib

theorem withE_len (l : List Ent) (s : ByteArray) (n : Int) : (withE l s n).1.length ≤ l.length + 1 := by
  unfold withE
  split
  · simp
  · split
    · simp
    · split
      · simp
      · exact Nat.le_of_eq (putE_len l (s, n))
theorem cutE_len (l : List Ent) (s : ByteArray) : (cutE l s).length ≤ l.length := by
  unfold cutE
  rw [List.length_append, List.length_take, List.length_drop]
  omega
theorem outE_len (l : List Ent) (s : ByteArray) : (outE l s).1.length ≤ l.length := by
  unfold outE
  split
  · simp
  · split
    · simp
    · exact cutE_len l s
theorem bool_same (V : Bool) (w : World) : (binOp .eql 4 (.bool V) (.bool V)).run Try.prog w = .ok (.bool true) w := by cases V <;> rfl
set_option maxRecDepth 100000 in
set_option maxHeartbeats 4000000 in
theorem forms_law (A : Option Addr) (c : Nat) (l : List Ent) (s : ByteArray) (n : Int) (w : World) (hA : ELies w A l) (hn : A = none → l = [] ∧ c = 0) (hc : l.length ≤ c) (hl : l.length ≤ maxLen) :
    Calls Try.prog 3 #[.slice A l.length c, .string s, .int .i64 n] w fun e w' => e = .returned (.bool true) ∧ Below w.heap.size w w' := by
  have HA := Lib.hid hA
  have HN := Lib.hid hn
  have HLI := Lib.hid (light_any A c l w hA hl)
  have HLV := Lib.hid (lightV_cases l)
  generalize lightV l = R at HLI HLV
  rcases HLV.out with ⟨rfl, h60⟩ | rfl
  case inr =>
    go_enter Try.func3, Try.ntmps3
    go_wp2_with (first
      | (go_at_call 7; (with_reducible refine HLI.out.mono ?_); rintro e w1 ⟨rfl, hb1⟩; replace hb1 := Lib.hid hb1)
      | (go_at_call 8; (with_reducible refine (awake_any _).mono ?_); rintro e w2 ⟨rfl, hb2⟩; have HB2 := Lib.hid hb2; clear hb2)
      | fail)
    go_ret
    exact ⟨rfl, hb1.out.trans (HB2.out.mono hb1.out.size)⟩
  by_cases hs : (s.size : Int) ≤ 100
  case neg =>
    have d1 : decide ((100 : Int) < s.size) = true := decide_eq_true (by omega)
    go_enter Try.func3, Try.ntmps3
    go_wp2_with (first
      | (go_at_call 7; (with_reducible refine HLI.out.mono ?_); rintro e w1 ⟨rfl, hb1⟩; replace hb1 := Lib.hid hb1)
      | (go_at_call 8; (with_reducible refine (awake_any _).mono ?_); rintro e w2 ⟨rfl, hb2⟩; have HB2 := Lib.hid hb2; clear hb2)
      | fail)
    go_ret
    exact ⟨rfl, hb1.out.trans (HB2.out.mono hb1.out.size)⟩
  have d1 : decide ((100 : Int) < s.size) = false := decide_eq_false (by omega)
  have HPL := Lib.hid (withE_len l s n)
  have HQL := Lib.hid (outE_len l s)
  have hw1 := fun w (h : ELies w A l) => with_any A c l s n w h hn hc
  have hw2 := fun w (h : ELies w A l) => withr_any A c l s n w h hn hc hl
  have ho1 := fun w (h : ELies w A l) => out_any A c l s w h hn hc
  have ho2 := fun w (h : ELies w A l) => outr_any A c l s w h hl
  generalize withE l s n = P at hw1 hw2 HPL
  generalize outE l s = Q at ho1 ho2 HQL
  obtain ⟨P, pe⟩ := P
  obtain ⟨Q, qe⟩ := Q
  have HW1 := Lib.hid hw1
  have HW2 := Lib.hid hw2
  have HO1 := Lib.hid ho1
  have HO2 := Lib.hid ho2
  have HM1 := Lib.hid fun w (h : ELies w A l) => mays_any A c l w h
  have HM2 := Lib.hid fun w (h : ELies w A l) => mayr_any A c l w h
  have HF1 := Lib.hid fun w (h : ELies w A l) => find_any A c l s w h hl
  have HF2 := Lib.hid fun w (h : ELies w A l) => at_any A c l s w h hl
  have HNM := Lib.hid fun w (h : ELies w A l) => names_any A c l w h (by omega)
  generalize mayEs l = V at HM1 HM2
  generalize findE l s = F at HF1 HF2
  have HVV := fun w => bool_same V w
  have HMX : Hid (P.length ≤ maxLen ∧ Q.length ≤ maxLen) := Lib.hid (by
    have h1 := HPL.out
    have h2 := HQL.out
    simp only at h1 h2
    unfold maxLen
    omega)
  clear hA hn hc hl hw1 hw2 ho1 ho2 HN
  go_enter Try.func3, Try.ntmps3
  go_wp2_with (first
    | (go_at_call 7; (with_reducible refine HLI.out.mono ?_); rintro e w1 ⟨rfl, hb1⟩; replace hb1 := Lib.hid hb1)
    | (go_at_call 9; (with_reducible refine (HW1.out _ (HA.out.below hb1.out)).mono ?_); rintro e w2 ⟨A1, c1, rfl, hl1, -, -, -, hb2⟩; replace hl1 := Lib.hid hl1; replace hb2 := Lib.hid (hb1.out.trans (hb2.mono hb1.out.size)))
    | (go_at_call 10; (with_reducible refine (HW2.out _ (HA.out.below hb2.out)).mono ?_); rintro e w3 ⟨A2, c2, rfl, hl2, -, -, -, hb3⟩; replace hl2 := Lib.hid hl2; have HX1 := Lib.hid (hl1.out.below hb3); replace hb3 := Lib.hid (hb2.out.trans (hb3.mono hb2.out.size)))
    | (go_at_call 11; (with_reducible refine (HO1.out _ (HA.out.below hb3.out)).mono ?_); rintro e w4 ⟨A3, c3, rfl, hl3, -, -, -, hb4⟩; replace hl3 := Lib.hid hl3; have HX2 := Lib.hid (HX1.out.below hb4); have HY2 := Lib.hid (hl2.out.below hb4); replace hb4 := Lib.hid (hb3.out.trans (hb4.mono hb3.out.size)))
    | (go_at_call 12; (with_reducible refine (HO2.out _ (HA.out.below hb4.out)).mono ?_); rintro e w5 ⟨A4, c4, rfl, hl4, -, -, -, hb5⟩; replace hl4 := Lib.hid hl4; have HX3 := Lib.hid (HX2.out.below hb5); have HY3 := Lib.hid (HY2.out.below hb5); have HZ3 := Lib.hid (hl3.out.below hb5); replace hb5 := Lib.hid (hb4.out.trans (hb5.mono hb4.out.size)))
    | (go_at_call 13; (with_reducible refine (HNM.out _ (HA.out.below hb5.out)).mono ?_); rintro e w6 ⟨A5, c5, rfl, hl5, -, hb6⟩; replace hl5 := Lib.hid hl5; have HX4 := Lib.hid (HX3.out.below hb6); have HY4 := Lib.hid (HY3.out.below hb6); have HZ4 := Lib.hid (HZ3.out.below hb6); have HU4 := Lib.hid (hl4.out.below hb6); replace hb6 := Lib.hid (hb5.out.trans (hb6.mono hb5.out.size)))
    | fail)
  clear hb1 hb2 hb3 hb4 hb5 hl1 hl2 hl3 hl4 HX1 HX2 HX3 HY2 HY3 HZ3 HLI HW1 HW2 HO1 HO2 HNM
  go_loopw [16, 17, 62] (fun _ _ v62 wr => ∃ j : Nat, j ≤ l.length ∧ v62 = .int .i64 j ∧ Hid (Below w6.heap.size w6 wr)) (fun _ _ v62 _ => l.length - (RowKit.intOf v62).toNat)
  case atStart => exact ⟨0, Nat.zero_le _, rfl, Lib.hid (Below.refl _ _)⟩
  case round =>
    obtain ⟨j, hj, rfl, HB⟩ := hrel
    have HBB : Hid (Below w.heap.size w wr) := Lib.hid (hb6.out.trans (HB.out.mono hb6.out.size))
    by_cases hj1 : j < l.length
    · obtain ⟨B, o, rfl, hBs, hcc⟩ := (HA.out.below HBB.out) (by omega)
      have d2 : decide ((j : Int) < (l.length : Int)) = true := decide_eq_true (by omega)
      obtain ⟨k0, k1⟩ := hcc j hj1
      obtain ⟨B', o', rfl, hBs', hcc'⟩ := (hl5.out.below HB.out) (by rw [List.length_map]; omega)
      have m0 := hcc' j (by rw [List.length_map]; exact hj1)
      rw [List.getElem_map] at m0
      generalize l[j] = x at k0 k1 m0
      obtain ⟨t, z⟩ := x
      have m1 : (wr.alloc (.cells #[.string t, .int .i64 z] 32)).cell? ⟨B', o' + j, none⟩ = some (.string t) := (((Below.refl _ _).alloc (Nat.le_refl _) _).cell (p := ⟨B', o' + j, none⟩) hBs').trans m0
      have HBW := Lib.hid (HB.out.alloc HB.out.size (.cells #[.string t, .int .i64 z] 32))
      obtain ⟨x0, x1⟩ := box_cells wr (.string t) (.int .i64 z) 32
      clear hcc hcc'
      go_wp2_with fail
      go_quiet (fail)
      go_wp2_with fail
      go_roundw
      case rel => exact ⟨j + 1, by omega, by go_num, Lib.hid (by first | exact HBW.out | exact drewN_below HBW.out _)⟩
      case measure => simp [RowKit.intOf]; omega
    · have d2 : decide ((j : Int) < (l.length : Int)) = false := decide_eq_false (by omega)
      have HX5 := Lib.hid (HX4.out.below HB.out)
      have HY5 := Lib.hid (HY4.out.below HB.out)
      have HZ5 := Lib.hid (HZ4.out.below HB.out)
      have HU5 := Lib.hid (HU4.out.below HB.out)
      go_wp2_with (first
        | (go_at_call 14; (with_reducible refine (same_any A1 A2 c1 c2 P P _ HX5.out HY5.out HMX.out.1 HMX.out.1).mono ?_); rintro e w7 ⟨rfl, hb7⟩; rw [decide_eq_true rfl]; have HZ6 := Lib.hid (HZ5.out.below hb7); have HU6 := Lib.hid (HU5.out.below hb7); replace hb7 := Lib.hid (HBB.out.trans (hb7.mono HBB.out.size)))
        | (go_at_call 14; (with_reducible refine (same_any A3 A4 c3 c4 Q Q _ HZ6.out HU6.out HMX.out.2 HMX.out.2).mono ?_); rintro e w8 ⟨rfl, hb8⟩; rw [decide_eq_true rfl]; replace hb8 := Lib.hid (hb7.out.trans (hb8.mono hb7.out.size)))
        | (go_at_call 15; (with_reducible refine (HM1.out _ (HA.out.below hb8.out)).mono ?_); rintro e w9 ⟨rfl, hb9⟩; replace hb9 := Lib.hid (hb8.out.trans (hb9.mono hb8.out.size)))
        | (go_at_call 16; (with_reducible refine (HM2.out _ (HA.out.below hb9.out)).mono ?_); rintro e w10 ⟨rfl, hb10⟩; replace hb10 := Lib.hid (hb9.out.trans (hb10.mono hb9.out.size)))
        | (go_at_call 17; (with_reducible refine (HF1.out _ (HA.out.below hb10.out)).mono ?_); rintro e w11 ⟨rfl, hb11⟩; replace hb11 := Lib.hid (hb10.out.trans (hb11.mono hb10.out.size)))
        | (go_at_call 18; (with_reducible refine (HF2.out _ (HA.out.below hb11.out)).mono ?_); rintro e w12 ⟨rfl, hb12⟩; replace hb12 := Lib.hid (hb11.out.trans (hb12.mono hb11.out.size)))
        | (go_at_call 8; (with_reducible refine (awake_any _).mono ?_); rintro e w13 ⟨rfl, hb13⟩; replace hb13 := Lib.hid (hb12.out.trans (hb13.mono hb12.out.size)))
        | fail)
      go_ret
      exact ⟨rfl, hb13.out⟩
end Go.Proofs.Ytnmcnnackokhcaa
