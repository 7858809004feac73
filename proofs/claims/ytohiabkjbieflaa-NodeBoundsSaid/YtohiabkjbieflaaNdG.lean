/- The reference's Ints; the law's Light of nodes. -/
import Derived.Test.YtohiabkjbieflaaEnG
import Derived.Test.YtohiabkjbieflaaNdP
namespace Go.Proofs.Ytohiabkjbieflaa
open Go.RowKit Go.Lib

set_option maxRecDepth 100000 in
set_option maxHeartbeats 2000000 in
theorem ints_any (A1 A2 : Option Addr) (c1 c2 : Nat) (l m : List Int) (w : World) (h1 : ILies w A1 l) (h2 : ILies w A2 m) (hl : l.length ≤ maxLen) (hm : m.length ≤ maxLen) : Calls Try.prog 31 #[.slice A1 l.length c1, .slice A2 m.length c2] w fun x w' => x = .returned (.bool (decide (l = m))) ∧ Below w.heap.size w w' := by
  have hmx : maxLen = 9223372036854775807 := rfl
  by_cases hlm : l.length = m.length
  case neg =>
    rw [decide_eq_false (fun e => hlm (by rw [e]))]
    have d1 : ((l.length : Int) != (m.length : Int)) = true := by rw [bne_iff_ne]; omega
    go_enter Try.func31, Try.ntmps31
    go_wp2_with fail
    go_ret
    exact ⟨rfl, Below.refl _ _⟩
  have d1 : ((l.length : Int) != (m.length : Int)) = false := by rw [bne_eq_false_iff_eq]; omega
  have HLM := Lib.hid hlm
  clear hlm
  have H1 := Lib.hid h1
  have H2 := Lib.hid h2
  obtain ⟨R, hR⟩ : ∃ R, decide (l = m) = R := ⟨_, rfl⟩
  rw [hR]
  replace hR := Lib.hid hR
  clear h1 h2
  go_enter Try.func31, Try.ntmps31
  go_wp2_with fail
  go_loopw [5, 13] (fun _ v13 wr => ∃ j : Nat, j ≤ l.length ∧ v13 = .int .i64 j ∧ Hid (∀ i (h : i < l.length) (h' : i < m.length), i < j → l[i] = m[i]) ∧ Below w.heap.size w wr) (fun _ v13 _ => l.length - (RowKit.intOf v13).toNat)
  case atStart => exact ⟨0, Nat.zero_le _, rfl, Lib.hid fun i _ _ h => absurd h (Nat.not_lt_zero i), Below.refl _ _⟩
  case round =>
    obtain ⟨j, hj, rfl, HI, hB⟩ := hrel
    have HB := Lib.hid hB
    clear hB
    by_cases hj1 : j < l.length
    · have hj2 : j < m.length := by have := HLM.out; omega
      obtain ⟨B, o, rfl, hBs, hc⟩ := (H1.out.below HB.out) (by omega)
      obtain ⟨B', o', rfl, hBs', hc'⟩ := (H2.out.below HB.out) (by omega)
      have d2 : decide ((j : Int) < (l.length : Int)) = true := decide_eq_true (by omega)
      have k0 := hc j hj1
      have p0 := hc' j hj2
      obtain ⟨x, hx⟩ : ∃ x, l[j] = x := ⟨_, rfl⟩
      obtain ⟨y, hy⟩ : ∃ y, m[j] = y := ⟨_, rfl⟩
      rw [hx] at k0
      rw [hy] at p0
      have HX := Lib.hid hx
      have HY := Lib.hid hy
      clear hc hc' hx hy
      by_cases e : x = y
      · have HE := Lib.hid e
        have hne : (x != y) = false := by simp [e]
        clear e
        go_wp2_with fail
        go_quiet (fail)
        go_wp2_with fail
        go_roundw
        case rel =>
          refine ⟨j + 1, by omega, by go_num, Lib.hid fun i h h' hi => ?_, by first | exact HB.out | exact HB.out.drew | exact drewN_below HB.out _⟩
          by_cases e : i = j
          · subst e; rw [HX.out, HY.out]; exact HE.out
          · exact HI.out i h h' (by omega)
        case measure => simp [RowKit.intOf]; omega
      · have HE : Hid (R = false) := Lib.hid (by
          rw [← hR.out]
          refine decide_eq_false fun hh => e ?_
          have h3 := HX.out
          have h4 := HY.out
          subst hh
          rw [← h3, ← h4])
        have hne : (x != y) = true := by simp [e]
        clear e
        go_wp2_with fail
        go_quiet (fail)
        go_wp2_with fail
        go_ret
        exact ⟨by rw [HE.out]; rfl, by first | exact HB.out | exact HB.out.drew | exact drewN_below HB.out _⟩
    · have d2 : decide ((j : Int) < (l.length : Int)) = false := decide_eq_false (by omega)
      have HR2 : Hid (R = true) := Lib.hid (by
        rw [← hR.out]
        exact decide_eq_true (List.ext_getElem HLM.out fun i h h' => HI.out i h h' (by omega)))
      go_wp2_with fail
      go_ret
      exact ⟨by rw [HR2.out]; rfl, HB.out⟩
/-- What the law's Light says of a node. -/
def lightN (n : Nd) : Int := if 60 < n.sq.length then 1 else lightV n.en
theorem box_node (w : World) (a b c d e : Value) (t : TypeId) : (w.alloc (.cells #[a, b, c, d, e] t)).heap[w.heap.size]? = some (.cells #[a, b, c, d, e] t (0, 0)) := heap_alloc_new w _
set_option maxRecDepth 100000 in
set_option maxHeartbeats 2000000 in
theorem lightN_any (n : Nd) (A B : Option Addr) (c d : Nat) (w : World) (h : NLies w n A B c d) : Calls Try.prog 8 #[ndV n A B c d] w fun x w' => x = .returned (.int .i64 (lightN n)) ∧ Below w.heap.size w w' := by
  have hmx : maxLen = 9223372036854775807 := rfl
  have hsm := h.sm
  have HH := Lib.hid h
  have HBA := Lib.hid ((Below.refl w.heap.size w).alloc (Nat.le_refl _) (.cells #[.int .i64 n.k, .int .i64 n.l, .int .i64 n.z, .slice A n.sq.length c, .slice B n.en.length d] 25))
  clear h
  by_cases h60 : 60 < n.sq.length
  · have d1 : decide ((60 : Int) < (n.sq.length : Int)) = true := decide_eq_true (by omega)
    have HL : Hid (lightN n = 1) := Lib.hid (if_pos h60)
    go_enter Try.func8, Try.ntmps8
    go_wp2_with fail
    go_ret
    exact ⟨by rw [HL.out]; rfl, HBA.out⟩
  · have d1 : decide ((60 : Int) < (n.sq.length : Int)) = false := decide_eq_false (by omega)
    have HL : Hid (lightN n = lightV n.en) := Lib.hid (if_neg h60)
    go_enter Try.func8, Try.ntmps8
    go_wp2_with (go_at_call 23; refine (light_any B d n.en _ (HH.out.below HBA.out).en HH.out.em).mono ?_; rintro e w' ⟨rfl, hb⟩)
    go_ret
    exact ⟨by rw [HL.out]; rfl, HBA.out.trans (hb.mono HBA.out.size)⟩
end Go.Proofs.Ytohiabkjbieflaa
