/- The reference's MaySheet, SheetBytes, SameSheet, PageOf, SplitPage; the law's light. -/
import Derived.Test.YtfjijpejoocngaaRefBytes
import Derived.Test.YtfjijpejoocngaaAwake
namespace Go.Proofs.Ytfjijpejoocngaa
open Go.RowKit

theorem refL_sheet {p s : Int} {d : List UInt8} (h1 : 0 ≤ p ∧ p ≤ 60) (h2 : 1 ≤ s ∧ s ≤ 1099511627776) (h3 : d.length ≤ 2000) : refL p s d = sheetL p.toNat s.toNat d := by
  obtain ⟨P, rfl⟩ : ∃ P : Nat, p = (P : Int) := ⟨p.toNat, by omega⟩
  obtain ⟨S, rfl⟩ : ∃ S : Nat, s = (S : Int) := ⟨s.toNat, by omega⟩
  unfold refL sheetL
  rw [heldW_nat P (by omega), heldW_nat S (by omega), heldW_nat d.length (by omega)]
  rfl
theorem held_not90 {p : Int} (h1 : 0 ≤ p ∧ p ≤ 60) : numL (heldW p) ≠ [90] := by
  obtain ⟨P, rfl⟩ : ∃ P : Nat, p = (P : Int) := ⟨p.toNat, by omega⟩
  rw [heldW_nat P (by omega), numL_small P (by omega)]
  intro e
  have := congrArg UInt8.toNat (List.singleton_inj.1 e)
  rw [byteOf_nat P (by omega)] at this
  simp at this; omega
theorem toList_str (l : List UInt8) : (strOf l).toList = l := by rw [ByteArray.toList_eq]; simp [strOf]
theorem may_not {p s : Int} {d : List UInt8} (h : ¬ MayS p s d) : decide (MayS p s d) = false := decide_eq_false h
set_option maxRecDepth 100000 in
set_option maxHeartbeats 1000000 in
theorem maysheet_any (B : Nat) (p s : Int) (A : Option Addr) (c : Nat) (d : List UInt8) (w : World) (hr : RB w B A d) (hB : B ≤ w.heap.size) :
    Calls Try.prog 19 #[.agg #[.int .i64 p, .int .i64 s, .slice A d.length c]] w fun e w' => e = .returned (.bool (decide (MayS p s d))) ∧ Below w.heap.size w w' := by
  have hr0 := Lib.hid (hr.alloc hB (.cells #[.int .i64 p, .int .i64 s, .slice A d.length c] 24))
  have hb0 := Lib.hid ((Below.refl w.heap.size w).alloc (Nat.le_refl _) (.cells #[.int .i64 p, .int .i64 s, .slice A d.length c] 24))
  by_cases h : (0 ≤ p ∧ p ≤ 60) ∧ (1 ≤ s ∧ s ≤ 1099511627776) ∧ d.length ≤ 2000
  · obtain ⟨h1, h2, h3⟩ := h
    have E := Lib.hid (refL_sheet h1 h2 h3)
    have N := Lib.hid (held_not90 h1)
    have H1 := Lib.hid h1
    have H2 := Lib.hid h2
    obtain ⟨h11, h12⟩ := h1
    obtain ⟨h21, h22⟩ := h2
    go_enter Try.func19, Try.ntmps19
    go_wp2_with (go_at_call 25; refine (refbytes_any B p s A c d _ hr0.out (by simp; omega) (by omega) N.out).mono ?_; rintro e w1 ⟨A1, c1, L1, rfl, hL1, hown1, hb1⟩; have HL := Lib.hid (hL1.out.trans E.out); have HB := Lib.hid (hb0.out.trans (hb1.mono (by simp))); clear hL1 hown1 hb1)
    go_ret
    refine ⟨ret_bool ?_, HB.out⟩
    have e : MayS p s d ↔ (L1.length : Int) ≤ 2000 := by
      unfold MayS
      rw [← HL.out]
      constructor
      · intro h; omega
      · intro h; exact ⟨H1.out, H2.out, h3, by omega⟩
    exact decide_eq_decide.2 e.symm
  · have HM : ¬ MayS p s d := fun hm => h ⟨hm.1, hm.2.1, hm.2.2.1⟩
    rw [decide_eq_false HM]
    have HH := Lib.hid h
    clear h HM
    go_enter Try.func19, Try.ntmps19
    go_wp2_with fail
    · exact absurd ⟨⟨by omega, by omega⟩, ⟨by omega, by omega⟩, by omega⟩ HH.out
    all_goals
      go_ret
      exact ⟨rfl, hb0.out⟩
set_option maxRecDepth 100000 in
theorem refsheet_any (B : Nat) (p s : Int) (A : Option Addr) (c : Nat) (d : List UInt8) (w : World) (hr : RB w B A d) (hB : B ≤ w.heap.size) :
    Calls Try.prog 12 #[.agg #[.int .i64 p, .int .i64 s, .slice A d.length c]] w (BytesPost p s d w) := by
  have hr0 := Lib.hid (hr.alloc hB (.cells #[.int .i64 p, .int .i64 s, .slice A d.length c] 24))
  have hb0 := Lib.hid ((Below.refl w.heap.size w).alloc (Nat.le_refl _) (.cells #[.int .i64 p, .int .i64 s, .slice A d.length c] 24))
  have C0 := Lib.hid (heap_alloc_new w (.cells #[.int .i64 p, .int .i64 s, .slice A d.length c] 24))
  by_cases hM : MayS p s d
  · have HM := Lib.hid hM
    have N := Lib.hid (held_not90 hM.1)
    have E := Lib.hid (refL_sheet hM.1 hM.2.1 hM.2.2.1)
    have hd := hM.2.2.1
    clear hM
    go_enter Try.func12, Try.ntmps12
    go_wp2_with fail
    refine (maysheet_any B p s A c d _ hr0.out (by simp; omega)).mono ?_
    rintro e w1 ⟨rfl, hb1⟩
    rw [decide_eq_true HM.out]
    have hr1 := Lib.hid (hr0.out.below hb1 (by simp; omega))
    have hs1 := hb1.size
    have hb2 := Lib.hid (hb0.out.trans (hb1.mono (by simp)))
    obtain ⟨k0, k1, k2⟩ := cells3 ((hb1.block w.heap.size (by simp)).trans C0.out)
    clear hb1
    go_wp2_with fail
    refine (refbytes_any B p s A c d _ hr1.out (by simp at hs1; omega) (by omega) N.out).mono ?_
    rintro e w2 ⟨A2, c2, L2, rfl, hL2, hown2, hb3⟩
    have hHL := Lib.hid (hL2.out.trans E.out)
    go_wp2
    go_ret2
    obtain ⟨A2', c2', he, hle⟩ := own_slice hown2
    cases he
    exact ⟨A2, c2, L2, 0, rfl, by rw [if_pos HM.out]; exact hHL.out, by rw [if_pos HM.out], hle, .of_own hown2, fun ad e => (by have := (hown2.lt ad.block (by rw [e]; rfl)).1; simp at hs1; omega), hb2.out.trans (hb3.mono (by simp at hs1; omega))⟩
  · have HM := Lib.hid hM
    clear hM
    go_enter Try.func12, Try.ntmps12
    go_wp2_with fail
    refine (maysheet_any B p s A c d _ hr0.out (by simp; omega)).mono ?_
    rintro e w1 ⟨rfl, hb1⟩
    rw [decide_eq_false HM.out]
    have hb2 := Lib.hid (hb0.out.trans (hb1.mono (by simp)))
    clear hb1
    go_wp2
    go_ret2
    exact BytesPost.no HM.out hb2.out
set_option maxRecDepth 100000 in
theorem same_any (B B' : Nat) (p s p' s' : Int) (A A' : Option Addr) (c c' : Nat) (d d' : List UInt8) (w : World) (hr : RB w B A d) (hB : B ≤ w.heap.size) (hr' : RB w B' A' d') (hB' : B' ≤ w.heap.size) :
    Calls Try.prog 17 #[.agg #[.int .i64 p, .int .i64 s, .slice A d.length c], .agg #[.int .i64 p', .int .i64 s', .slice A' d'.length c']] w fun e w' => e = .returned (.bool (decide (p = p' ∧ s = s' ∧ d = d'))) ∧ Below w.heap.size w w' := by
  have hb0 := Lib.hid (((Below.refl w.heap.size w).alloc (Nat.le_refl _) (.cells #[.int .i64 p, .int .i64 s, .slice A d.length c] 24)).alloc (by simp) (.cells #[.int .i64 p', .int .i64 s', .slice A' d'.length c'] 24))
  have ks := run_str ((hr.alloc hB (.cells #[.int .i64 p, .int .i64 s, .slice A d.length c] 24)).alloc (by simp; omega) (.cells #[.int .i64 p', .int .i64 s', .slice A' d'.length c'] 24)) c
  have ks' := run_str ((hr'.alloc hB' (.cells #[.int .i64 p, .int .i64 s, .slice A d.length c] 24)).alloc (by simp; omega) (.cells #[.int .i64 p', .int .i64 s', .slice A' d'.length c'] 24)) c'
  by_cases hp : p = p'
  · subst hp
    by_cases hs : s = s'
    · subst hs
      by_cases hd : d = d'
      · subst hd
        go_enter Try.func17, Try.ntmps17
        go_wp2
        go_ret
        exact ⟨ret_bool (by simp), hb0.out⟩
      · have hS : ¬ (strOf d).toList = (strOf d').toList := fun e => hd (by rw [toList_str, toList_str] at e; exact e)
        rw [decide_eq_false (fun h => hd h.2.2)]
        clear hd
        generalize strOf d = S at hS ks
        generalize strOf d' = S' at hS ks'
        go_enter Try.func17, Try.ntmps17
        go_wp2
        go_ret
        exact ⟨ret_bool (by simpa using hS), hb0.out⟩
    · have hs' : (s == s') = false := by simpa using hs
      rw [decide_eq_false (fun h => hs h.2.1)]
      clear hs ks ks'
      go_enter Try.func17, Try.ntmps17
      go_wp2
      go_ret
      exact ⟨rfl, hb0.out⟩
  · have hp' : (p == p') = false := by simpa using hp
    rw [decide_eq_false (fun h => hp h.1)]
    clear hp ks ks'
    go_enter Try.func17, Try.ntmps17
    go_wp2
    go_ret
    exact ⟨rfl, hb0.out⟩
theorem pageof_any (a b : Int) (w : World) : Calls Try.prog 21 #[.int .i64 a, .int .i64 b] w fun e w' => e = .returned (.int .i64 (numS a b)) ∧ w = w' := by
  go_enter Try.func21, Try.ntmps21
  go_wp2
  all_goals
    go_ret
    exact ⟨ret_int (by unfold numS; first | rw [if_neg (by omega)] | rw [if_pos (by omega)]), rfl⟩
theorem splitpage_any (n : Int) (w : World) : Calls Try.prog 16 #[.int .i64 n] w fun e w' => e = .returned (.tuple #[.int .i64 (splitS n).1, .int .i64 (splitS n).2]) ∧ w = w' := by
  by_cases h1 : 1 ≤ n ∧ n ≤ 60
  all_goals
    have H1 := Lib.hid h1
    have e1 : splitS n = if 1 ≤ n ∧ n ≤ 60 then ((n - 1) / 5, (n - 1) % 5) else (-1, -1) := rfl
    simp only [h1] at e1
    have E1 := Lib.hid e1
    clear e1
    go_enter Try.func16, Try.ntmps16
    go_wp2
  · go_ret2
    rw [E1.out]
    exact ⟨by simp, rfl⟩
  · go_ret2
    rw [E1.out]
    exact ⟨by simp, rfl⟩
  · go_ret2
    rw [E1.out]
    exact ⟨by simp, rfl⟩
theorem load_three {w : World} {g k : Nat} {x y z : Value} {t : TypeId} {cs : Array Value} (h : w.heap[g]? = some (.cells cs t (0, 0))) (h0 : cs[k]? = some x) (h1 : cs[k + 1]? = some y) (h2 : cs[k + 2]? = some z) : w.cell? ⟨g, k, none⟩ = some x ∧ w.cell? ⟨g, k + 1, none⟩ = some y ∧ w.cell? ⟨g, k + 2, none⟩ = some z := by
  simp [World.cell?, h, h0, h1, h2]
set_option maxRecDepth 100000 in
theorem light1_any (g k : Nat) (p s : Int) (A : Option Addr) (n c : Nat) (w : World) (hg : w.heap[g]? = some (.cells #[.int .i64 p, .int .i64 s, .slice A n c] 24 (0, 0))) :
    Calls Try.prog 9 #[.slice (some ⟨g, 0, none⟩) 1 k] w fun e w' => e = .returned (.bool (decide (n ≤ 3000))) ∧ Below w.heap.size w w' := by
  obtain ⟨k0, k1, k2⟩ := cells3 hg
  have hgl := lt_size hg
  by_cases hn : n ≤ 3000
  all_goals
    have HN := Lib.hid hn
    go_enter Try.func9, Try.ntmps9
    go_wp2
    refine wp_loop_rounds 2 ?_
    rw [rounds_succ]
    go_wp2
  · rw [rounds_succ]
    go_wp2
    go_ret
    exact ⟨ret_bool (by simp [HN.out]), (Below.refl _ _).alloc (Nat.le_refl _) _⟩
  · go_ret
    exact ⟨ret_bool (by simp [HN.out]), (Below.refl _ _).alloc (Nat.le_refl _) _⟩
end Go.Proofs.Ytfjijpejoocngaa
