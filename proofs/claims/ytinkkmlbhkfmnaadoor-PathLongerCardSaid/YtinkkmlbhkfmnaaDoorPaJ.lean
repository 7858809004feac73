/- PathLonger: with a name more, a path is that name's: what is ahead is the path. -/
import Derived.Test.YtinkkmlbhkfmnaaDoorPaI
namespace Go.Proofs.YtinkkmlbhkfmnaaDoor
open Go.RowKit Go.Lib

theorem longer_data (s n : ByteArray) (h : s.data.toList ≠ [47]) : (s ++ ⟨#[47]⟩ ++ n).data.toList = longer s.data.toList n.data.toList := by
  rw [longer, if_neg h, app_data, app_data, List.append_assoc]
  rfl
theorem longer_data2 (s n : ByteArray) (h : s.data.toList = [47]) : ((⟨#[47]⟩ : ByteArray) ++ n).data.toList = longer s.data.toList n.data.toList := by
  rw [longer, if_pos h, app_data]
  rfl

/-- What a Last of the longer path says. -/
theorem last_longer {s n t : ByteArray} {L1 : List ByteArray} (w : World) (h1 : splitL s.data.toList = some (L1.map (·.data.toList))) (h2 : splitL t.data.toList = some ((L1 ++ [n]).map (·.data.toList))) : Calls Tryd.prog 11 #[.string t] w fun e w' => e = .returned (.tuple #[.string s, .string n, .int .i64 0]) ∧ Below w.heap.size w w' := by
  refine (last_any t w).mono ?_
  rintro e w' ⟨x, y, r, rfl, hb, ⟨_, h⟩ | ⟨_, h⟩ | ⟨rfl, L, rfl, h⟩⟩
  · rw [h2] at h; cases h
  · rw [h2] at h
    have := Option.some.inj h
    simp at this
  · rw [h2] at h
    have e1 := (names_eq (Option.some.inj h)).trans (names_eq (L := L ++ [y]) rfl).symm
    obtain ⟨rfl, e2⟩ := List.append_inj' e1 rfl
    obtain rfl : n = y := by simpa using e2
    have e3 : joinB L1 = s := byte_ext (by rw [joinB_data]; exact joinP_split h1)
    rw [e3]
    exact ⟨rfl, hb⟩

set_option maxRecDepth 100000 in
theorem longer_law (s n : ByteArray) (w : World) : Calls Tryd.prog 5 #[.string s, .string n] w fun e w' => e = .returned (.bool true) ∧ Below w.heap.size w w' := by
  by_cases hA : (200 : Int) < s.size ∨ (n.size : Int) < 1 ∨ (50 : Int) < n.size
  · have hA2 : ((200 : Int) < s.size) ∨ (¬ (200 : Int) < s.size ∧ (n.size : Int) < 1) ∨ (¬ (200 : Int) < s.size ∧ ¬ (n.size : Int) < 1 ∧ (50 : Int) < n.size) := by omega
    clear hA
    rcases hA2 with a1 | ⟨a1, a2⟩ | ⟨a1, a2, a3⟩
    all_goals
      (first | have d1 : decide ((200 : Int) < s.size) = true := decide_eq_true a1 | have d1 : decide ((200 : Int) < s.size) = false := decide_eq_false a1)
      (first | have d2 : decide ((n.size : Int) < 1) = true := decide_eq_true a2 | have d2 : decide ((n.size : Int) < 1) = false := decide_eq_false a2 | skip)
      (first | have d3 : decide ((50 : Int) < n.size) = true := decide_eq_true a3 | skip)
      go_enter Tryd.func5, Tryd.ntmps5
      go_wp2_with (first
        | (go_at_call 6; (with_reducible refine (awake_any _).mono ?_); rintro e w6 ⟨rfl, hb6⟩; replace hb6 := Lib.hid hb6)
        | fail)
      go_ret
      exact ⟨rfl, hb6.out⟩
  have d1 : decide ((200 : Int) < s.size) = false := decide_eq_false (by omega)
  have d2 : decide ((n.size : Int) < 1) = false := decide_eq_false (by omega)
  have d3 : decide ((50 : Int) < n.size) = false := decide_eq_false (by omega)
  have hs200 : s.size ≤ 200 := by omega
  have hn1 : 1 ≤ n.size := by omega
  have hn50 : n.size ≤ 50 := by omega
  clear hA
  go_enter Tryd.func5, Tryd.ntmps5
  go_wp2_with fail
  go_loopw [4, 5, 30] (fun v4 _ v30 wx => ∃ k : Nat, v4 = .bool false ∧ v30 = .int .i64 k ∧ k ≤ n.size ∧ wx = w ∧ Hid (∀ i (hi : i < n.size), i < k → (n[i]'hi) ≠ 47)) (fun _ _ v30 _ => n.size - (RowKit.intOf v30).toNat)
  case atStart => exact ⟨0, rfl, rfl, Nat.zero_le _, rfl, Lib.hid fun i _ h => absurd h (Nat.not_lt_zero i)⟩
  case round =>
    obtain ⟨k, rfl, rfl, hk, rfl, HL⟩ := hrel
    by_cases hkl : k < n.size
    · have d5 : decide ((k : Int) < (n.size : Int)) = true := decide_eq_true (by omega)
      have hix : ∀ w : World, (Instr.index 9 (.string n) (.int .i64 (k : Nat))).run Tryd.prog w = .ok (.int .u8 (n[k]'hkl).toNat) w := fun w => by
        rw [run_index_string w 9 n .i64 (k : Nat) Tryd.underlying9, dif_pos ⟨by omega, by omega⟩]
        rfl
      by_cases hb : (n[k]'hkl) = 47
      · have e7 : (n[k]'hkl).toNat = 47 := by rw [hb]; rfl
        rw [e7] at hix
        clear hb e7
        go_wp2_with (first
          | (go_at_call 6; (with_reducible refine (awake_any _).mono ?_); rintro e w6 ⟨rfl, hb6⟩; replace hb6 := Lib.hid hb6)
          | fail)
        go_ret
        exact ⟨rfl, hb6.out⟩
      · obtain ⟨x, hx⟩ : ∃ x, (n[k]'hkl).toNat = x := ⟨_, rfl⟩
        have e7 : ((x : Int) == 47) = false := by
          rw [beq_eq_false_iff_ne]
          intro e
          refine hb (UInt8.toNat_inj.1 ?_)
          rw [hx]
          show x = 47
          omega
        rw [hx] at hix
        clear hx
        replace hb := Lib.hid hb
        go_wp2_with fail
        go_roundw
        case rel =>
          refine ⟨k + 1, rfl, rfl, by omega, by first | rfl | trivial, Lib.hid fun i hi hlt => ?_⟩
          by_cases e : i = k
          · subst e; exact hb.out
          · exact HL.out i hi (by omega)
        case measure =>
          simp [RowKit.intOf]
          omega
    · have d5 : decide ((k : Int) < (n.size : Int)) = false := decide_eq_false (by omega)
      have h47 : 47 ∉ n.data.toList := fun hm => by
        obtain ⟨i, hi, e⟩ := List.getElem_of_mem hm
        rw [Array.length_toList] at hi
        exact HL.out i hi (by have : i < n.size := hi; omega) e
      have hne : n.data.toList ≠ [] := fun e => by
        have h0 : n.size = 0 := by rw [Lib.size_eq, e]; rfl
        omega
      replace h47 := Lib.hid h47
      replace hne := Lib.hid hne
      have hk2 : ¬ ((k : Int) < (n.size : Int)) := by omega
      clear HL hk hkl
      have hsp := split_two s
      go_upto_region 10 with (first
        | (go_at_call 7; (with_reducible refine (hsp _).mono ?_); rintro e w1 ⟨A1, L1, r1, rfl, hb1, hl1, hsl1, hc1⟩; replace hc1 := Lib.hid hc1; replace hsl1 := Lib.hid hsl1; replace hb1 := Lib.hid hb1)
        | fail)
      clear hsp d5 hk2
      by_cases hs : s.data.toList = [47]
      · have d7 : (s.toList == [47]) = true := by rw [dot_eq]; exact decide_eq_true hs
        have ht := Lib.hid (longer_data2 s n hs)
        have ht1 := Lib.hid (show (((⟨#[47]⟩ : ByteArray) ++ n).size) ≤ 1000 by
          have h2 : (⟨#[47]⟩ : ByteArray).size = 1 := rfl
          simp only [ByteArray.size_append]
          omega)
        clear hs
        go_upto_region 13 with fail
        clear d7
        generalize ((⟨#[47]⟩ : ByteArray) ++ n) = t at ht ht1 ⊢
        replace ht1 := ht1.out
        have hsp := split_two t
        go_upto_region 14 with (first
          | (go_at_call 7; (with_reducible refine (hsp _).mono ?_); rintro e w2 ⟨A2, L2, r2, rfl, hb2, hl2, hsl2, hc2⟩; replace hc2 := Lib.hid hc2; replace hsl2 := Lib.hid hsl2; replace hb2 := Lib.hid hb2)
          | fail)
        clear hsp
        obtain ⟨B, hB⟩ : ∃ B, mayL n.data.toList = B := ⟨_, rfl⟩
        have hnm : ∀ w, Calls Tryd.prog 10 #[.string n] w fun e w' => e = .returned (.bool B) ∧ w' = w := fun w => by
          have h := name_any n w
          rw [hB] at h
          exact h
        replace hB := Lib.hid hB
        rcases hc1.out with ⟨rfl, rfl, rfl, hN1⟩ | ⟨rfl, hS1⟩
        · clear hN1
          by_cases hse : s.data.toList = []
          · have d8 : (s.toList == []) = true := by rw [dot_eq]; exact decide_eq_true hse
            cases B with
            | true =>
              clear hse
              go_wp2_with (first
                | (go_at_call 10; (with_reducible refine (hnm _).mono ?_); rintro e w5 ⟨rfl, rfl⟩)
                | (go_at_call 6; (with_reducible refine (awake_any _).mono ?_); rintro e w6 ⟨rfl, hb6⟩; replace hb6 := Lib.hid hb6)
                | fail)
              go_ret
              have s2 := hb1.out.trans (hb2.out.mono hb1.out.size)
              exact ⟨rfl, s2.trans (hb6.out.mono s2.size)⟩
            | false =>
              have hN2 : splitL t.data.toList = none := by rw [ht.out]; exact longer_none (.inl hse) h47.out hB.out hne.out
              have hr7 : r2 = 7 := by
                rcases hc2.out with ⟨e, _⟩ | ⟨_, e⟩
                · exact e
                · rw [hN2] at e; cases e
              subst hr7
              clear hse hN2
              go_wp2_with (first
                | (go_at_call 10; (with_reducible refine (hnm _).mono ?_); rintro e w5 ⟨rfl, rfl⟩)
                | (go_at_call 6; (with_reducible refine (awake_any _).mono ?_); rintro e w6 ⟨rfl, hb6⟩; replace hb6 := Lib.hid hb6)
                | fail)
              go_ret
              have s2 := hb1.out.trans (hb2.out.mono hb1.out.size)
              exact ⟨rfl, s2.trans (hb6.out.mono s2.size)⟩
          · have d8 : (s.toList == []) = false := by rw [dot_eq]; exact decide_eq_false hse
            clear hse
            go_wp2_with (first
              | (go_at_call 10; (with_reducible refine (hnm _).mono ?_); rintro e w5 ⟨rfl, rfl⟩)
              | (go_at_call 6; (with_reducible refine (awake_any _).mono ?_); rintro e w6 ⟨rfl, hb6⟩; replace hb6 := Lib.hid hb6)
              | fail)
            go_ret
            have s2 := hb1.out.trans (hb2.out.mono hb1.out.size)
            exact ⟨rfl, s2.trans (hb6.out.mono s2.size)⟩
        · cases B with
          | false =>
            have hN2 : splitL t.data.toList = none := by rw [ht.out]; exact longer_none (.inr ⟨_, hS1⟩) h47.out hB.out hne.out
            have hr7 : r2 = 7 := by
              rcases hc2.out with ⟨e, _⟩ | ⟨_, e⟩
              · exact e
              · rw [hN2] at e; cases e
            subst hr7
            clear hN2 hS1
            go_wp2_with (first
              | (go_at_call 10; (with_reducible refine (hnm _).mono ?_); rintro e w5 ⟨rfl, rfl⟩)
              | (go_at_call 6; (with_reducible refine (awake_any _).mono ?_); rintro e w6 ⟨rfl, hb6⟩; replace hb6 := Lib.hid hb6)
              | fail)
            go_ret
            have s2 := hb1.out.trans (hb2.out.mono hb1.out.size)
            exact ⟨rfl, s2.trans (hb6.out.mono s2.size)⟩
          | true =>
            by_cases h60 : (60 : Int) < t.size
            · have hN2 : splitL t.data.toList = none := splitL_long (by rw [← Lib.size_eq]; omega)
              have hr7 : r2 = 7 := by
                rcases hc2.out with ⟨e, _⟩ | ⟨_, e⟩
                · exact e
                · rw [hN2] at e; cases e
              subst hr7
              have d9 : decide ((60 : Int) < t.size) = true := decide_eq_true h60
              clear hN2 hS1
              go_wp2_with (first
                | (go_at_call 10; (with_reducible refine (hnm _).mono ?_); rintro e w5 ⟨rfl, rfl⟩)
                | (go_at_call 6; (with_reducible refine (awake_any _).mono ?_); rintro e w6 ⟨rfl, hb6⟩; replace hb6 := Lib.hid hb6)
                | fail)
              go_ret
              have s2 := hb1.out.trans (hb2.out.mono hb1.out.size)
              exact ⟨rfl, s2.trans (hb6.out.mono s2.size)⟩
            · have hS2 : splitL t.data.toList = some ((L1 ++ [n]).map (·.data.toList)) := by
                rw [ht.out, List.map_append]
                exact longer_some hS1 hB.out (by rw [← ht.out, ← Lib.size_eq]; omega)
              have hla := fun w => last_longer w hS1 hS2
              have hr0 : r2 = 0 ∧ L2 = L1 ++ [n] := by
                rcases hc2.out with ⟨_, _, _, e⟩ | ⟨e1, e2⟩
                · rw [hS2] at e; cases e
                · rw [hS2] at e2
                  exact ⟨e1, (names_eq (Option.some.inj e2).symm).trans (names_eq (L := L1 ++ [n]) rfl).symm⟩
              obtain ⟨rfl, rfl⟩ := hr0
              have hlM : (L1 ++ [n]).length = L1.length + 1 := by simp
              obtain ⟨b2, rfl, hb3, hb4, hcell⟩ := hsl2.out (by simp)
              simp only [hlM]
              have hcy : Hid (∀ V, Below w2.heap.size w2 V → V.cell? ⟨b2, L1.length, none⟩ = some (.string n)) := Lib.hid fun V hV => by
                refine (hV.cell (p := ⟨b2, L1.length, none⟩) hb4).trans ?_
                have := hcell L1.length (by simp)
                simpa using this
              have d9 : decide ((60 : Int) < t.size) = false := decide_eq_false h60
              have i0 : (0 : Int) ≤ (L1.length : Int) := by omega
              have i1 : (L1.length : Int) < (L1.length : Int) + 1 := by omega
              clear hS1 hS2 hcell hlM hl2
              go_wp2_with (first
                | (go_at_call 10; (with_reducible refine (hnm _).mono ?_); rintro e w5 ⟨rfl, rfl⟩)
                | (go_at_call 11; (with_reducible refine (hla _).mono ?_); rintro e w4 ⟨rfl, hb4⟩; have hcz := hcy.out _ hb4; replace hb4 := Lib.hid hb4)
                | (go_at_call 6; (with_reducible refine (awake_any _).mono ?_); rintro e w6 ⟨rfl, hb6⟩; replace hb6 := Lib.hid hb6)
                | fail)
              go_ret
              have s2 := hb1.out.trans (hb2.out.mono hb1.out.size)
              have s3 := s2.trans (hb4.out.mono s2.size)
              exact ⟨rfl, s3.trans (hb6.out.mono s3.size)⟩
      · have d7 : (s.toList == [47]) = false := by rw [dot_eq]; exact decide_eq_false hs
        have ht := Lib.hid (longer_data s n hs)
        have ht1 := Lib.hid (show ((s ++ (⟨#[47]⟩ : ByteArray) ++ n).size) ≤ 1000 by
          have h2 : (⟨#[47]⟩ : ByteArray).size = 1 := rfl
          simp only [ByteArray.size_append]
          omega)
        clear hs
        go_upto_region 13 with fail
        clear d7
        generalize (s ++ (⟨#[47]⟩ : ByteArray) ++ n) = t at ht ht1 ⊢
        replace ht1 := ht1.out
        have hsp := split_two t
        go_upto_region 14 with (first
          | (go_at_call 7; (with_reducible refine (hsp _).mono ?_); rintro e w2 ⟨A2, L2, r2, rfl, hb2, hl2, hsl2, hc2⟩; replace hc2 := Lib.hid hc2; replace hsl2 := Lib.hid hsl2; replace hb2 := Lib.hid hb2)
          | fail)
        clear hsp
        obtain ⟨B, hB⟩ : ∃ B, mayL n.data.toList = B := ⟨_, rfl⟩
        have hnm : ∀ w, Calls Tryd.prog 10 #[.string n] w fun e w' => e = .returned (.bool B) ∧ w' = w := fun w => by
          have h := name_any n w
          rw [hB] at h
          exact h
        replace hB := Lib.hid hB
        rcases hc1.out with ⟨rfl, rfl, rfl, hN1⟩ | ⟨rfl, hS1⟩
        · clear hN1
          by_cases hse : s.data.toList = []
          · have d8 : (s.toList == []) = true := by rw [dot_eq]; exact decide_eq_true hse
            cases B with
            | true =>
              clear hse
              go_wp2_with (first
                | (go_at_call 10; (with_reducible refine (hnm _).mono ?_); rintro e w5 ⟨rfl, rfl⟩)
                | (go_at_call 6; (with_reducible refine (awake_any _).mono ?_); rintro e w6 ⟨rfl, hb6⟩; replace hb6 := Lib.hid hb6)
                | fail)
              go_ret
              have s2 := hb1.out.trans (hb2.out.mono hb1.out.size)
              exact ⟨rfl, s2.trans (hb6.out.mono s2.size)⟩
            | false =>
              have hN2 : splitL t.data.toList = none := by rw [ht.out]; exact longer_none (.inl hse) h47.out hB.out hne.out
              have hr7 : r2 = 7 := by
                rcases hc2.out with ⟨e, _⟩ | ⟨_, e⟩
                · exact e
                · rw [hN2] at e; cases e
              subst hr7
              clear hse hN2
              go_wp2_with (first
                | (go_at_call 10; (with_reducible refine (hnm _).mono ?_); rintro e w5 ⟨rfl, rfl⟩)
                | (go_at_call 6; (with_reducible refine (awake_any _).mono ?_); rintro e w6 ⟨rfl, hb6⟩; replace hb6 := Lib.hid hb6)
                | fail)
              go_ret
              have s2 := hb1.out.trans (hb2.out.mono hb1.out.size)
              exact ⟨rfl, s2.trans (hb6.out.mono s2.size)⟩
          · have d8 : (s.toList == []) = false := by rw [dot_eq]; exact decide_eq_false hse
            clear hse
            go_wp2_with (first
              | (go_at_call 10; (with_reducible refine (hnm _).mono ?_); rintro e w5 ⟨rfl, rfl⟩)
              | (go_at_call 6; (with_reducible refine (awake_any _).mono ?_); rintro e w6 ⟨rfl, hb6⟩; replace hb6 := Lib.hid hb6)
              | fail)
            go_ret
            have s2 := hb1.out.trans (hb2.out.mono hb1.out.size)
            exact ⟨rfl, s2.trans (hb6.out.mono s2.size)⟩
        · cases B with
          | false =>
            have hN2 : splitL t.data.toList = none := by rw [ht.out]; exact longer_none (.inr ⟨_, hS1⟩) h47.out hB.out hne.out
            have hr7 : r2 = 7 := by
              rcases hc2.out with ⟨e, _⟩ | ⟨_, e⟩
              · exact e
              · rw [hN2] at e; cases e
            subst hr7
            clear hN2 hS1
            go_wp2_with (first
              | (go_at_call 10; (with_reducible refine (hnm _).mono ?_); rintro e w5 ⟨rfl, rfl⟩)
              | (go_at_call 6; (with_reducible refine (awake_any _).mono ?_); rintro e w6 ⟨rfl, hb6⟩; replace hb6 := Lib.hid hb6)
              | fail)
            go_ret
            have s2 := hb1.out.trans (hb2.out.mono hb1.out.size)
            exact ⟨rfl, s2.trans (hb6.out.mono s2.size)⟩
          | true =>
            by_cases h60 : (60 : Int) < t.size
            · have hN2 : splitL t.data.toList = none := splitL_long (by rw [← Lib.size_eq]; omega)
              have hr7 : r2 = 7 := by
                rcases hc2.out with ⟨e, _⟩ | ⟨_, e⟩
                · exact e
                · rw [hN2] at e; cases e
              subst hr7
              have d9 : decide ((60 : Int) < t.size) = true := decide_eq_true h60
              clear hN2 hS1
              go_wp2_with (first
                | (go_at_call 10; (with_reducible refine (hnm _).mono ?_); rintro e w5 ⟨rfl, rfl⟩)
                | (go_at_call 6; (with_reducible refine (awake_any _).mono ?_); rintro e w6 ⟨rfl, hb6⟩; replace hb6 := Lib.hid hb6)
                | fail)
              go_ret
              have s2 := hb1.out.trans (hb2.out.mono hb1.out.size)
              exact ⟨rfl, s2.trans (hb6.out.mono s2.size)⟩
            · have hS2 : splitL t.data.toList = some ((L1 ++ [n]).map (·.data.toList)) := by
                rw [ht.out, List.map_append]
                exact longer_some hS1 hB.out (by rw [← ht.out, ← Lib.size_eq]; omega)
              have hla := fun w => last_longer w hS1 hS2
              have hr0 : r2 = 0 ∧ L2 = L1 ++ [n] := by
                rcases hc2.out with ⟨_, _, _, e⟩ | ⟨e1, e2⟩
                · rw [hS2] at e; cases e
                · rw [hS2] at e2
                  exact ⟨e1, (names_eq (Option.some.inj e2).symm).trans (names_eq (L := L1 ++ [n]) rfl).symm⟩
              obtain ⟨rfl, rfl⟩ := hr0
              have hlM : (L1 ++ [n]).length = L1.length + 1 := by simp
              obtain ⟨b2, rfl, hb3, hb4, hcell⟩ := hsl2.out (by simp)
              simp only [hlM]
              have hcy : Hid (∀ V, Below w2.heap.size w2 V → V.cell? ⟨b2, L1.length, none⟩ = some (.string n)) := Lib.hid fun V hV => by
                refine (hV.cell (p := ⟨b2, L1.length, none⟩) hb4).trans ?_
                have := hcell L1.length (by simp)
                simpa using this
              have d9 : decide ((60 : Int) < t.size) = false := decide_eq_false h60
              have i0 : (0 : Int) ≤ (L1.length : Int) := by omega
              have i1 : (L1.length : Int) < (L1.length : Int) + 1 := by omega
              clear hS1 hS2 hcell hlM hl2
              go_wp2_with (first
                | (go_at_call 10; (with_reducible refine (hnm _).mono ?_); rintro e w5 ⟨rfl, rfl⟩)
                | (go_at_call 11; (with_reducible refine (hla _).mono ?_); rintro e w4 ⟨rfl, hb4⟩; have hcz := hcy.out _ hb4; replace hb4 := Lib.hid hb4)
                | (go_at_call 6; (with_reducible refine (awake_any _).mono ?_); rintro e w6 ⟨rfl, hb6⟩; replace hb6 := Lib.hid hb6)
                | fail)
              go_ret
              have s2 := hb1.out.trans (hb2.out.mono hb1.out.size)
              have s3 := s2.trans (hb4.out.mono s2.size)
              exact ⟨rfl, s3.trans (hb6.out.mono s3.size)⟩
end Go.Proofs.YtinkkmlbhkfmnaaDoor
