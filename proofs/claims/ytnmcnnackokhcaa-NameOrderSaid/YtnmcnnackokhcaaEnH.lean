/- The reference's With, Without. -/
import Derived.Test.YtnmcnnackokhcaaEnD
import Derived.Test.YtnmcnnackokhcaaEnG
namespace Go.Proofs.Ytnmcnnackokhcaa
open Go.RowKit Go.Lib

theorem mayE_parts {s : ByteArray} {n : Int} : mayE (s, n) = (mayL s.data.toList && !decide (n < 1) && !decide (12 ≤ n)) := by
  rw [mayE_eq]
  have e1 : decide (1 ≤ n) = !decide (n < 1) := by rw [Bool.eq_iff_iff]; simp
  have e2 : decide (n ≤ 11) = !decide (12 ≤ n) := by rw [Bool.eq_iff_iff]; simp; omega
  rw [e1, e2]
theorem has_find {l : List Ent} (h : mayEs l = true) (s : ByteArray) : decide (0 ≤ findE l s) = hasE l s := by
  refine has_of_find s fun e he => ?_
  have := (mayEs_iff.1 h).2.1 e he
  unfold mayE at this
  simp at this
  omega
theorem eend {w W w' : World} {q : Option Addr} {k cap : Nat} {l m : List Ent} (h : EOwn w' W.heap.size (.slice q k cap) m) (hb : Below W.heap.size W w') (hb6 : Below w.heap.size w W) (e : l = m) : EPost (l, 0) w (.returned (.tuple #[.slice q k cap, .int .i64 0])) w' := by
  subst e
  obtain ⟨h1, rfl, h3, h4⟩ := h.lies
  refine ⟨q, cap, rfl, h1, fun ad e => Nat.le_trans hb6.size (h3 ad e), fun e => ?_, h4, hb6.trans (hb.mono hb6.size)⟩
  have h0 := own_none h e
  rw [h0] at h4
  exact ⟨List.eq_nil_of_length_eq_zero (Nat.le_zero.1 h4), h0⟩
set_option maxRecDepth 100000 in
set_option maxHeartbeats 4000000 in
theorem withr_any (A : Option Addr) (c : Nat) (l : List Ent) (s : ByteArray) (n : Int) (w : World) (hA : ELies w A l) (hn : A = none → l = [] ∧ c = 0) (hc : l.length ≤ c) (hl : l.length ≤ maxLen) :
    Calls Try.prog 10 #[.slice A l.length c, .string s, .int .i64 n] w (EPost (withE l s n) w) := by
  have HA := Lib.hid hA
  have HN := Lib.hid hn
  have hM := Lib.hid (mayr_any A c l w hA)
  have hN := fun w => Lib.hid (name_any s w)
  obtain ⟨V, hV⟩ : ∃ V, mayEs l = V := ⟨_, rfl⟩
  obtain ⟨U, hU⟩ : ∃ U, mayL s.data.toList = U := ⟨_, rfl⟩
  rw [hV] at hM
  rw [hU] at hN
  have HV := Lib.hid hV
  have HU : Hid (mayE (s, n) = (U && !decide (n < 1) && !decide (12 ≤ n))) := Lib.hid (by rw [mayE_parts, hU])
  have hF := fun w (h : ELies w A l) => Lib.hid (at_any A c l s w h hl)
  have HF := Lib.hid hF
  clear hA hn hV hU hF
  cases V with
  | false =>
    have HR : Hid (withE l s n = ([], 1)) := Lib.hid (by unfold withE; rw [if_pos (.inl HV.out)])
    rw [HR.out]
    go_enter Try.func10, Try.ntmps10
    go_wp2_with (first
      | (go_at_call 16; (with_reducible refine hM.out.mono ?_); rintro e w1 ⟨rfl, hb1⟩; replace hb1 := Lib.hid hb1)
      | fail)
    go_ret2
    exact epost_none hb1.out
  | true =>
  cases U with
  | false =>
    have HR : Hid (withE l s n = ([], 1)) := Lib.hid (by unfold withE; rw [if_pos (.inr HU.out)])
    rw [HR.out]
    go_enter Try.func10, Try.ntmps10
    go_wp2_with (first
      | (go_at_call 16; (with_reducible refine hM.out.mono ?_); rintro e w1 ⟨rfl, hb1⟩; replace hb1 := Lib.hid hb1)
      | (go_at_call 19; (with_reducible refine (hN _).out.mono ?_); rintro e w2 ⟨rfl, rfl⟩)
      | fail)
    go_ret2
    exact epost_none hb1.out
  | true =>
  by_cases n1 : n < 1
  · have HR : Hid (withE l s n = ([], 1)) := Lib.hid (by unfold withE; rw [if_pos (.inr (by rw [HU.out, decide_eq_true n1]; rfl))])
    rw [HR.out]
    have d1 : decide (n < 1) = true := decide_eq_true n1
    clear n1
    go_enter Try.func10, Try.ntmps10
    go_wp2_with (first
      | (go_at_call 16; (with_reducible refine hM.out.mono ?_); rintro e w1 ⟨rfl, hb1⟩; replace hb1 := Lib.hid hb1)
      | (go_at_call 19; (with_reducible refine (hN _).out.mono ?_); rintro e w2 ⟨rfl, rfl⟩)
      | fail)
    go_ret2
    exact epost_none hb1.out
  by_cases n2 : 12 ≤ n
  · have HR : Hid (withE l s n = ([], 1)) := Lib.hid (by unfold withE; rw [if_pos (.inr (by rw [HU.out, decide_eq_true n2]; simp))])
    rw [HR.out]
    have d1 : decide (n < 1) = false := decide_eq_false n1
    have d2 : decide (12 ≤ n) = true := decide_eq_true n2
    clear n1 n2
    go_enter Try.func10, Try.ntmps10
    go_wp2_with (first
      | (go_at_call 16; (with_reducible refine hM.out.mono ?_); rintro e w1 ⟨rfl, hb1⟩; replace hb1 := Lib.hid hb1)
      | (go_at_call 19; (with_reducible refine (hN _).out.mono ?_); rintro e w2 ⟨rfl, rfl⟩)
      | fail)
    go_ret2
    exact epost_none hb1.out
  have HU2 : Hid (mayE (s, n) = true) := Lib.hid (by rw [HU.out, decide_eq_false n1, decide_eq_false n2]; rfl)
  have d1 : decide (n < 1) = false := decide_eq_false n1
  have d2 : decide (12 ≤ n) = false := decide_eq_false n2
  obtain ⟨h10, hall, hri⟩ := mayEs_iff.1 HV.out
  have hri' := Lib.hid hri
  have hpl := posE_le l s
  have hfd := has_find HV.out s
  obtain ⟨T, hT⟩ : ∃ T, hasE l s = T := ⟨_, rfl⟩
  rw [hT] at hfd
  have HT := Lib.hid hT
  clear hall hri hT n1 n2
  generalize findE l s = F at hfd HF
  cases T with
  | true =>
    have HR : Hid (withE l s n = ([], 9)) := Lib.hid (by unfold withE; rw [if_neg (by rw [HV.out, HU2.out]; simp), if_pos HT.out])
    rw [HR.out]
    go_enter Try.func10, Try.ntmps10
    go_wp2_with (first
      | (go_at_call 16; (with_reducible refine hM.out.mono ?_); rintro e w1 ⟨rfl, hb1⟩; replace hb1 := Lib.hid hb1)
      | (go_at_call 19; (with_reducible refine (hN _).out.mono ?_); rintro e w2 ⟨rfl, rfl⟩)
      | (go_at_call 18; (with_reducible refine (HF.out _ (HA.out.below hb1.out)).out.mono ?_); rintro e w3 ⟨rfl, hb3⟩; replace hb3 := Lib.hid (hb1.out.trans (hb3.mono hb1.out.size)))
      | fail)
    go_ret2
    exact epost_none hb3.out
  | false =>
  by_cases hl10 : l.length = 10
  · have HR : Hid (withE l s n = ([], 14)) := Lib.hid (by unfold withE; rw [if_neg (by rw [HV.out, HU2.out]; simp), if_neg (by rw [HT.out]; simp), if_pos hl10])
    rw [HR.out]
    have d3 : decide ((10 : Int) ≤ (l.length : Int)) = true := decide_eq_true (by omega)
    clear h10 hl10 hl
    go_enter Try.func10, Try.ntmps10
    go_wp2_with (first
      | (go_at_call 16; (with_reducible refine hM.out.mono ?_); rintro e w1 ⟨rfl, hb1⟩; replace hb1 := Lib.hid hb1)
      | (go_at_call 19; (with_reducible refine (hN _).out.mono ?_); rintro e w2 ⟨rfl, rfl⟩)
      | (go_at_call 18; (with_reducible refine (HF.out _ (HA.out.below hb1.out)).out.mono ?_); rintro e w3 ⟨rfl, hb3⟩; replace hb3 := Lib.hid (hb1.out.trans (hb3.mono hb1.out.size)))
      | fail)
    go_ret2
    exact epost_none hb3.out
  · have HR : Hid (withE l s n = (putE l (s, n), 0)) := Lib.hid (by unfold withE; rw [if_neg (by rw [HV.out, HU2.out]; simp), if_neg (by rw [HT.out]; simp), if_neg hl10])
    rw [HR.out]
    have d3 : decide ((10 : Int) ≤ (l.length : Int)) = false := decide_eq_false (by omega)
    obtain ⟨p, hp⟩ : ∃ p, posE l s = p := ⟨_, rfl⟩
    have HPE : Hid (putE l (s, n) = l.take p ++ [(s, n)] ++ l.drop p) := Lib.hid (by unfold putE; rw [← hp]; simp)
    have HAB : Hid (∀ i (h : i < l.length), ltB l[i].1 s = decide (i < p)) := Lib.hid fun i hi => by
      by_cases e : i < p
      · rw [decide_eq_true e]; exact below_pos hri'.out s i hi (by omega)
      · rw [decide_eq_false e]; exact above_pos hri'.out s i hi (by omega)
    rw [hp] at hpl
    have hpc : p ≤ c := by omega
    clear hl10 hp
    go_enter Try.func10, Try.ntmps10
    go_wp2_with (first
      | (go_at_call 16; (with_reducible refine hM.out.mono ?_); rintro e w1 ⟨rfl, hb1⟩; replace hb1 := Lib.hid hb1)
      | (go_at_call 19; (with_reducible refine (hN _).out.mono ?_); rintro e w2 ⟨rfl, rfl⟩)
      | (go_at_call 18; (with_reducible refine (HF.out _ (HA.out.below hb1.out)).out.mono ?_); rintro e w3 ⟨rfl, hb3⟩; replace hb3 := Lib.hid (hb1.out.trans (hb3.mono hb1.out.size)))
      | fail)
    have HL := Lib.hid (HA.out.below hb3.out)
    have HB3 := hb3
    generalize w3 = W at HL HB3 ⊢
    clear hb1 hb3 hM hN HF
    go_loopw [8] (fun v8 wr => ∃ j : Nat, j ≤ p ∧ v8 = .int .i64 j ∧ wr = W) (fun v8 _ => p - (RowKit.intOf v8).toNat)
    case atStart => exact ⟨0, Nat.zero_le _, rfl, rfl⟩
    case round =>
      obtain ⟨j, hj, rfl, rfl⟩ := hrel
      by_cases hjp : j < p
      · have hjl : j < l.length := by omega
        obtain ⟨B, o, rfl, hBs, hc2⟩ := HL.out (by omega)
        have d4 : decide ((j : Int) < (l.length : Int)) = true := decide_eq_true (by omega)
        obtain ⟨k0, k1⟩ := hc2 j hjl
        have hab := HAB.out j hjl
        rw [decide_eq_true hjp] at hab
        generalize l[j] = q at k0 k1 hab
        obtain ⟨t, z⟩ := q
        rw [← less_ltB] at hab
        clear hc2
        go_wp2_with fail
        go_roundw
        case rel => exact ⟨j + 1, by omega, by go_num, by first | rfl | trivial⟩
        case measure => simp [RowKit.intOf]; omega
      · obtain rfl : j = p := by omega
        have HS1 : ∀ w, (Instr.slice 22 (.slice A l.length c) none (some (.int .i64 (j : Nat))) none).run Try.prog w = .ok (.slice A j c) w := fun w => by
          rw [run_slice_h (w := w) (t := 22) (a := A) (len := l.length) (cap := c) (ht := Try.underlying22) .i64 j (by omega) (by omega)]
          rw [show (sizeOf (Try.prog.elem 22)).run Try.prog w = .ok 2 w by kernel_rfl]
          simp [Result.andThen, sliced, Addr.add]
        obtain ⟨A2, hA2⟩ : ∃ A2 : Option Addr, A2 = (if c = j then A else A.map (·.add (j * 2))) := ⟨_, rfl⟩
        have HS2 : ∀ w, (Instr.slice 22 (.slice A l.length c) (some (.int .i64 (j : Nat))) none none).run Try.prog w = .ok (.slice A2 (l.length - j) (c - j)) w := fun w => by
          rw [run_slice_l (w := w) (t := 22) (a := A) (len := l.length) (cap := c) (ht := Try.underlying22) .i64 j (by omega) (by omega)]
          rw [show (sizeOf (Try.prog.elem 22)).run Try.prog w = .ok 2 w by kernel_rfl]
          simp [Result.andThen, sliced, hA2]
        have HLT : Hid (ELies wr A (l.take j)) := Lib.hid (HL.out.take j)
        have HLD : Hid (ELies wr A2 (l.drop j)) := Lib.hid (by rw [hA2]; exact HL.out.map_add j c hc)
        have HNT : Hid (A = none → l.take j = [] ∧ c = 0) := Lib.hid fun e => by obtain ⟨rfl, e2⟩ := HN.out e; simp [e2]
        have HND : Hid (A2 = none → l.drop j = [] ∧ c - j = 0) := Lib.hid fun e => by
          have hA0 : A = none := by
            rw [hA2] at e
            split at e
            · exact e
            · simpa using e
          obtain ⟨rfl, e2⟩ := HN.out hA0
          simp [e2]
        have hlt : (l.take j).length = j := by rw [List.length_take]; omega
        have hld : (l.drop j).length = l.length - j := List.length_drop
        have hla : (l.take j ++ [(s, n)]).length = j + 1 := by rw [List.length_append, hlt]; rfl
        have HLT1 := Lib.hid hlt
        have HLD1 := Lib.hid hld
        have HLA1 := Lib.hid hla
        have HBa : Hid (Below wr.heap.size wr wr.drew) := Lib.hid (Below.refl _ _).drew
        have HBb : Hid (Below wr.heap.size wr (wr.alloc (.cells #[.string s, .int .i64 n] 32)).drew) := Lib.hid ((Below.refl _ _).alloc (Nat.le_refl _) _).drew
        have HXb : Hid (ELies (wr.alloc (.cells #[.string s, .int .i64 n] 32)).drew (some ⟨wr.heap.size, 0, none⟩) [(s, n)]) := Lib.hid (ent_at (heap_alloc_new wr _))
        clear hA2 hlt hld hla
        by_cases hp2 : j < l.length
        · obtain ⟨B, o, hAe, hBs, hc2⟩ := HL.out (by omega)
          subst hAe
          have d4 : decide ((j : Int) < (l.length : Int)) = true := decide_eq_true (by omega)
          obtain ⟨k0, k1⟩ := hc2 j hp2
          have hab := HAB.out j hp2
          rw [decide_eq_false (Nat.lt_irrefl j)] at hab
          generalize l[j] = q at k0 k1 hab
          obtain ⟨t, z⟩ := q
          rw [← less_ltB] at hab
          clear hc2
          go_wp2_with fail
          clear k0 k1 hab
          go_region_held3 (fun _ => True) (exact trivial) (first
            | (refine step_eappT (by rfl) (.const (.slice none 0 0)) (.tmp 52) (by rfl) wr.heap.size (.slice none 0 0) 0 [] j (l.take j) (some ⟨B, o, none⟩) c j (Nat.zero_add _) (by rfl) (by rfl) rfl HLT1.out (eown_nil _ _) (HLT.out.below HBa.out) HNT.out (by omega) (Nat.le_refl _) ?_; intro q3 cap3 w7 hown hgr; have HO7 : Hid (EOwn w7 wr.heap.size (.slice q3 j cap3) (l.take j)) := Lib.hid (by simpa using hown); have HB7 : Hid (Below wr.heap.size wr w7) := Lib.hid (HBa.out.grown hgr (Nat.le_refl _) (by intro k e; cases e)); have hs8 := HB7.out.size; have HX8 : Hid (ELies (w7.alloc (.cells #[.string s, .int .i64 n] 32)) (some ⟨w7.heap.size, 0, none⟩) [(s, n)]) := Lib.hid (ent_at (heap_alloc_new w7 _)); have HO8 : Hid (EOwn (w7.alloc (.cells #[.string s, .int .i64 n] 32)) wr.heap.size (.slice q3 j cap3) (l.take j)) := Lib.hid (World.ownsRow.alloc HO7.out _); have HB8 : Hid (Below wr.heap.size wr (w7.alloc (.cells #[.string s, .int .i64 n] 32))) := Lib.hid (HB7.out.alloc hs8 _); clear hown hgr)
            | (refine step_eappT (by rfl) (.const (.slice none 0 0)) (.tmp 52) (by rfl) wr.heap.size (.slice none 0 0) 0 [] j (l.take j) (some ⟨B, o, none⟩) c j (Nat.zero_add _) (by rfl) (by rfl) rfl HLT1.out (eown_nil _ _) (HLT.out.below HBb.out) HNT.out (by omega) (by simp) ?_; intro q3 cap3 w7 hown hgr; have HO7 : Hid (EOwn w7 wr.heap.size (.slice q3 j cap3) (l.take j)) := Lib.hid (by simpa using hown); have HB7 : Hid (Below wr.heap.size wr w7) := Lib.hid (HBb.out.grown hgr (by simp) (by intro k e; cases e)); have hs8 := HB7.out.size; have HX8 := Lib.hid (elies_grown HXb.out hgr (by simp [Value.ownBlock])); clear hown hgr)
            | (refine step_eappT (by rfl) (.tmp 53) (.tmp 57) (by rfl) wr.heap.size (.slice q3 j cap3) j (l.take j) 1 [(s, n)] (some ⟨w7.heap.size, 0, none⟩) 1 (j + 1) rfl (by rfl) (by rfl) HLT1.out rfl HO8.out HX8.out (by intro h; cases h) (by omega) (by first | omega | (simp; omega)) ?_; intro q4 cap4 w9 hown hgr; have HO9 := Lib.hid hown; have HB9 := Lib.hid (HO8.out.grown HB8.out hgr (by first | omega | (simp; omega))); have HD9 := Lib.hid (HLD.out.below HB9.out); have hs9 := HB9.out.size; clear hown hgr)
            | (refine step_eappT (by rfl) (.tmp 53) (.tmp 57) (by rfl) wr.heap.size (.slice q3 j cap3) j (l.take j) 1 [(s, n)] (some ⟨wr.heap.size, 0, none⟩) 1 (j + 1) rfl (by rfl) (by rfl) HLT1.out rfl HO7.out HX8.out (by intro h; cases h) (by omega) (by first | omega | (simp; omega)) ?_; intro q4 cap4 w9 hown hgr; have HO9 := Lib.hid hown; have HB9 := Lib.hid (HO7.out.grown HB7.out hgr (by first | omega | (simp; omega))); have HD9 := Lib.hid (HLD.out.below HB9.out); have hs9 := HB9.out.size; clear hown hgr)
            | (have h9 := HO9.out; clear h9; refine step_eappT (by rfl) (.tmp 58) (.tmp 61) (by rfl) wr.heap.size (.slice q4 (j + 1) cap4) (j + 1) (l.take j ++ [(s, n)]) (l.length - j) (l.drop j) A2 (c - j) (l.length + 1) (by omega) (by rfl) (by rfl) HLA1.out HLD1.out HO9.out HD9.out HND.out (by omega) (by first | omega | (simp; omega)) ?_; intro q5 cap5 w10 hown hgr; have HO10 := Lib.hid hown; have HB10 := Lib.hid (HO9.out.grown HB9.out hgr (by first | omega | (simp; omega))); clear hown hgr)
            | fail)
          all_goals
            go_wp2_with fail
            go_ret2
            exact eend HO10.out HB10.out HB3.out HPE.out
        · have d4 : decide ((j : Int) < (l.length : Int)) = false := decide_eq_false (by omega)
          go_wp2_with fail
          go_region_held3 (fun _ => True) (exact trivial) (first
            | (refine step_eappT (by rfl) (.const (.slice none 0 0)) (.tmp 52) (by rfl) wr.heap.size (.slice none 0 0) 0 [] j (l.take j) A c j (Nat.zero_add _) (by rfl) (by rfl) rfl HLT1.out (eown_nil _ _) (HLT.out.below HBa.out) HNT.out (by omega) (Nat.le_refl _) ?_; intro q3 cap3 w7 hown hgr; have HO7 : Hid (EOwn w7 wr.heap.size (.slice q3 j cap3) (l.take j)) := Lib.hid (by simpa using hown); have HB7 : Hid (Below wr.heap.size wr w7) := Lib.hid (HBa.out.grown hgr (Nat.le_refl _) (by intro k e; cases e)); have hs8 := HB7.out.size; have HX8 : Hid (ELies (w7.alloc (.cells #[.string s, .int .i64 n] 32)) (some ⟨w7.heap.size, 0, none⟩) [(s, n)]) := Lib.hid (ent_at (heap_alloc_new w7 _)); have HO8 : Hid (EOwn (w7.alloc (.cells #[.string s, .int .i64 n] 32)) wr.heap.size (.slice q3 j cap3) (l.take j)) := Lib.hid (World.ownsRow.alloc HO7.out _); have HB8 : Hid (Below wr.heap.size wr (w7.alloc (.cells #[.string s, .int .i64 n] 32))) := Lib.hid (HB7.out.alloc hs8 _); clear hown hgr)
            | (refine step_eappT (by rfl) (.const (.slice none 0 0)) (.tmp 52) (by rfl) wr.heap.size (.slice none 0 0) 0 [] j (l.take j) A c j (Nat.zero_add _) (by rfl) (by rfl) rfl HLT1.out (eown_nil _ _) (HLT.out.below HBb.out) HNT.out (by omega) (by simp) ?_; intro q3 cap3 w7 hown hgr; have HO7 : Hid (EOwn w7 wr.heap.size (.slice q3 j cap3) (l.take j)) := Lib.hid (by simpa using hown); have HB7 : Hid (Below wr.heap.size wr w7) := Lib.hid (HBb.out.grown hgr (by simp) (by intro k e; cases e)); have hs8 := HB7.out.size; have HX8 := Lib.hid (elies_grown HXb.out hgr (by simp [Value.ownBlock])); clear hown hgr)
            | (refine step_eappT (by rfl) (.tmp 53) (.tmp 57) (by rfl) wr.heap.size (.slice q3 j cap3) j (l.take j) 1 [(s, n)] (some ⟨w7.heap.size, 0, none⟩) 1 (j + 1) rfl (by rfl) (by rfl) HLT1.out rfl HO8.out HX8.out (by intro h; cases h) (by omega) (by first | omega | (simp; omega)) ?_; intro q4 cap4 w9 hown hgr; have HO9 := Lib.hid hown; have HB9 := Lib.hid (HO8.out.grown HB8.out hgr (by first | omega | (simp; omega))); have HD9 := Lib.hid (HLD.out.below HB9.out); have hs9 := HB9.out.size; clear hown hgr)
            | (refine step_eappT (by rfl) (.tmp 53) (.tmp 57) (by rfl) wr.heap.size (.slice q3 j cap3) j (l.take j) 1 [(s, n)] (some ⟨wr.heap.size, 0, none⟩) 1 (j + 1) rfl (by rfl) (by rfl) HLT1.out rfl HO7.out HX8.out (by intro h; cases h) (by omega) (by first | omega | (simp; omega)) ?_; intro q4 cap4 w9 hown hgr; have HO9 := Lib.hid hown; have HB9 := Lib.hid (HO7.out.grown HB7.out hgr (by first | omega | (simp; omega))); have HD9 := Lib.hid (HLD.out.below HB9.out); have hs9 := HB9.out.size; clear hown hgr)
            | (have h9 := HO9.out; clear h9; refine step_eappT (by rfl) (.tmp 58) (.tmp 61) (by rfl) wr.heap.size (.slice q4 (j + 1) cap4) (j + 1) (l.take j ++ [(s, n)]) (l.length - j) (l.drop j) A2 (c - j) (l.length + 1) (by omega) (by rfl) (by rfl) HLA1.out HLD1.out HO9.out HD9.out HND.out (by omega) (by first | omega | (simp; omega)) ?_; intro q5 cap5 w10 hown hgr; have HO10 := Lib.hid hown; have HB10 := Lib.hid (HO9.out.grown HB9.out hgr (by first | omega | (simp; omega))); clear hown hgr)
            | fail)
          all_goals
            go_wp2_with fail
            go_ret2
            exact eend HO10.out HB10.out HB3.out HPE.out
set_option maxRecDepth 100000 in
set_option maxHeartbeats 4000000 in
theorem outr_any (A : Option Addr) (c : Nat) (l : List Ent) (s : ByteArray) (w : World) (hA : ELies w A l) (hl : l.length ≤ maxLen) :
    Calls Try.prog 12 #[.slice A l.length c, .string s] w (EPost (outE l s) w) := by
  have HA := Lib.hid hA
  have hM := Lib.hid (mayr_any A c l w hA)
  obtain ⟨V, hV⟩ : ∃ V, mayEs l = V := ⟨_, rfl⟩
  rw [hV] at hM
  have HV := Lib.hid hV
  have HF := Lib.hid fun w (h : ELies w A l) => Lib.hid (at_any A c l s w h hl)
  clear hA hV
  cases V with
  | false =>
    have HR : Hid (outE l s = ([], 1)) := Lib.hid (by unfold outE; rw [if_pos HV.out])
    rw [HR.out]
    go_enter Try.func12, Try.ntmps12
    go_wp2_with (first
      | (go_at_call 16; (with_reducible refine hM.out.mono ?_); rintro e w1 ⟨rfl, hb1⟩; replace hb1 := Lib.hid hb1)
      | fail)
    go_ret2
    exact epost_none hb1.out
  | true =>
  obtain ⟨h10, -, hri⟩ := mayEs_iff.1 HV.out
  have hri' := Lib.hid hri
  have hfd := has_find HV.out s
  obtain ⟨T, hT⟩ : ∃ T, hasE l s = T := ⟨_, rfl⟩
  rw [hT] at hfd
  have HT := Lib.hid hT
  clear hri hT
  generalize findE l s = F at hfd HF
  cases T with
  | false =>
    have HR : Hid (outE l s = ([], 8)) := Lib.hid (by unfold outE; rw [if_neg (by rw [HV.out]; simp), if_pos HT.out])
    rw [HR.out]
    have d1 : decide (F < 0) = true := decide_eq_true (by have := of_decide_eq_false hfd; omega)
    clear hfd
    go_enter Try.func12, Try.ntmps12
    go_wp2_with (first
      | (go_at_call 16; (with_reducible refine hM.out.mono ?_); rintro e w1 ⟨rfl, hb1⟩; replace hb1 := Lib.hid hb1)
      | (go_at_call 18; (with_reducible refine (HF.out _ (HA.out.below hb1.out)).out.mono ?_); rintro e w3 ⟨rfl, hb3⟩; replace hb3 := Lib.hid (hb1.out.trans (hb3.mono hb1.out.size)))
      | fail)
    go_ret2
    exact epost_none hb3.out
  | true =>
    have HR : Hid (outE l s = (cutE l s, 0)) := Lib.hid (by unfold outE; rw [if_neg (by rw [HV.out]; simp), if_neg (by rw [HT.out]; simp)])
    rw [HR.out]
    have HCE := Lib.hid (filter_cut hri'.out s HT.out)
    have d1 : decide (F < 0) = false := decide_eq_false (by have := of_decide_eq_true hfd; omega)
    clear hfd
    go_enter Try.func12, Try.ntmps12
    go_wp2_with (first
      | (go_at_call 16; (with_reducible refine hM.out.mono ?_); rintro e w1 ⟨rfl, hb1⟩; replace hb1 := Lib.hid hb1)
      | (go_at_call 18; (with_reducible refine (HF.out _ (HA.out.below hb1.out)).out.mono ?_); rintro e w3 ⟨rfl, hb3⟩; replace hb3 := Lib.hid (hb1.out.trans (hb3.mono hb1.out.size)))
      | fail)
    have HL := Lib.hid (HA.out.below hb3.out)
    have HB3 := hb3
    generalize w3 = W at HL HB3 ⊢
    clear hb1 hb3 hM HF
    go_loopw [6, 8, 18] (fun v6 _ v18 wr => ∃ (j : Nat) (q : Option Addr) (L : List Ent) (cap : Nat), j ≤ l.length ∧ v18 = .int .i64 j ∧ v6 = .slice q L.length cap ∧ Hid (L = (l.take j).filter (fun e => !decide (e.1 = s))) ∧ Hid (EOwn wr W.heap.size (.slice q L.length cap) L) ∧ Hid (Below W.heap.size W wr)) (fun _ _ v18 _ => l.length - (RowKit.intOf v18).toNat)
    case atStart => exact ⟨0, none, [], 0, Nat.zero_le _, rfl, rfl, Lib.hid rfl, Lib.hid (eown_nil _ _), Lib.hid (Below.refl _ _)⟩
    case round =>
      obtain ⟨j, q, L, cap, hj, rfl, rfl, HLL, HO, HB⟩ := hrel
      by_cases hj1 : j < l.length
      · obtain ⟨B, o, rfl, hBs, hc⟩ := (HL.out.below HB.out) (by omega)
        have d2 : decide ((j : Int) < (l.length : Int)) = true := decide_eq_true (by omega)
        obtain ⟨k0, k1⟩ := hc j hj1
        have hLn : L.length ≤ 10 := by
          have h1 : L.length ≤ (l.take j).length := by rw [HLL.out]; exact List.length_filter_le _ _
          rw [List.length_take] at h1
          omega
        have HS : Hid ((l.take (j + 1)).filter (fun e => !decide (e.1 = s)) = L ++ (if l[j].1 = s then [] else [l[j]])) := Lib.hid (by
          rw [List.take_succ_eq_append_getElem hj1, List.filter_append, ← HLL.out]
          congr 1
          by_cases e : l[j].1 = s
          · simp [e]
          · simp [e])
        generalize l[j] = x at k0 k1 HS
        obtain ⟨t, n⟩ := x
        have HX := box_cells wr (.string t) (.int .i64 n) 32
        obtain ⟨x0, x1⟩ := HX
        have HBW := Lib.hid (HB.out.alloc HB.out.size (.cells #[.string t, .int .i64 n] 32))
        have HOW : Hid (EOwn (wr.alloc (.cells #[.string t, .int .i64 n] 32)) W.heap.size (.slice q L.length cap) L) := Lib.hid (World.ownsRow.alloc HO.out _)
        have HXL : Hid (ELies ((wr.alloc (.cells #[.string t, .int .i64 n] 32)).alloc (.cells #[.string t, .int .i64 n] 32)) (some ⟨wr.heap.size + 1, 0, none⟩) [(t, n)]) := Lib.hid (ent_at (two_boxes wr _ _).1)
        have HOX : Hid (EOwn ((wr.alloc (.cells #[.string t, .int .i64 n] 32)).alloc (.cells #[.string t, .int .i64 n] 32)) W.heap.size (.slice q L.length cap) L) := Lib.hid (World.ownsRow.alloc HOW.out _)
        have HBX := Lib.hid (HBW.out.alloc HBW.out.size (.cells #[.string t, .int .i64 n] 32))
        clear hc
        by_cases e : t = s
        · have HE : (t.toList == s.toList) = true := by rw [eq_eqB, decide_eq_true e]
          have HS2 : Hid ((l.take (j + 1)).filter (fun e => !decide (e.1 = s)) = L) := Lib.hid (by rw [HS.out, if_pos e, List.append_nil])
          clear e
          go_wp2_with fail
          go_roundw
          case rel => exact ⟨j + 1, q, L, cap, by omega, by go_num, rfl, Lib.hid HS2.out.symm, HOW, HBW⟩
          case measure => simp [RowKit.intOf]; omega
        · have HE : (t.toList == s.toList) = false := by rw [eq_eqB, decide_eq_false e]
          have HS2 : Hid ((l.take (j + 1)).filter (fun e => !decide (e.1 = s)) = L ++ [(t, n)]) := Lib.hid (by rw [HS.out, if_neg e])
          have hbs := HBX.out.size
          clear e
          go_wp2_with (at_builtin; refine wpList_eapp rfl _ _ rfl W.heap.size _ L [(t, n)] (some ⟨wr.heap.size + 1, 0, none⟩) 1 rfl rfl HOX.out HXL.out (by intro h; cases h) (by simp; omega) hbs ?_; intro q2 cap2 w5 hown2 hg2)
          have HB5 := Lib.hid (HBX.out.grown hg2 hbs fun k e => (HOX.out.lt k e).1)
          have HO5 : Hid (EOwn w5 W.heap.size (.slice q2 (L ++ [(t, n)]).length cap2) (L ++ [(t, n)])) := Lib.hid (by rw [List.length_append]; exact hown2)
          clear hown2 hg2
          go_wp2_with fail
          go_roundw
          case rel => exact ⟨j + 1, q2, L ++ [(t, n)], cap2, by omega, by go_num, by rw [List.length_append]; rfl, Lib.hid HS2.out.symm, HO5, HB5⟩
          case measure => simp [RowKit.intOf]; omega
      · obtain rfl : j = l.length := by omega
        have d2 : decide ((l.length : Int) < (l.length : Int)) = false := decide_eq_false (by omega)
        have HE : Hid (cutE l s = L) := Lib.hid (by rw [HLL.out, List.take_length, HCE.out])
        go_wp2_with fail
        go_ret2
        exact eend HO.out HB.out HB3.out HE.out
end Go.Proofs.Ytnmcnnackokhcaa
