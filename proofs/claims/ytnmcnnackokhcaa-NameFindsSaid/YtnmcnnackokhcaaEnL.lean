/- NameFinds: of entries that may be each is found by its name (written by mkfinds.py). -/
import Derived.Test.YtnmcnnackokhcaaEnK
namespace Go.Proofs.Ytnmcnnackokhcaa
open Go.RowKit Go.Lib

theorem has_take (l : List Ent) (s : ByteArray) (j : Nat) (h : j < l.length) : hasE (l.take (j + 1)) s = (hasE (l.take j) s || decide (l[j].1 = s)) := by
  unfold hasE
  rw [List.take_succ_eq_append_getElem h, List.any_append]
  simp
theorem out_ok (l : List Ent) (s : ByteArray) (h : mayEs l = true) : (outE l s).2 = if hasE l s = true then 0 else 8 := by
  unfold outE
  rw [if_neg (by rw [h]; simp)]
  cases hasE l s <;> rfl
set_option maxRecDepth 100000 in
set_option maxHeartbeats 8000000 in
theorem finds_law (A : Option Addr) (c : Nat) (l : List Ent) (s : ByteArray) (w : World) (hA : ELies w A l) (hn : A = none → l = [] ∧ c = 0) (hc : l.length ≤ c) (hl : l.length ≤ maxLen) :
    Calls Try.prog 6 #[.slice A l.length c, .string s] w fun e w' => e = .returned (.bool true) ∧ Below w.heap.size w w' := by
  have HA := Lib.hid hA
  have HLI := Lib.hid (light_any A c l w hA hl)
  have HLV := Lib.hid (lightV_cases l)
  generalize lightV l = R at HLI HLV
  rcases HLV.out with ⟨rfl, h60⟩ | rfl
  case inr =>
    go_enter Try.func6, Try.ntmps6
    go_wp2_with (first
      | (go_at_call 7; (with_reducible refine HLI.out.mono ?_); rintro e w1 ⟨rfl, hb1⟩; replace hb1 := Lib.hid hb1)
      | (go_at_call 8; (with_reducible refine (awake_any _).mono ?_); rintro e w99 ⟨rfl, hb99⟩; have HB99 := Lib.hid hb99; clear hb99)
      | fail)
    go_ret
    exact ⟨rfl, hb1.out.trans (HB99.out.mono hb1.out.size)⟩
  have HM2 := Lib.hid fun w (h : ELies w A l) => mayr_any A c l w h
  obtain ⟨V, hV⟩ : ∃ V, mayEs l = V := ⟨_, rfl⟩
  rw [hV] at HM2
  have HV := Lib.hid hV
  clear hV
  cases V with
  | false =>
    go_enter Try.func6, Try.ntmps6
    go_wp2_with (first
      | (go_at_call 7; (with_reducible refine HLI.out.mono ?_); rintro e w1 ⟨rfl, hb1⟩; replace hb1 := Lib.hid hb1)
      | (go_at_call 16; (with_reducible refine (HM2.out _ (HA.out.below hb1.out)).mono ?_); rintro e w2 ⟨rfl, hb2⟩; replace hb2 := Lib.hid (hb1.out.trans (hb2.mono hb1.out.size)))
      | (go_at_call 8; (with_reducible refine (awake_any _).mono ?_); rintro e w99 ⟨rfl, hb99⟩; have HB99 := Lib.hid hb99; clear hb99)
      | fail)
    go_ret
    exact ⟨rfl, hb2.out.trans (HB99.out.mono hb2.out.size)⟩
  | true =>
  by_cases hs : (s.size : Int) ≤ 50
  case neg =>
    have d1 : decide ((50 : Int) < s.size) = true := decide_eq_true (by omega)
    go_enter Try.func6, Try.ntmps6
    go_wp2_with (first
      | (go_at_call 7; (with_reducible refine HLI.out.mono ?_); rintro e w1 ⟨rfl, hb1⟩; replace hb1 := Lib.hid hb1)
      | (go_at_call 16; (with_reducible refine (HM2.out _ (HA.out.below hb1.out)).mono ?_); rintro e w2 ⟨rfl, hb2⟩; replace hb2 := Lib.hid (hb1.out.trans (hb2.mono hb1.out.size)))
      | (go_at_call 8; (with_reducible refine (awake_any _).mono ?_); rintro e w99 ⟨rfl, hb99⟩; have HB99 := Lib.hid hb99; clear hb99)
      | fail)
    go_ret
    exact ⟨rfl, hb2.out.trans (HB99.out.mono hb2.out.size)⟩
  have d1 : decide ((50 : Int) < s.size) = false := decide_eq_false (by omega)
  have HNM := Lib.hid fun w (h : ELies w A l) => names_any A c l w h (by omega)
  have HF1 := Lib.hid fun w (h : ELies w A l) => find_any A c l s w h hl
  have HFX := Lib.hid fun w (x : Ent) (hx : x ∈ l) (h : ELies w A l) => (find_mem (mayEs_iff.1 HV.out).2.2 hx) ▸ find_any A c l x.1 w h hl
  have ho1 := fun w (h : ELies w A l) => out_any A c l s w h hn hc
  have HOK := Lib.hid (out_ok l s HV.out)
  have hfd := has_find HV.out s
  generalize outE l s = Q at ho1 HOK
  obtain ⟨Q, qe⟩ := Q
  have HO1 := Lib.hid ho1
  generalize findE l s = F at HF1 hfd
  have hfd' := Lib.hid hfd
  have hlx : (l.length : Int) ≤ 60 := by omega
  clear ho1 hn hc hl hA HLV hs hfd h60
  go_enter Try.func6, Try.ntmps6
  go_wp2_with (first
    | (go_at_call 7; (with_reducible refine HLI.out.mono ?_); rintro e w1 ⟨rfl, hb1⟩; replace hb1 := Lib.hid hb1)
    | (go_at_call 16; (with_reducible refine (HM2.out _ (HA.out.below hb1.out)).mono ?_); rintro e w2 ⟨rfl, hb2⟩; replace hb2 := Lib.hid (hb1.out.trans (hb2.mono hb1.out.size)))
    | (go_at_call 13; (with_reducible refine (HNM.out _ (HA.out.below hb2.out)).mono ?_); rintro e w3 ⟨A5, c5, rfl, hl5, -, hb3⟩; replace hl5 := Lib.hid hl5; replace hb3 := Lib.hid (hb2.out.trans (hb3.mono hb2.out.size)))
    | fail)
  clear hb1 hb2 HLI HM2 HNM
  go_loopw [5, 7, 8, 29] (fun v5 _ _ v29 wr => ∃ jx : Nat, jx ≤ l.length ∧ v29 = .int .i64 jx ∧ v5 = .bool (hasE (l.take jx) s) ∧ Hid (Below w3.heap.size w3 wr)) (fun _ _ _ v29 _ => l.length - (RowKit.intOf v29).toNat)
  case atStart => exact ⟨0, Nat.zero_le _, rfl, rfl, Lib.hid (Below.refl _ _)⟩
  case round =>
    obtain ⟨jx, hj, rfl, rfl, HB⟩ := hrel
    have HBB : Hid (Below w.heap.size w wr) := Lib.hid (hb3.out.trans (HB.out.mono hb3.out.size))
    by_cases hj1 : jx < l.length
    · obtain ⟨B, o, rfl, hBs, hcc⟩ := (HA.out.below HBB.out) (by omega)
      have d2 : decide ((jx : Int) < (l.length : Int)) = true := decide_eq_true (by omega)
      obtain ⟨k0, k1⟩ := hcc jx hj1
      obtain ⟨B', o', rfl, hBs', hcc'⟩ := (hl5.out.below HB.out) (by rw [List.length_map]; omega)
      have m0 := hcc' jx (by rw [List.length_map]; exact hj1)
      rw [List.getElem_map] at m0
      have hmem : l[jx] ∈ l := List.getElem_mem hj1
      have hht := has_take l s jx hj1
      generalize l[jx] = x at k0 k1 m0 hmem hht
      obtain ⟨t, z⟩ := x
      have hfj := fun w h => HFX.out w (t, z) hmem h
      have HFJ := Lib.hid hfj
      obtain ⟨I, hI⟩ : ∃ I, hasE (l.take jx) s = I := ⟨_, rfl⟩
      obtain ⟨I2, hI2⟩ : ∃ I2, hasE (l.take (jx + 1)) s = I2 := ⟨_, rfl⟩
      have HI2 := Lib.hid hI2
      rw [hI, hI2] at hht
      rw [hI]
      have HHT := Lib.hid hht
      have HBW := Lib.hid (HB.out.alloc HB.out.size (.cells #[.string t, .int .i64 z] 32))
      have HRW := Lib.hid ((Below.refl wr.heap.size wr).alloc (Nat.le_refl _) (.cells #[.string t, .int .i64 z] 32))
      have HX := Lib.hid (box_cells wr (.string t) (.int .i64 z) 32)
      have hlt : Hid (wr.heap.size < (wr.alloc (.cells #[.string t, .int .i64 z] 32)).heap.size) := Lib.hid (by simp)
      have HIX2 : Hid (∀ w, (Instr.indexAt 29 (.slice (some ⟨B', o', none⟩) l.length c5) (.int .i64 (jx : Nat))).run Try.prog w = .ok (.pointer (some ⟨B', o' + jx, none⟩)) w) := Lib.hid fun w => by
        have e0 : ¬ ((jx : Int) < 0) := by omega
        simp [go_sem, hj1]
      clear hcc hcc' hmem hht hI hI2 hfj
      go_wp2_with fail
      generalize wr.alloc _ = W at HBW HRW HX hlt ⊢
      have HK : Hid (∀ w1, Below W.heap.size W w1 → w1.cell? ⟨wr.heap.size, 0, none⟩ = some (.string t) ∧ w1.cell? ⟨wr.heap.size, 1, none⟩ = some (.int .i64 z) ∧ w1.cell? ⟨B', o' + jx, none⟩ = some (.string t)) := Lib.hid fun w1 h => ⟨(h.cell (p := ⟨wr.heap.size, 0, none⟩) hlt.out).trans HX.out.1, (h.cell (p := ⟨wr.heap.size, 1, none⟩) hlt.out).trans HX.out.2, (h.cell (p := ⟨B', o' + jx, none⟩) (Nat.lt_of_lt_of_le hBs' HRW.out.size)).trans ((HRW.out.cell (p := ⟨B', o' + jx, none⟩) hBs').trans m0)⟩
      have HAW : Hid (ELies W (some ⟨B, o, none⟩) l) := Lib.hid ((HA.out.below HBB.out).below HRW.out)
      clear k0 k1 m0
      refine region_st (fun j v w' => match j with | 0 => v = .slice (some ⟨B, o, none⟩) l.length c | 1 => v = .pointer (some ⟨wr.heap.size, 0, none⟩) | 2 => v = .string t | 3 => v = .int .i64 z | 4 => v = .pointer (some ⟨wr.heap.size, 1, none⟩) | 5 => v = .int .i64 z | 6 => v = .bool false | 7 => v = .bool false | 8 => v = .int .i64 (jx : Nat) | 9 => v = .slice (some ⟨B', o', none⟩) l.length c5 | 10 => v = .int .i64 (l.length : Nat) | 11 => v = .bool false | 12 => v = .bool false | 13 => v = .bool false | 14 => v = .slice (some ⟨B', o', none⟩) l.length c5 | 15 => v = .int .i64 (jx : Nat) | 16 => v = .pointer (some ⟨B', o' + jx, none⟩) | 17 => v = .string t | 18 => v = .pointer (some ⟨wr.heap.size, 0, none⟩) | 19 => v = .string t | 20 => v = .bool false | 21 => v = .bool false | _ => True) (fun _ w' => Below W.heap.size W w') (fun w1 w2 => Below w1.heap.size w1 w2) (by kernel_rfl) (by kernel_rfl) (by kernel_rfl) ?hR ?hG ?hops ?hend
      case hR =>
        intro j v w1 w2 hv hb
        match j, hv with
        | 0, hv => exact hv
        | 1, hv => exact hv
        | 2, hv => exact hv
        | 3, hv => exact hv
        | 4, hv => exact hv
        | 5, hv => exact hv
        | 6, hv => exact hv
        | 7, hv => exact hv
        | 8, hv => exact hv
        | 9, hv => exact hv
        | 10, hv => exact hv
        | 11, hv => exact hv
        | 12, hv => exact hv
        | 13, hv => exact hv
        | 14, hv => exact hv
        | 15, hv => exact hv
        | 16, hv => exact hv
        | 17, hv => exact hv
        | 18, hv => exact hv
        | 19, hv => exact hv
        | 20, hv => exact hv
        | 21, hv => exact hv
        | _ + 22, _ => exact trivial
      case hG => exact (Below.refl _ _).drew
      case hops =>
        refine OpsOkS.cons ?o0 (OpsOkS.cons ?o1 (OpsOkS.cons ?o2 (OpsOkS.cons ?o3 (OpsOkS.cons ?o4 (OpsOkS.cons ?o5 (OpsOkS.cons ?o6 (OpsOkS.cons ?o7 (OpsOkS.cons ?o8 (OpsOkS.cons ?o9 (OpsOkS.cons ?o10 (OpsOkS.cons ?o11 (OpsOkS.cons ?o12 (OpsOkS.cons ?o13 (OpsOkS.cons ?o14 (OpsOkS.cons ?o15 (OpsOkS.cons ?o16 (OpsOkS.cons ?o17 (OpsOkS.cons ?o18 (OpsOkS.cons ?o19 (OpsOkS.cons ?o20 (OpsOkS.cons ?o21 OpsOkS.nil)))))))))))))))))))))
        case o0 =>
          intro a w1 Kx hG need old hsz fresh hKx
          have e0 : a.tmps[0]?.getD undef = .slice (some ⟨B, o, none⟩) l.length c := by rw [← Array.getD_eq_getD_getElem?]; exact old 0 (by kernel_rfl)
          refine op_value (v := .slice (some ⟨B, o, none⟩) l.length c) (wanted_none rfl) ?_ (hKx _ w1 rfl hG (Below.refl _ _))
          simp [execOp, go_sem, e0]
        case o1 =>
          intro a w1 Kx hG need old hsz fresh hKx
          have e0 : a.tmps[8]?.getD undef = .pointer (some ⟨wr.heap.size, 0, none⟩) := by rw [← Array.getD_eq_getD_getElem?]; exact old 8 (by kernel_rfl)
          refine op_value (v := .pointer (some ⟨wr.heap.size, 0, none⟩)) (wanted_none rfl) ?_ (hKx _ w1 rfl hG (Below.refl _ _))
          simp [execOp, go_sem, e0]
        case o2 =>
          intro a w1 Kx hG need old hsz fresh hKx
          have e0 : a.tmps[35]?.getD undef = .pointer (some ⟨wr.heap.size, 0, none⟩) := by rw [← Array.getD_eq_getD_getElem?]; exact (need 1 (by kernel_rfl) (by kernel_rfl))
          have k0 := (HK.out w1 hG).1
          refine op_value (v := .string t) (wanted_none rfl) ?_ (hKx _ w1 rfl hG (Below.refl _ _))
          simp [execOp, go_sem, e0, k0]
        case o3 =>
          intro a w1 Kx hG need old hsz fresh hKx
          have e0 : a.tmps[34]?.getD undef = .slice (some ⟨B, o, none⟩) l.length c := by rw [← Array.getD_eq_getD_getElem?]; exact (need 0 (by kernel_rfl) (by kernel_rfl))
          have e1 : a.tmps[36]?.getD undef = .string t := by rw [← Array.getD_eq_getD_getElem?]; exact (need 2 (by kernel_rfl) (by kernel_rfl))
          refine op_call (wanted_none rfl) (f := 17) (args := #[.slice (some ⟨B, o, none⟩) l.length c, .string t]) ?run ((HFJ.out w1 (HAW.out.below hG)).mono ?post)
          case run => simp [go_sem, e0, e1]
          case post =>
            rintro e w2 ⟨rfl, hb2⟩
            exact ⟨_, rfl, hKx _ w2 rfl (hG.trans (hb2.mono hG.size)) hb2⟩
        case o4 =>
          intro a w1 Kx hG need old hsz fresh hKx
          have e0 : a.tmps[8]?.getD undef = .pointer (some ⟨wr.heap.size, 0, none⟩) := by rw [← Array.getD_eq_getD_getElem?]; exact old 8 (by kernel_rfl)
          refine op_value (v := .pointer (some ⟨wr.heap.size, 1, none⟩)) (wanted_none rfl) ?_ (hKx _ w1 rfl hG (Below.refl _ _))
          simp [execOp, go_sem, e0]
        case o5 =>
          intro a w1 Kx hG need old hsz fresh hKx
          have e0 : a.tmps[38]?.getD undef = .pointer (some ⟨wr.heap.size, 1, none⟩) := by rw [← Array.getD_eq_getD_getElem?]; exact (need 4 (by kernel_rfl) (by kernel_rfl))
          have k0 := (HK.out w1 hG).2.1
          refine op_value (v := .int .i64 z) (wanted_none rfl) ?_ (hKx _ w1 rfl hG (Below.refl _ _))
          simp [execOp, go_sem, e0, k0]
        case o6 =>
          intro a w1 Kx hG need old hsz fresh hKx
          have e0 : a.tmps[37]?.getD undef = .int .i64 z := by rw [← Array.getD_eq_getD_getElem?]; exact (need 3 (by kernel_rfl) (by kernel_rfl))
          have e1 : a.tmps[39]?.getD undef = .int .i64 z := by rw [← Array.getD_eq_getD_getElem?]; exact (need 5 (by kernel_rfl) (by kernel_rfl))
          refine op_value (v := .bool false) (wanted_none rfl) ?_ (hKx _ w1 rfl hG (Below.refl _ _))
          simp [execOp, go_sem, e0, e1]
        case o7 =>
          intro a w1 Kx hG need old hsz fresh hKx
          have e0 : a.tmps[40]?.getD undef = .bool false := by rw [← Array.getD_eq_getD_getElem?]; exact (need 6 (by kernel_rfl) (by kernel_rfl))
          refine op_value (v := .bool false) (wanted_none rfl) ?_ (hKx _ w1 rfl hG (Below.refl _ _))
          simp [execOp, go_sem, e0]
        case o8 =>
          intro a w1 Kx hG need old hsz fresh hKx
          have e0 : a.tmps[7]?.getD undef = .int .i64 (jx : Nat) := by rw [← Array.getD_eq_getD_getElem?]; exact old 7 (by kernel_rfl)
          refine op_value (v := .int .i64 (jx : Nat)) (wanted_of (j := 7) rfl (need 7 (by kernel_rfl) (by kernel_rfl))) ?_ (hKx _ w1 rfl hG (Below.refl _ _))
          simp [execOp, go_sem, e0]
        case o9 =>
          intro a w1 Kx hG need old hsz fresh hKx
          have e0 : a.tmps[6]?.getD undef = .slice (some ⟨B', o', none⟩) l.length c5 := by rw [← Array.getD_eq_getD_getElem?]; exact old 6 (by kernel_rfl)
          refine op_value (v := .slice (some ⟨B', o', none⟩) l.length c5) (wanted_of (j := 7) rfl (need 7 (by kernel_rfl) (by kernel_rfl))) ?_ (hKx _ w1 rfl hG (Below.refl _ _))
          simp [execOp, go_sem, e0]
        case o10 =>
          intro a w1 Kx hG need old hsz fresh hKx
          have e0 : a.tmps[43]?.getD undef = .slice (some ⟨B', o', none⟩) l.length c5 := by rw [← Array.getD_eq_getD_getElem?]; exact (need 9 (by kernel_rfl) (by kernel_rfl))
          refine op_value (v := .int .i64 (l.length : Nat)) (wanted_of (j := 7) rfl (need 7 (by kernel_rfl) (by kernel_rfl))) ?_ (hKx _ w1 rfl hG (Below.refl _ _))
          simp [go_sem, e0]
        case o11 =>
          intro a w1 Kx hG need old hsz fresh hKx
          have e0 : a.tmps[42]?.getD undef = .int .i64 (jx : Nat) := by rw [← Array.getD_eq_getD_getElem?]; exact (need 8 (by kernel_rfl) (by kernel_rfl))
          have e1 : a.tmps[44]?.getD undef = .int .i64 (l.length : Nat) := by rw [← Array.getD_eq_getD_getElem?]; exact (need 10 (by kernel_rfl) (by kernel_rfl))
          refine op_value (v := .bool false) (wanted_of (j := 7) rfl (need 7 (by kernel_rfl) (by kernel_rfl))) ?_ (hKx _ w1 rfl hG (Below.refl _ _))
          simp [execOp, go_sem, e0, e1]; omega
        case o12 =>
          intro a w1 Kx hG need old hsz fresh hKx
          have e0 : a.tmps[41]?.getD undef = .bool false := by rw [← Array.getD_eq_getD_getElem?]; exact (need 7 (by kernel_rfl) (by kernel_rfl))
          have e1 : a.tmps[45]?.getD undef = .bool false := by rw [← Array.getD_eq_getD_getElem?]; exact (need 11 (by kernel_rfl) (by kernel_rfl))
          refine op_value (v := .bool false) (wanted_none rfl) ?_ (hKx _ w1 rfl hG (Below.refl _ _))
          simp [execOp, go_sem, asBool, e0, e1]
        case o13 =>
          intro a w1 Kx hG need old hsz fresh hKx
          have e0 : a.tmps[46]?.getD undef = .bool false := by rw [← Array.getD_eq_getD_getElem?]; exact (need 12 (by kernel_rfl) (by kernel_rfl))
          refine op_value (v := .bool false) (wanted_none rfl) ?_ (hKx _ w1 rfl hG (Below.refl _ _))
          simp [execOp, go_sem, e0]
        case o14 =>
          intro a w1 Kx hG need old hsz fresh hKx
          have e0 : a.tmps[6]?.getD undef = .slice (some ⟨B', o', none⟩) l.length c5 := by rw [← Array.getD_eq_getD_getElem?]; exact old 6 (by kernel_rfl)
          refine op_value (v := .slice (some ⟨B', o', none⟩) l.length c5) (wanted_of (j := 13) rfl (need 13 (by kernel_rfl) (by kernel_rfl))) ?_ (hKx _ w1 rfl hG (Below.refl _ _))
          simp [execOp, go_sem, e0]
        case o15 =>
          intro a w1 Kx hG need old hsz fresh hKx
          have e0 : a.tmps[7]?.getD undef = .int .i64 (jx : Nat) := by rw [← Array.getD_eq_getD_getElem?]; exact old 7 (by kernel_rfl)
          refine op_value (v := .int .i64 (jx : Nat)) (wanted_of (j := 13) rfl (need 13 (by kernel_rfl) (by kernel_rfl))) ?_ (hKx _ w1 rfl hG (Below.refl _ _))
          simp [execOp, go_sem, e0]
        case o16 =>
          intro a w1 Kx hG need old hsz fresh hKx
          have e0 : a.tmps[48]?.getD undef = .slice (some ⟨B', o', none⟩) l.length c5 := by rw [← Array.getD_eq_getD_getElem?]; exact (need 14 (by kernel_rfl) (by kernel_rfl))
          have e1 : a.tmps[49]?.getD undef = .int .i64 (jx : Nat) := by rw [← Array.getD_eq_getD_getElem?]; exact (need 15 (by kernel_rfl) (by kernel_rfl))
          refine op_value (v := .pointer (some ⟨B', o' + jx, none⟩)) (wanted_of (j := 13) rfl (need 13 (by kernel_rfl) (by kernel_rfl))) ?_ (hKx _ w1 rfl hG (Below.refl _ _))
          simp [execOp, go_sem, e0, e1, HIX2.out]
        case o17 =>
          intro a w1 Kx hG need old hsz fresh hKx
          have e0 : a.tmps[50]?.getD undef = .pointer (some ⟨B', o' + jx, none⟩) := by rw [← Array.getD_eq_getD_getElem?]; exact (need 16 (by kernel_rfl) (by kernel_rfl))
          have k0 := (HK.out w1 hG).2.2
          refine op_value (v := .string t) (wanted_of (j := 13) rfl (need 13 (by kernel_rfl) (by kernel_rfl))) ?_ (hKx _ w1 rfl hG (Below.refl _ _))
          simp [execOp, go_sem, e0, k0]
        case o18 =>
          intro a w1 Kx hG need old hsz fresh hKx
          have e0 : a.tmps[8]?.getD undef = .pointer (some ⟨wr.heap.size, 0, none⟩) := by rw [← Array.getD_eq_getD_getElem?]; exact old 8 (by kernel_rfl)
          refine op_value (v := .pointer (some ⟨wr.heap.size, 0, none⟩)) (wanted_of (j := 13) rfl (need 13 (by kernel_rfl) (by kernel_rfl))) ?_ (hKx _ w1 rfl hG (Below.refl _ _))
          simp [execOp, go_sem, e0]
        case o19 =>
          intro a w1 Kx hG need old hsz fresh hKx
          have e0 : a.tmps[52]?.getD undef = .pointer (some ⟨wr.heap.size, 0, none⟩) := by rw [← Array.getD_eq_getD_getElem?]; exact (need 18 (by kernel_rfl) (by kernel_rfl))
          have k0 := (HK.out w1 hG).1
          refine op_value (v := .string t) (wanted_of (j := 13) rfl (need 13 (by kernel_rfl) (by kernel_rfl))) ?_ (hKx _ w1 rfl hG (Below.refl _ _))
          simp [execOp, go_sem, e0, k0]
        case o20 =>
          intro a w1 Kx hG need old hsz fresh hKx
          have e0 : a.tmps[51]?.getD undef = .string t := by rw [← Array.getD_eq_getD_getElem?]; exact (need 17 (by kernel_rfl) (by kernel_rfl))
          have e1 : a.tmps[53]?.getD undef = .string t := by rw [← Array.getD_eq_getD_getElem?]; exact (need 19 (by kernel_rfl) (by kernel_rfl))
          refine op_value (v := .bool false) (wanted_of (j := 13) rfl (need 13 (by kernel_rfl) (by kernel_rfl))) ?_ (hKx _ w1 rfl hG (Below.refl _ _))
          simp [execOp, go_sem, e0, e1]
        case o21 =>
          intro a w1 Kx hG need old hsz fresh hKx
          have e0 : a.tmps[47]?.getD undef = .bool false := by rw [← Array.getD_eq_getD_getElem?]; exact (need 13 (by kernel_rfl) (by kernel_rfl))
          have e1 : a.tmps[54]?.getD undef = .bool false := by rw [← Array.getD_eq_getD_getElem?]; exact (need 20 (by kernel_rfl) (by kernel_rfl))
          refine op_value (v := .bool false) (wanted_none rfl) ?_ (hKx _ w1 rfl hG (Below.refl _ _))
          simp [execOp, go_sem, asBool, e0, e1]
      case hend =>
        intro a w6 hG hde hsz hφ hold
        obtain rfl := act_puts [(34, .slice (some ⟨B, o, none⟩) l.length c), (35, .pointer (some ⟨wr.heap.size, 0, none⟩)), (36, .string t), (37, .int .i64 z), (38, .pointer (some ⟨wr.heap.size, 1, none⟩)), (39, .int .i64 z), (40, .bool false), (41, .bool false), (42, .int .i64 (jx : Nat)), (43, .slice (some ⟨B', o', none⟩) l.length c5), (44, .int .i64 (l.length : Nat)), (45, .bool false), (46, .bool false), (47, .bool false), (48, .slice (some ⟨B', o', none⟩) l.length c5), (49, .int .i64 (jx : Nat)), (50, .pointer (some ⟨B', o' + jx, none⟩)), (51, .string t), (52, .pointer (some ⟨wr.heap.size, 0, none⟩)), (53, .string t), (54, .bool false), (55, .bool false)] [34, 35, 36, 37, 38, 39, 40, 41, 42, 43, 44, 45, 46, 47, 48, 49, 50, 51, 52, 53, 54, 55] rfl (by kernel_rfl) (by kernel_rfl) hde hsz (List.forall_mem_cons.2 ⟨(show a.tmps.getD 34 undef = .slice (some ⟨B, o, none⟩) l.length c from (hφ 0 (by kernel_rfl))), (List.forall_mem_cons.2 ⟨(show a.tmps.getD 35 undef = .pointer (some ⟨wr.heap.size, 0, none⟩) from (hφ 1 (by kernel_rfl))), (List.forall_mem_cons.2 ⟨(show a.tmps.getD 36 undef = .string t from (hφ 2 (by kernel_rfl))), (List.forall_mem_cons.2 ⟨(show a.tmps.getD 37 undef = .int .i64 z from (hφ 3 (by kernel_rfl))), (List.forall_mem_cons.2 ⟨(show a.tmps.getD 38 undef = .pointer (some ⟨wr.heap.size, 1, none⟩) from (hφ 4 (by kernel_rfl))), (List.forall_mem_cons.2 ⟨(show a.tmps.getD 39 undef = .int .i64 z from (hφ 5 (by kernel_rfl))), (List.forall_mem_cons.2 ⟨(show a.tmps.getD 40 undef = .bool false from (hφ 6 (by kernel_rfl))), (List.forall_mem_cons.2 ⟨(show a.tmps.getD 41 undef = .bool false from (hφ 7 (by kernel_rfl))), (List.forall_mem_cons.2 ⟨(show a.tmps.getD 42 undef = .int .i64 (jx : Nat) from (hφ 8 (by kernel_rfl))), (List.forall_mem_cons.2 ⟨(show a.tmps.getD 43 undef = .slice (some ⟨B', o', none⟩) l.length c5 from (hφ 9 (by kernel_rfl))), (List.forall_mem_cons.2 ⟨(show a.tmps.getD 44 undef = .int .i64 (l.length : Nat) from (hφ 10 (by kernel_rfl))), (List.forall_mem_cons.2 ⟨(show a.tmps.getD 45 undef = .bool false from (hφ 11 (by kernel_rfl))), (List.forall_mem_cons.2 ⟨(show a.tmps.getD 46 undef = .bool false from (hφ 12 (by kernel_rfl))), (List.forall_mem_cons.2 ⟨(show a.tmps.getD 47 undef = .bool false from (hφ 13 (by kernel_rfl))), (List.forall_mem_cons.2 ⟨(show a.tmps.getD 48 undef = .slice (some ⟨B', o', none⟩) l.length c5 from (hφ 14 (by kernel_rfl))), (List.forall_mem_cons.2 ⟨(show a.tmps.getD 49 undef = .int .i64 (jx : Nat) from (hφ 15 (by kernel_rfl))), (List.forall_mem_cons.2 ⟨(show a.tmps.getD 50 undef = .pointer (some ⟨B', o' + jx, none⟩) from (hφ 16 (by kernel_rfl))), (List.forall_mem_cons.2 ⟨(show a.tmps.getD 51 undef = .string t from (hφ 17 (by kernel_rfl))), (List.forall_mem_cons.2 ⟨(show a.tmps.getD 52 undef = .pointer (some ⟨wr.heap.size, 0, none⟩) from (hφ 18 (by kernel_rfl))), (List.forall_mem_cons.2 ⟨(show a.tmps.getD 53 undef = .string t from (hφ 19 (by kernel_rfl))), (List.forall_mem_cons.2 ⟨(show a.tmps.getD 54 undef = .bool false from (hφ 20 (by kernel_rfl))), (List.forall_mem_cons.2 ⟨(show a.tmps.getD 55 undef = .bool false from (hφ 21 (by kernel_rfl))), (fun _ h => absurd h (by simp))⟩)⟩)⟩)⟩)⟩)⟩)⟩)⟩)⟩)⟩)⟩)⟩)⟩)⟩)⟩)⟩)⟩)⟩)⟩)⟩)⟩)⟩) hold
        clear hφ hold hsz hde
        simp only [putAll]
        go_frame
        have HB2 : Hid (Below w3.heap.size w3 w6) := Lib.hid (HBW.out.trans (hG.mono HBW.out.size))
        obtain ⟨y0, -, -⟩ := HK.out _ hG
        clear hG
        cases I with
        | true =>
          obtain rfl : I2 = true := by rw [HHT.out]; rfl
          go_wp2_with fail
          go_roundw
          case rel => exact ⟨jx + 1, by omega, by go_num, by rw [HI2.out], HB2⟩
          case measure => simp [RowKit.intOf]; omega
        | false =>
          obtain ⟨q, hq⟩ : ∃ q, decide (t = s) = q := ⟨_, rfl⟩
          have HQ : (t.toList == s.toList) = q := by rw [eq_eqB, hq]
          obtain rfl : I2 = q := by rw [HHT.out, ← hq]; rfl
          clear hq
          go_wp2_with fail
          go_roundw
          case rel => exact ⟨jx + 1, by omega, by go_num, by rw [HI2.out], HB2⟩
          case measure => simp [RowKit.intOf]; omega
    · obtain rfl : jx = l.length := by omega
      have d2 : decide ((l.length : Int) < (l.length : Int)) = false := decide_eq_false (by omega)
      rw [List.take_length]
      have hfd := hfd'.out
      have hok := HOK.out
      obtain ⟨I, hI⟩ : ∃ I, hasE l s = I := ⟨_, rfl⟩
      rw [hI] at hfd hok ⊢
      have HHE := Lib.hid hI
      clear hI hlx
      cases I with
      | true =>
        obtain rfl : qe = 0 := hok
        go_wp2_with (first
          | (go_at_call 11; (with_reducible refine (HO1.out _ (HA.out.below HBB.out)).mono ?_); rintro e w4 ⟨A3, c3, rfl, -, -, -, -, hb4⟩; replace hb4 := Lib.hid (HBB.out.trans (hb4.mono HBB.out.size)))
          | (go_at_call 17; (with_reducible refine (HF1.out _ (HA.out.below hb4.out)).mono ?_); rintro e w5 ⟨rfl, hb5⟩; replace hb5 := Lib.hid (hb4.out.trans (hb5.mono hb4.out.size)))
          | (go_at_call 8; (with_reducible refine (awake_any _).mono ?_); rintro e w99 ⟨rfl, hb99⟩; have HB99 := Lib.hid hb99; clear hb99)
          | fail)
        go_ret
        exact ⟨rfl, hb5.out.trans (HB99.out.mono hb5.out.size)⟩
      | false =>
        obtain rfl : qe = 8 := hok
        go_wp2_with (first
          | (go_at_call 11; (with_reducible refine (HO1.out _ (HA.out.below HBB.out)).mono ?_); rintro e w4 ⟨A3, c3, rfl, -, -, -, -, hb4⟩; replace hb4 := Lib.hid (HBB.out.trans (hb4.mono HBB.out.size)))
          | (go_at_call 17; (with_reducible refine (HF1.out _ (HA.out.below hb4.out)).mono ?_); rintro e w5 ⟨rfl, hb5⟩; replace hb5 := Lib.hid (hb4.out.trans (hb5.mono hb4.out.size)))
          | (go_at_call 8; (with_reducible refine (awake_any _).mono ?_); rintro e w99 ⟨rfl, hb99⟩; have HB99 := Lib.hid hb99; clear hb99)
          | fail)
        go_ret
        exact ⟨rfl, hb5.out.trans (HB99.out.mono hb5.out.size)⟩
end Go.Proofs.Ytnmcnnackokhcaa
