/- ChipPlays: the law's walk. -/
import Derived.Deep.CutBlock
import Derived.Deep.DeepCutAuto
import Derived.Test.YtchghdpfgamfpaaLHeavy
import Derived.Test.YtchghdpfgamfpaaBoth
import Derived.Test.YtchghdpfgamfpaaPuts
namespace Go.Proofs.Ytchghdpfgamfpaa
open Go.RowKit

theorem doCells {w : World} {p : Nat} {a b c d e f : Value} {t : TypeId} (h : w.heap[p]? = some (.cells #[a, b, c, d, e, f] t (0, 0))) : w.cell? ⟨p, 0, none⟩ = some a ∧ w.cell? ⟨p, 1, none⟩ = some b ∧ w.cell? ⟨p, 2, none⟩ = some c ∧ w.cell? ⟨p, 3, none⟩ = some d ∧ w.cell? ⟨p, 4, none⟩ = some e ∧ w.cell? ⟨p, 5, none⟩ = some f := by
  simp [World.cell?, h]
/-- The two in a region in which each is called once: which calls have come. -/
def GE (w : World) (c r : Nat) (x : Nat → Prop) (S S' : LS) (T T' : CS) (gd : Nat) (box : Obj) (b4 b9 : Bool) (w' : World) : Prop :=
  (b9 = true → b4 = true) ∧ Both w' c r x (if b4 = true then S' else S) (if b9 = true then T' else T) ∧ w'.heap[gd]? = some box ∧ Below w.heap.size w w'
section
variable {w w1 w2 : World} {c r gd : Nat} {S S' : LS} {T T' : CS} {box : Obj} {b4 b9 : Bool}
theorem GE.left {x : Nat → Prop} (h : GE w c r x S S' T T' gd box b4 b9 w1) (h4 : b4 = false) : Both w1 c r x S T := by
  obtain ⟨g1, g2, _, _⟩ := h
  subst h4
  cases b9 with
  | false => exact g2
  | true => exact absurd (g1 rfl) (by decide)
theorem GE.right {x : Nat → Prop} (h : GE w c r x S S' T T' gd box b4 b9 w1) (h4 : b4 = true) (h9 : b9 = false) : Both w1 c r x S' T := by
  obtain ⟨_, g2, _, _⟩ := h
  subst h4 h9
  exact g2
theorem GE.stepL (h : GE w c r (fun b => b < w.heap.size ∨ b = gd) S S' T T' gd box b4 b9 w1) (h4 : b4 = false) (hB : Both w2 c r (fun b => b < w.heap.size ∨ b = gd) S' T) (hs : Safe (fun b => b < w.heap.size ∨ b = gd) w1 w2) : GE w c r (fun b => b < w.heap.size ∨ b = gd) S S' T T' gd box true b9 w2 := by
  obtain ⟨g1, _, g3, g4⟩ := h
  subst h4
  refine ⟨fun _ => rfl, ?_, (Safe.block hs (lt_size g3) (.inr rfl)).trans g3, g4.trans (Safe.below hs (fun b hb => .inl hb) g4.size)⟩
  cases b9 with
  | false => exact hB
  | true => exact absurd (g1 rfl) (by decide)
theorem GE.stepR (h : GE w c r (fun b => b < w.heap.size ∨ b = gd) S S' T T' gd box b4 b9 w1) (h4 : b4 = true) (_h9 : b9 = false) (hB : Both w2 c r (fun b => b < w.heap.size ∨ b = gd) S' T') (hs : Safe (fun b => b < w.heap.size ∨ b = gd) w1 w2) : GE w c r (fun b => b < w.heap.size ∨ b = gd) S S' T T' gd box b4 true w2 := by
  obtain ⟨_, _, g3, g4⟩ := h
  subst h4
  exact ⟨fun _ => rfl, hB, (Safe.block hs (lt_size g3) (.inr rfl)).trans g3, g4.trans (Safe.below hs (fun b hb => .inl hb) g4.size)⟩
theorem GE.both {x : Nat → Prop} (h : GE w c r x S S' T T' gd box b4 b9 w1) (h4 : b4 = true) (h9 : b9 = true) : Both w1 c r x S' T' ∧ w1.heap[gd]? = some box ∧ Below w.heap.size w w1 := by
  obtain ⟨_, g2, g3, g4⟩ := h
  subst h4 h9
  exact ⟨g2, g3, g4⟩
end
theorem both_small {w : World} {c r : Nat} {x : Nat → Prop} {S : LS} {T : CS} (h : Both w c r x S T) (i : Int) : (tellR T i).pages.length ≤ 64 := by
  obtain ⟨q, cap, g, C, q', cap', g', C', h1, h2, h3, h4⟩ := h
  unfold tellR
  by_cases hi : 0 ≤ i ∧ i < (T.bl.length : Int)
  · rw [if_pos hi]
    obtain ⟨k, rfl⟩ : ∃ k : Nat, i = (k : Int) := ⟨i.toNat, by omega⟩
    have hk : k < T.bl.length := by omega
    rw [blkS_at hk, (h2.blocks k hk).len]
    have := h2.small.2.2
    omega
  · rw [if_neg hi]
    exact Nat.zero_le _
theorem bill_neq (x y z : Int) (w : World) : (binOp .neq 41 (.agg #[.int .i64 x, .int .i64 y, .int .i64 z]) (.agg #[.int .i64 x, .int .i64 y, .int .i64 z])).run Try.prog w = .ok (.bool false) w := by
  simp [go_sem]
set_option maxRecDepth 100000 in
set_option maxHeartbeats 8000000 in
theorem plays_in (n np : Nat) (A : Option Addr) (c0 : Nat) (bad : List Int) (A' : Option Addr) (m cap : Nat) (D : Nat → Dos) (w : World) (hn : m ≤ maxLen) (h : ∀ i, i < m → DosAt w A' i (D i)) (hA : IntsArg w A bad) (hbl : bad.length ≤ 100)
    (h1 : 1 ≤ n) (h2 : n ≤ 64) (h3 : 1 ≤ np) (h4 : np ≤ 32) :
    Calls Try.prog 3 #[.int .i64 n, .int .i64 np, .slice A bad.length c0, .slice A' m cap] w (Holds w) := by
  have HH := Lib.hid (heavy_dos A' m cap D w hn h)
  have HD := Lib.hid h
  have HA := Lib.hid hA
  unfold maxLen at hn
  clear h hA
  go_enter Try.func3, Try.ntmps3
  go_wp2_with fail
  refine HH.out.mono ?_
  rintro e w1 ⟨hv, rfl, hhv, hb1⟩
  by_cases hz : 0 < hv
  · go_wp2_with (go_at_call 11; (with_reducible refine (awake_any _).mono ?_); rintro e w9 ⟨rfl, hb9⟩)
    go_ret
    exact ⟨rfl, hb1.trans (hb9.mono hb1.size)⟩
  have HV := Lib.hid (hhv (by omega))
  have HB1 := Lib.hid hb1
  have hz' : hv ≤ 0 := by omega
  have HA1 : Hid (IntsArg w1 A bad) := fun h0 => by
    obtain ⟨B, o, e, hB, hc⟩ := HA.out h0
    exact ⟨B, o, e, Nat.lt_of_lt_of_le hB HB1.out.size, fun j hj => (HB1.out.cell (p := ⟨B, o + j, none⟩) hB).trans (hc j hj)⟩
  have hbl' : ¬ (100 : Int) < (bad.length : Int) := by omega
  clear hhv hb1 hz HH
  have HN1 := Lib.hid (new_yes (w := w1) n np A c0 bad HA1.out (by omega) h1 h2 h3 h4)
  go_wp2_with fail
  refine HN1.out.mono ?_
  rintro e w2 ⟨c, q, g, rfl, hL, ho, hb2⟩
  have HB2 := Lib.hid hb2
  have HA2 : Hid (IntsArg w2 A bad) := fun h0 => by
    obtain ⟨B, o, e, hB, hc⟩ := HA1.out h0
    exact ⟨B, o, e, Nat.lt_of_lt_of_le hB HB2.out.size, fun j hj => (HB2.out.cell (p := ⟨B, o + j, none⟩) hB).trans (hc j hj)⟩
  have HL := Lib.hid hL
  have HO := Lib.hid ho
  have HN2 := Lib.hid (newref_yes n np A c0 bad w2 HA2.out (by omega) h1 h2 h3 h4)
  clear hL ho hb2 HN1
  go_wp2_with (go_at_call 13; (refine HN2.out.mono ?_); rintro e w3 ⟨r, q', cap', g', rfl, hR, hoR, hb3⟩; have HB0 := Lib.hid ((both_new HL.out HB2.out hb3 (by simp [madeS, badL_length, newS]) (madeR_len n np bad) HO.out hR hoR).less (y := fun b => b < w.heap.size) fun b hb => Nat.lt_of_lt_of_le hb HB1.out.size); have HB3 := Lib.hid ((HB1.out.trans (HB2.out.mono HB1.out.size)).trans (hb3.mono (Nat.le_trans HB1.out.size HB2.out.size))); clear hR hoR hb3)
  clear HN2 HL HO HA1 HA2 HB2 HA
  have HL0 := Lib.hid (show (madeS n np bad).bl.length = n by simp [madeS, badL_length, newS])
  have HR0 := Lib.hid (rel_made n np bad)
  go_loopw [45] (fun i wr => ∃ (j : Nat) (S : LS) (T : CS), j ≤ m ∧ i = .int .i64 j ∧ Rel j S T ∧ S.bl.length = n ∧ Both wr c r (fun b => b < w.heap.size) S T ∧ Below w.heap.size w wr) (fun i _ => m - (intOf i).toNat)
  case atStart => exact ⟨0, _, _, Nat.zero_le _, rfl, HR0.out, HL0.out, HB0.out, HB3.out⟩
  case round =>
    obtain ⟨j, S, T, hj, rfl, hrl, hln, hbo, hbw⟩ := hrel
    have HR := Lib.hid hrl
    have HLn := Lib.hid hln
    have HB := Lib.hid hbo
    have HW := Lib.hid hbw
    clear hrl hln hbo hbw HB0 HB3 HL0 HR0
    by_cases hjm : j < m
    · have hda := HD.out j hjm
      obtain ⟨b, o, hA, hbl, hdo⟩ := hda.at_
      have hrb := hda.rb
      have hwf := hda.wf
      have hle := hda.le
      clear hda
      generalize D j = q at hdo hrb hwf hle
      obtain ⟨⟨x0, x1, x2, x3, x4⟩, Ad, cd, ld⟩ := q
      simp only at hdo hrb hwf hle
      obtain ⟨c0, c1, c2, c3, c4, c5⟩ := hdo.below HW.out hbl
      simp only at c0 c1 c2 c3 c4 c5
      have hw1 := (wf_le hwf.2.1).2
      have HC0 := Lib.hid (cb_of hrb)
      have HLe := Lib.hid hle
      have hj6 : j < 1000000 := by have := HV.out.1; omega
      have HCd := Lib.hid ((cb_of hrb).keep (fun b hb => HW.out.block b hb) (fun _ h => h) : CB wr (fun b => b < w.heap.size) Ad ld)
      subst hA
      clear hdo hrb hbl
      have HDo := Lib.hid (heap_alloc_new wr (.cells #[.int .i64 x0, .int .i64 x1, .int .i64 x2, .int .i64 x3, .int .i64 x4, .slice Ad ld.length cd] 34))
      have HB9 := Lib.hid (HB.out.alloc (.cells #[.int .i64 x0, .int .i64 x1, .int .i64 x2, .int .i64 x3, .int .i64 x4, .slice Ad ld.length cd] 34))
      obtain ⟨gd, hgd⟩ : ∃ gd, gd = wr.heap.size := ⟨_, rfl⟩
      have hgw : w.heap.size ≤ gd := by rw [hgd]; exact HW.out.size
      have HGd := Lib.hid hgd
      clear hgd
      go_upto_if 51 with fail
      go_cut [] (fun wy => ∃ y3 y4 : Int, wy.heap[gd]? = some (.cells #[.int .i64 x0, .int .i64 x1, .int .i64 x2, .int .i64 y3, .int .i64 y4, .slice Ad ld.length cd] 34 (0, 0)) ∧ Both wy c r (fun b => b < w.heap.size ∨ b = gd) S T ∧ Below w.heap.size w wy)
      case first => as_aux_lemma =>
        by_cases e6 : x0 = 6
        · subst e6
          obtain ⟨K, hK, hKe⟩ := small_of x3 (n : Int) (by omega) (by omega)
          have hun : IntKind.u64.wrap (n : Int) = (n : Int) := by simp [IntKind.wrap, IntKind.bits, IntKind.signed]; omega
          have hu0 : (n : Int) ≠ 0 := by omega
          have hKn : K < n := by omega
          have HBk := Lib.hid (HB.out.alloc (.cells #[.int .i64 6, .int .i64 x1, .int .i64 x2, .int .i64 (K : Int), .int .i64 x4, .slice Ad ld.length cd] 34))
          have HWk := Lib.hid (HW.out.alloc HW.out.size (.cells #[.int .i64 6, .int .i64 x1, .int .i64 x2, .int .i64 (K : Int), .int .i64 x4, .slice Ad ld.length cd] 34))
          have HDk := Lib.hid (heap_alloc_new wr (.cells #[.int .i64 6, .int .i64 x1, .int .i64 x2, .int .i64 (K : Int), .int .i64 x4, .slice Ad ld.length cd] 34))
          go_upto_region 14 with fail
          clear HDo HB9 c0 c1 c2 c3 c4 c5
          generalize wr.alloc (.cells #[.int .i64 6, .int .i64 x1, .int .i64 x2, .int .i64 (K : Int), .int .i64 x4, .slice Ad ld.length cd] 34) = w9 at HBk HWk HDk ⊢
          obtain ⟨q9, cap9, k0, k1, _, _, _, _, kn, _⟩ := both_cells HBk.out
          have hTl : T.bl.length = n := by rw [← HR.out.bl]; exact HLn.out
          have kn := kn K (by omega)
          rw [hTl] at k0 k1
          obtain ⟨g0, g1, g2, g3, g4, g5⟩ := doCells HDk.out
          have f4 := frozen10 HDk.out 4
          go_region
          go_wp2_with fail
          go_meet
          case rel =>
            rw [HGd.out] at hgw ⊢
            exact ⟨_, _, heap_setCell_same w9 _ 4 _ _ _ HDk.out, (HBk.out.set (a := ⟨wr.heap.size, 4, none⟩) (.inr rfl) _).drew, (HWk.out.setCell (p := ⟨wr.heap.size, 4, none⟩) hgw _).drew⟩
        · have e6' : (x0 == 6) = false := by simpa using e6
          go_wp2_with fail
          go_meet
          case rel =>
            rw [HGd.out]
            exact ⟨x3, x4, HDo.out, HB9.out, HW.out.alloc HW.out.size _⟩
      case rest =>
        obtain ⟨y3, y4, hd5, hb5, hw5⟩ := hcut
        obtain ⟨w5, rfl⟩ : ∃ w5 : World, w5 = wc := ⟨_, rfl⟩
        have HD5 := Lib.hid hd5
        have HB5 := Lib.hid hb5
        have HW5 := Lib.hid hw5
        obtain ⟨d0, d1, d2, d3, d4, d5⟩ := doCells hd5
        clear c0 c1 c2 c3 c4 c5 HDo HB9 HB hd5 hb5 hw5
        rw [← HGd.out]
        go_upto_block 2 with fail
        go_cut [13] (fun x wy => x = .bool true ∧ ∃ S' T', Rel (j + 1) S' T' ∧ S'.bl.length = n ∧ wy.heap[gd]? = some (.cells #[.int .i64 x0, .int .i64 x1, .int .i64 x2, .int .i64 y3, .int .i64 y4, .slice Ad ld.length cd] 34 (0, 0)) ∧ Both wy c r (fun b => b < w.heap.size ∨ b = gd) S' T' ∧ Below w.heap.size w wy)
        case first => as_aux_lemma =>
          by_cases e0 : x0 = 0
          · subst e0
            go_wp2_with (go_at_call 14; (with_reducible refine (both_readL y3 y4 HB5.out).mono ?_); rintro e w6 ⟨A6, L6, rfl, hL6, hc6, hB6, hs6⟩; have HL6 := Lib.hid hL6; have HC6 := Lib.hid hc6; have HB6 := Lib.hid hB6; have HS6 := Lib.hid hs6; have D6 := (Safe.block hs6 (lt_size HD5.out) (.inr rfl)).trans HD5.out; obtain ⟨a0, a1, a2, a3, a4, a5⟩ := doCells D6; clear hL6 hc6 hB6 hs6 D6)
            obtain ⟨q1, q2, q3⟩ := HR.out.read y3 y4
            have HQ3 := Lib.hid q3
            have HQ1 := Lib.hid q1
            have HD6 := Lib.hid ((Safe.block HS6.out (lt_size HD5.out) (.inr rfl)).trans HD5.out)
            rw [q2]
            clear q1 q2 q3
            refine (both_readR y3 y4 HB6.out).mono ?_
            rintro e w7 ⟨A7, m7, L7, rfl, hL7, hm7, hc7, hB7, hs7⟩
            have hD7 := (Safe.block hs7 (lt_size HD6.out) (.inl (.inr rfl))).trans HD6.out
            obtain rfl : L6 = L7 := HL6.out.out.trans (HQ1.out.trans hL7.out.symm)
            have ks1 := run_str ((HC6.out.keep (fun b hb => Safe.block hs7 hb.2 (.inr hb)) (fun _ h => h)).rb (B := w7.heap.size) (fun b hb => Nat.lt_of_lt_of_le hb.2 hs7.size)) L6.length
            have ks2 := run_str (hc7.rb (B := w7.heap.size) (fun b hb => hb.2)) m7
            have HX := Lib.hid (And.intro hD7 (And.intro hB7 hs7))
            clear hL7 hc7 hB7 hs7 hD7 a0 a1 a2 a3 a4 a5
            go_wp2_with fail
            go_meet
            case rel => exact ⟨by simp, _, _, HQ3.out.mono (Nat.le_succ j), by rw [rdL_len]; exact HLn.out, HX.out.1, HX.out.2.1.less (fun b hb => .inl (.inl hb)), (HW5.out.trans (Safe.below HS6.out (fun b hb => .inl hb) HW5.out.size)).trans (Safe.below HX.out.2.2 (fun b hb => .inl (.inl hb)) (Nat.le_trans HW5.out.size HS6.out.size))⟩
          have e0' : (x0 == 0) = false := by simpa using e0
          by_cases e1 : x0 = 1
          · subst e1
            obtain ⟨q1, q3⟩ := HR.out.erase hj6 y3
            obtain ⟨er, her⟩ : ∃ er, er = (eraseL S y3).1 := ⟨_, rfl⟩
            have HQ1 := Lib.hid her.symm
            have HQ2 := Lib.hid (q1.symm.trans her.symm)
            have HQ3 := Lib.hid q3
            clear q1 q3 her d0 d1 d2 d3 d4 d5
            go_upto_region 22 with fail
            refine region_inv2 (fun j v w' => match j with | 0 => v = .pointer (some ⟨c, 0, none⟩) | 1 => v = .pointer (some ⟨gd, 3, none⟩) | 2 => v = .pointer (some ⟨gd, 3, none⟩) | 3 => v = .int .i64 y3 | 4 => v = .int .i64 er | 5 => v = .pointer (some ⟨r, 0, none⟩) | 6 => v = .pointer (some ⟨gd, 3, none⟩) | 7 => v = .pointer (some ⟨gd, 3, none⟩) | 8 => v = .int .i64 y3 | 9 => v = .int .i64 er | 10 => v = .bool true | 11 => v = .bool true | _ => True) (fun d w' => GE w c r (fun b => b < w.heap.size ∨ b = gd) S (eraseL S y3).2 T (eraseS T y3).2 gd (.cells #[.int .i64 1, .int .i64 x1, .int .i64 x2, .int .i64 y3, .int .i64 y4, .slice Ad ld.length cd] 34 (0, 0)) (d 4) (d 9) w') (by kernel_rfl) (by kernel_rfl) (by kernel_rfl) ?hG ?hops ?hend
            case hG => exact ⟨fun h => h, HB5.out.drew, HD5.out, HW5.out.drew⟩
            case hops =>
              refine OpsOk2.cons ?o0 (OpsOk2.cons ?o1 (OpsOk2.cons ?o2 (OpsOk2.cons ?o3 (OpsOk2.cons ?o4 (OpsOk2.cons ?o5 (OpsOk2.cons ?o6 (OpsOk2.cons ?o7 (OpsOk2.cons ?o8 (OpsOk2.cons ?o9 (OpsOk2.cons ?o10 (OpsOk2.cons ?o11 OpsOk2.nil)))))))))))
              case o0 =>
                intro a w1 d Kx hd hG need old hsz hKx
                have e0 : a.tmps[9]?.getD undef = .pointer (some ⟨c, 0, none⟩) := by rw [← Array.getD_eq_getD_getElem?]; exact old 9 (by kernel_rfl)
                refine op_value (v := .pointer (some ⟨c, 0, none⟩)) (wanted_none rfl) ?_ (hKx _ w1 rfl hG (fun _ _ _ _ h => h))
                simp [execOp, go_sem, e0]
              case o1 =>
                intro a w1 d Kx hd hG need old hsz hKx
                have e0 : a.tmps[12]?.getD undef = .pointer (some ⟨gd, 0, none⟩) := by rw [← Array.getD_eq_getD_getElem?]; exact old 12 (by kernel_rfl)
                refine op_value (v := .pointer (some ⟨gd, 3, none⟩)) (wanted_none rfl) ?_ (hKx _ w1 rfl hG (fun _ _ _ _ h => h))
                simp [execOp, go_sem, e0]
              case o2 =>
                intro a w1 d Kx hd hG need old hsz hKx
                have e0 : a.tmps[118]?.getD undef = .pointer (some ⟨gd, 3, none⟩) := by rw [← Array.getD_eq_getD_getElem?]; exact (need 1 (by kernel_rfl) (by kernel_rfl)).2
                refine op_value (v := .pointer (some ⟨gd, 3, none⟩)) (wanted_none rfl) ?_ (hKx _ w1 rfl hG (fun _ _ _ _ h => h))
                simp [execOp, go_sem, e0]
              case o3 =>
                intro a w1 d Kx hd hG need old hsz hKx
                have e0 : a.tmps[119]?.getD undef = .pointer (some ⟨gd, 3, none⟩) := by rw [← Array.getD_eq_getD_getElem?]; exact (need 2 (by kernel_rfl) (by kernel_rfl)).2
                have k0 := (doCells hG.2.2.1).2.2.2.1
                refine op_value (v := .int .i64 y3) (wanted_none rfl) ?_ (hKx _ w1 rfl hG (fun _ _ _ _ h => h))
                simp [execOp, go_sem, e0, k0]
              case o4 =>
                intro a w1 d Kx hd hG need old hsz hKx
                have e0 : a.tmps[117]?.getD undef = .pointer (some ⟨c, 0, none⟩) := by rw [← Array.getD_eq_getD_getElem?]; exact (need 0 (by kernel_rfl) (by kernel_rfl)).2
                have e1 : a.tmps[120]?.getD undef = .int .i64 y3 := by rw [← Array.getD_eq_getD_getElem?]; exact (need 3 (by kernel_rfl) (by kernel_rfl)).2
                refine op_call (wanted_none rfl) (f := 16) (args := #[.pointer (some ⟨c, 0, none⟩), .int .i64 y3]) ?run ((both_eraseL y3 (hG.left hd)).mono ?post)
                case run => simp [go_sem, e0, e1]
                case post =>
                  rintro e w2 ⟨rfl, hB, hs⟩
                  rw [HQ1.out]
                  exact ⟨_, rfl, hKx _ w2 rfl (hG.stepL hd hB hs) (fun _ _ _ _ h => h)⟩
              case o5 =>
                intro a w1 d Kx hd hG need old hsz hKx
                have e0 : a.tmps[10]?.getD undef = .pointer (some ⟨r, 0, none⟩) := by rw [← Array.getD_eq_getD_getElem?]; exact old 10 (by kernel_rfl)
                refine op_value (v := .pointer (some ⟨r, 0, none⟩)) (wanted_none rfl) ?_ (hKx _ w1 rfl hG (fun _ _ _ _ h => h))
                simp [execOp, go_sem, e0]
              case o6 =>
                intro a w1 d Kx hd hG need old hsz hKx
                have e0 : a.tmps[12]?.getD undef = .pointer (some ⟨gd, 0, none⟩) := by rw [← Array.getD_eq_getD_getElem?]; exact old 12 (by kernel_rfl)
                refine op_value (v := .pointer (some ⟨gd, 3, none⟩)) (wanted_none rfl) ?_ (hKx _ w1 rfl hG (fun _ _ _ _ h => h))
                simp [execOp, go_sem, e0]
              case o7 =>
                intro a w1 d Kx hd hG need old hsz hKx
                have e0 : a.tmps[123]?.getD undef = .pointer (some ⟨gd, 3, none⟩) := by rw [← Array.getD_eq_getD_getElem?]; exact (need 6 (by kernel_rfl) (by kernel_rfl)).2
                refine op_value (v := .pointer (some ⟨gd, 3, none⟩)) (wanted_none rfl) ?_ (hKx _ w1 rfl hG (fun _ _ _ _ h => h))
                simp [execOp, go_sem, e0]
              case o8 =>
                intro a w1 d Kx hd hG need old hsz hKx
                have e0 : a.tmps[124]?.getD undef = .pointer (some ⟨gd, 3, none⟩) := by rw [← Array.getD_eq_getD_getElem?]; exact (need 7 (by kernel_rfl) (by kernel_rfl)).2
                have k0 := (doCells hG.2.2.1).2.2.2.1
                refine op_value (v := .int .i64 y3) (wanted_none rfl) ?_ (hKx _ w1 rfl hG (fun _ _ _ _ h => h))
                simp [execOp, go_sem, e0, k0]
              case o9 =>
                intro a w1 d Kx hd hG need old hsz hKx
                have e0 : a.tmps[122]?.getD undef = .pointer (some ⟨r, 0, none⟩) := by rw [← Array.getD_eq_getD_getElem?]; exact (need 5 (by kernel_rfl) (by kernel_rfl)).2
                have e1 : a.tmps[125]?.getD undef = .int .i64 y3 := by rw [← Array.getD_eq_getD_getElem?]; exact (need 8 (by kernel_rfl) (by kernel_rfl)).2
                refine op_call (wanted_none rfl) (f := 17) (args := #[.pointer (some ⟨r, 0, none⟩), .int .i64 y3]) ?run ((both_eraseR y3 (hG.right (need 4 (by kernel_rfl) (by kernel_rfl)).1 hd)).mono ?post)
                case run => simp [go_sem, e0, e1]
                case post =>
                  rintro e w2 ⟨rfl, hB, hs⟩
                  rw [HQ2.out]
                  exact ⟨_, rfl, hKx _ w2 rfl (hG.stepR (need 4 (by kernel_rfl) (by kernel_rfl)).1 hd hB hs) (fun _ _ _ _ h => h)⟩
              case o10 =>
                intro a w1 d Kx hd hG need old hsz hKx
                have e0 : a.tmps[121]?.getD undef = .int .i64 er := by rw [← Array.getD_eq_getD_getElem?]; exact (need 4 (by kernel_rfl) (by kernel_rfl)).2
                have e1 : a.tmps[126]?.getD undef = .int .i64 er := by rw [← Array.getD_eq_getD_getElem?]; exact (need 9 (by kernel_rfl) (by kernel_rfl)).2
                refine op_value (v := .bool true) (wanted_none rfl) ?_ (hKx _ w1 rfl hG (fun _ _ _ _ h => h))
                simp [execOp, go_sem, e0, e1]
              case o11 =>
                intro a w1 d Kx hd hG need old hsz hKx
                have e0 : a.tmps[127]?.getD undef = .bool true := by rw [← Array.getD_eq_getD_getElem?]; exact (need 10 (by kernel_rfl) (by kernel_rfl)).2
                refine op_value (v := .bool true) (wanted_none rfl) ?_ (hKx _ w1 rfl hG (fun _ _ _ _ h => h))
                simp [execOp, go_sem, e0]
            case hend =>
              intro a w6 d hG hφ hde hsz hold
              have hG := hG.both (hφ 4 (by kernel_rfl)).1 (hφ 9 (by kernel_rfl)).1
              obtain rfl := act_puts [(117, .pointer (some ⟨c, 0, none⟩)), (118, .pointer (some ⟨gd, 3, none⟩)), (119, .pointer (some ⟨gd, 3, none⟩)), (120, .int .i64 y3), (121, .int .i64 er), (122, .pointer (some ⟨r, 0, none⟩)), (123, .pointer (some ⟨gd, 3, none⟩)), (124, .pointer (some ⟨gd, 3, none⟩)), (125, .int .i64 y3), (126, .int .i64 er), (127, .bool true), (13, .bool true)] [117, 118, 119, 120, 121, 122, 123, 124, 125, 126, 127, 13] rfl (by kernel_rfl) (by kernel_rfl) hde hsz (List.forall_mem_cons.2 ⟨(show a.tmps.getD 117 undef = .pointer (some ⟨c, 0, none⟩) from (hφ 0 (by kernel_rfl)).2), (List.forall_mem_cons.2 ⟨(show a.tmps.getD 118 undef = .pointer (some ⟨gd, 3, none⟩) from (hφ 1 (by kernel_rfl)).2), (List.forall_mem_cons.2 ⟨(show a.tmps.getD 119 undef = .pointer (some ⟨gd, 3, none⟩) from (hφ 2 (by kernel_rfl)).2), (List.forall_mem_cons.2 ⟨(show a.tmps.getD 120 undef = .int .i64 y3 from (hφ 3 (by kernel_rfl)).2), (List.forall_mem_cons.2 ⟨(show a.tmps.getD 121 undef = .int .i64 er from (hφ 4 (by kernel_rfl)).2), (List.forall_mem_cons.2 ⟨(show a.tmps.getD 122 undef = .pointer (some ⟨r, 0, none⟩) from (hφ 5 (by kernel_rfl)).2), (List.forall_mem_cons.2 ⟨(show a.tmps.getD 123 undef = .pointer (some ⟨gd, 3, none⟩) from (hφ 6 (by kernel_rfl)).2), (List.forall_mem_cons.2 ⟨(show a.tmps.getD 124 undef = .pointer (some ⟨gd, 3, none⟩) from (hφ 7 (by kernel_rfl)).2), (List.forall_mem_cons.2 ⟨(show a.tmps.getD 125 undef = .int .i64 y3 from (hφ 8 (by kernel_rfl)).2), (List.forall_mem_cons.2 ⟨(show a.tmps.getD 126 undef = .int .i64 er from (hφ 9 (by kernel_rfl)).2), (List.forall_mem_cons.2 ⟨(show a.tmps.getD 127 undef = .bool true from (hφ 10 (by kernel_rfl)).2), (List.forall_mem_cons.2 ⟨(show a.tmps.getD 13 undef = .bool true from (hφ 11 (by kernel_rfl)).2), (fun _ h => absurd h (by simp))⟩)⟩)⟩)⟩)⟩)⟩)⟩)⟩)⟩)⟩)⟩)⟩) hold
              clear hφ hold hsz hde
              simp only [putAll]
              go_wp2_with fail
              go_frame
              go_meet
              case rel => exact ⟨rfl, _, _, HQ3.out, by rw [eraseL_len]; exact HLn.out, hG.2.1, hG.1, hG.2.2⟩
          have e1' : (x0 == 1) = false := by simpa using e1
          by_cases e2 : x0 = 2
          · subst e2
            go_wp2_with first
              | (go_at_call 18; (with_reducible refine (both_failL x1 hw1 HB5.out).mono ?_); rintro e w6 ⟨rfl, hB6, hs6⟩; have HB6 := Lib.hid hB6; have HS6 := Lib.hid hs6; have D6 := (Safe.block hs6 (lt_size HD5.out) (.inr rfl)).trans HD5.out; have HD6 := Lib.hid D6; obtain ⟨a0, a1, a2, a3, a4, a5⟩ := doCells D6; clear hB6 hs6 D6)
              | (go_at_call 19; (with_reducible refine (both_failR x1 HB6.out).mono ?_); rintro e w7 ⟨rfl, hB7, hs7⟩; have HB7 := Lib.hid hB7; have HS7 := Lib.hid hs7; have HD7 := Lib.hid ((Safe.block hs7 (lt_size HD6.out) (.inr rfl)).trans HD6.out); clear hB7 hs7)
            go_meet
            case rel => exact ⟨rfl, { S with f := behindS x1 }, { T with fails := afterS x1 }, ((HR.out.fail x1).mono (Nat.le_succ j)), HLn.out, HD7.out, HB7.out, (HW5.out.trans (Safe.below HS6.out (fun b hb => .inl hb) HW5.out.size)).trans (Safe.below HS7.out (fun b hb => .inl hb) (Nat.le_trans HW5.out.size HS6.out.size))⟩
          have e2' : (x0 == 2) = false := by simpa using e2
          by_cases e3 : x0 = 3
          · subst e3
            go_wp2_with first
              | (go_at_call 20; (with_reducible refine (both_wornL x1 hw1 HB5.out).mono ?_); rintro e w6 ⟨rfl, hB6, hs6⟩; have HB6 := Lib.hid hB6; have HS6 := Lib.hid hs6; have D6 := (Safe.block hs6 (lt_size HD5.out) (.inr rfl)).trans HD5.out; have HD6 := Lib.hid D6; obtain ⟨a0, a1, a2, a3, a4, a5⟩ := doCells D6; clear hB6 hs6 D6)
              | (go_at_call 21; (with_reducible refine (both_wornR x1 HB6.out).mono ?_); rintro e w7 ⟨rfl, hB7, hs7⟩; have HB7 := Lib.hid hB7; have HS7 := Lib.hid hs7; have HD7 := Lib.hid ((Safe.block hs7 (lt_size HD6.out) (.inr rfl)).trans HD6.out); clear hB7 hs7)
            go_meet
            case rel => exact ⟨rfl, { S with w := behindS x1 }, { T with worns := afterS x1 }, ((HR.out.worn x1).mono (Nat.le_succ j)), HLn.out, HD7.out, HB7.out, (HW5.out.trans (Safe.below HS6.out (fun b hb => .inl hb) HW5.out.size)).trans (Safe.below HS7.out (fun b hb => .inl hb) (Nat.le_trans HW5.out.size HS6.out.size))⟩
          have e3' : (x0 == 3) = false := by simpa using e3
          by_cases e4 : x0 = 4
          · subst e4
            go_wp2_with first
              | (go_at_call 22; (with_reducible refine (both_cutL x1 x2 hw1 HB5.out).mono ?_); rintro e w6 ⟨rfl, hB6, hs6⟩; have HB6 := Lib.hid hB6; have HS6 := Lib.hid hs6; have D6 := (Safe.block hs6 (lt_size HD5.out) (.inr rfl)).trans HD5.out; have HD6 := Lib.hid D6; obtain ⟨a0, a1, a2, a3, a4, a5⟩ := doCells D6; clear hB6 hs6 D6)
              | (go_at_call 23; (with_reducible refine (both_cutR x1 x2 HB6.out).mono ?_); rintro e w7 ⟨rfl, hB7, hs7⟩; have HB7 := Lib.hid hB7; have HS7 := Lib.hid hs7; have HD7 := Lib.hid ((Safe.block hs7 (lt_size HD6.out) (.inr rfl)).trans HD6.out); clear hB7 hs7)
            go_meet
            case rel => exact ⟨rfl, { S with c := behindS x1, keep := max 0 x2 }, { T with cuts := afterS x1, keep := max 0 x2 }, ((HR.out.cut x1 x2).mono (Nat.le_succ j)), HLn.out, HD7.out, HB7.out, (HW5.out.trans (Safe.below HS6.out (fun b hb => .inl hb) HW5.out.size)).trans (Safe.below HS7.out (fun b hb => .inl hb) (Nat.le_trans HW5.out.size HS6.out.size))⟩
          have e4' : (x0 == 4) = false := by simpa using e4
          by_cases e5 : x0 = 5
          · subst e5
            go_wp2_with first
              | (go_at_call 24; (with_reducible refine (both_powerL HB5.out).mono ?_); rintro e w6 ⟨rfl, hB6, hs6⟩; have HB6 := Lib.hid hB6; have HS6 := Lib.hid hs6; have D6 := (Safe.block hs6 (lt_size HD5.out) (.inr rfl)).trans HD5.out; have HD6 := Lib.hid D6; obtain ⟨a0, a1, a2, a3, a4, a5⟩ := doCells D6; clear hB6 hs6 D6)
              | (go_at_call 25; (with_reducible refine (both_powerR HB6.out).mono ?_); rintro e w7 ⟨rfl, hB7, hs7⟩; have HB7 := Lib.hid hB7; have HS7 := Lib.hid hs7; have HD7 := Lib.hid ((Safe.block hs7 (lt_size HD6.out) (.inr rfl)).trans HD6.out); clear hB7 hs7)
            go_meet
            case rel => exact ⟨rfl, { S with dark := false, c := ⟨false, 0⟩ }, { T with dark := false, cuts := 0 }, ((HR.out.power).mono (Nat.le_succ j)), HLn.out, HD7.out, HB7.out, (HW5.out.trans (Safe.below HS6.out (fun b hb => .inl hb) HW5.out.size)).trans (Safe.below HS7.out (fun b hb => .inl hb) (Nat.le_trans HW5.out.size HS6.out.size))⟩
          have e5' : (x0 == 5) = false := by simpa using e5
          obtain ⟨q1, q3⟩ := HR.out.prog hj6 y3 y4 ld
          obtain ⟨er, her⟩ : ∃ er, er = (progL S y3 y4 ld).1 := ⟨_, rfl⟩
          have HQ1 := Lib.hid her.symm
          have HQ2 := Lib.hid (q1.symm.trans her.symm)
          have HQ3 := Lib.hid q3
          clear q1 q3 her d0 d1 d2 d3 d4 d5
          go_upto_region 16 with fail
          refine region_inv2 (fun j v w' => match j with | 0 => v = .pointer (some ⟨c, 0, none⟩) | 1 => v = .pointer (some ⟨gd, 3, none⟩) | 2 => v = .agg #[.int .i64 y3, .int .i64 y4] | 3 => v = .pointer (some ⟨gd, 5, none⟩) | 4 => v = .slice Ad ld.length cd | 5 => v = .int .i64 er | 6 => v = .pointer (some ⟨r, 0, none⟩) | 7 => v = .pointer (some ⟨gd, 3, none⟩) | 8 => v = .agg #[.int .i64 y3, .int .i64 y4] | 9 => v = .pointer (some ⟨gd, 5, none⟩) | 10 => v = .slice Ad ld.length cd | 11 => v = .int .i64 er | 12 => v = .bool true | 13 => v = .bool true | _ => True) (fun d w' => GE w c r (fun b => b < w.heap.size ∨ b = gd) S (progL S y3 y4 ld).2 T (progS T y3 y4 ld).2 gd (.cells #[.int .i64 x0, .int .i64 x1, .int .i64 x2, .int .i64 y3, .int .i64 y4, .slice Ad ld.length cd] 34 (0, 0)) (d 5) (d 11) w') (by kernel_rfl) (by kernel_rfl) (by kernel_rfl) ?hG ?hops ?hend
          case hG => exact ⟨fun h => h, HB5.out.drew, HD5.out, HW5.out.drew⟩
          case hops =>
            refine OpsOk2.cons ?o0 (OpsOk2.cons ?o1 (OpsOk2.cons ?o2 (OpsOk2.cons ?o3 (OpsOk2.cons ?o4 (OpsOk2.cons ?o5 (OpsOk2.cons ?o6 (OpsOk2.cons ?o7 (OpsOk2.cons ?o8 (OpsOk2.cons ?o9 (OpsOk2.cons ?o10 (OpsOk2.cons ?o11 (OpsOk2.cons ?o12 (OpsOk2.cons ?o13 OpsOk2.nil)))))))))))))
            case o0 =>
              intro a w1 d Kx hd hG need old hsz hKx
              have e0 : a.tmps[9]?.getD undef = .pointer (some ⟨c, 0, none⟩) := by rw [← Array.getD_eq_getD_getElem?]; exact old 9 (by kernel_rfl)
              refine op_value (v := .pointer (some ⟨c, 0, none⟩)) (wanted_none rfl) ?_ (hKx _ w1 rfl hG (fun _ _ _ _ h => h))
              simp [execOp, go_sem, e0]
            case o1 =>
              intro a w1 d Kx hd hG need old hsz hKx
              have e0 : a.tmps[12]?.getD undef = .pointer (some ⟨gd, 0, none⟩) := by rw [← Array.getD_eq_getD_getElem?]; exact old 12 (by kernel_rfl)
              refine op_value (v := .pointer (some ⟨gd, 3, none⟩)) (wanted_none rfl) ?_ (hKx _ w1 rfl hG (fun _ _ _ _ h => h))
              simp [execOp, go_sem, e0]
            case o2 =>
              intro a w1 d Kx hd hG need old hsz hKx
              have e0 : a.tmps[77]?.getD undef = .pointer (some ⟨gd, 3, none⟩) := by rw [← Array.getD_eq_getD_getElem?]; exact (need 1 (by kernel_rfl) (by kernel_rfl)).2
              obtain ⟨_, _, _, k3, k4, _⟩ := doCells hG.2.2.1
              refine op_value (v := .agg #[.int .i64 y3, .int .i64 y4]) (wanted_none rfl) ?_ (hKx _ w1 rfl hG (fun _ _ _ _ h => h))
              simp [execOp, go_sem, e0, k3, k4]
            case o3 =>
              intro a w1 d Kx hd hG need old hsz hKx
              have e0 : a.tmps[12]?.getD undef = .pointer (some ⟨gd, 0, none⟩) := by rw [← Array.getD_eq_getD_getElem?]; exact old 12 (by kernel_rfl)
              refine op_value (v := .pointer (some ⟨gd, 5, none⟩)) (wanted_none rfl) ?_ (hKx _ w1 rfl hG (fun _ _ _ _ h => h))
              simp [execOp, go_sem, e0]
            case o4 =>
              intro a w1 d Kx hd hG need old hsz hKx
              have e0 : a.tmps[79]?.getD undef = .pointer (some ⟨gd, 5, none⟩) := by rw [← Array.getD_eq_getD_getElem?]; exact (need 3 (by kernel_rfl) (by kernel_rfl)).2
              have k0 := (doCells hG.2.2.1).2.2.2.2.2
              refine op_value (v := .slice Ad ld.length cd) (wanted_none rfl) ?_ (hKx _ w1 rfl hG (fun _ _ _ _ h => h))
              simp [execOp, go_sem, e0, k0]
            case o5 =>
              intro a w1 d Kx hd hG need old hsz hKx
              have e0 : a.tmps[76]?.getD undef = .pointer (some ⟨c, 0, none⟩) := by rw [← Array.getD_eq_getD_getElem?]; exact (need 0 (by kernel_rfl) (by kernel_rfl)).2
              have e1 : a.tmps[78]?.getD undef = .agg #[.int .i64 y3, .int .i64 y4] := by rw [← Array.getD_eq_getD_getElem?]; exact (need 2 (by kernel_rfl) (by kernel_rfl)).2
              have e2 : a.tmps[80]?.getD undef = .slice Ad ld.length cd := by rw [← Array.getD_eq_getD_getElem?]; exact (need 4 (by kernel_rfl) (by kernel_rfl)).2
              refine op_call (wanted_none rfl) (f := 26) (args := #[.pointer (some ⟨c, 0, none⟩), .agg #[.int .i64 y3, .int .i64 y4], .slice Ad ld.length cd]) ?run ((both_progL Ad cd ld y3 y4 (hG.left hd) (HC0.out.keep (fun b hb => hG.2.2.2.block b hb) (fun _ h => .inl h))).mono ?post)
              case run => simp [go_sem, e0, e1, e2]
              case post =>
                rintro e w2 ⟨rfl, hB, hs⟩
                rw [HQ1.out]
                exact ⟨_, rfl, hKx _ w2 rfl (hG.stepL hd hB hs) (fun _ _ _ _ h => h)⟩
            case o6 =>
              intro a w1 d Kx hd hG need old hsz hKx
              have e0 : a.tmps[10]?.getD undef = .pointer (some ⟨r, 0, none⟩) := by rw [← Array.getD_eq_getD_getElem?]; exact old 10 (by kernel_rfl)
              refine op_value (v := .pointer (some ⟨r, 0, none⟩)) (wanted_none rfl) ?_ (hKx _ w1 rfl hG (fun _ _ _ _ h => h))
              simp [execOp, go_sem, e0]
            case o7 =>
              intro a w1 d Kx hd hG need old hsz hKx
              have e0 : a.tmps[12]?.getD undef = .pointer (some ⟨gd, 0, none⟩) := by rw [← Array.getD_eq_getD_getElem?]; exact old 12 (by kernel_rfl)
              refine op_value (v := .pointer (some ⟨gd, 3, none⟩)) (wanted_none rfl) ?_ (hKx _ w1 rfl hG (fun _ _ _ _ h => h))
              simp [execOp, go_sem, e0]
            case o8 =>
              intro a w1 d Kx hd hG need old hsz hKx
              have e0 : a.tmps[83]?.getD undef = .pointer (some ⟨gd, 3, none⟩) := by rw [← Array.getD_eq_getD_getElem?]; exact (need 7 (by kernel_rfl) (by kernel_rfl)).2
              obtain ⟨_, _, _, k3, k4, _⟩ := doCells hG.2.2.1
              refine op_value (v := .agg #[.int .i64 y3, .int .i64 y4]) (wanted_none rfl) ?_ (hKx _ w1 rfl hG (fun _ _ _ _ h => h))
              simp [execOp, go_sem, e0, k3, k4]
            case o9 =>
              intro a w1 d Kx hd hG need old hsz hKx
              have e0 : a.tmps[12]?.getD undef = .pointer (some ⟨gd, 0, none⟩) := by rw [← Array.getD_eq_getD_getElem?]; exact old 12 (by kernel_rfl)
              refine op_value (v := .pointer (some ⟨gd, 5, none⟩)) (wanted_none rfl) ?_ (hKx _ w1 rfl hG (fun _ _ _ _ h => h))
              simp [execOp, go_sem, e0]
            case o10 =>
              intro a w1 d Kx hd hG need old hsz hKx
              have e0 : a.tmps[85]?.getD undef = .pointer (some ⟨gd, 5, none⟩) := by rw [← Array.getD_eq_getD_getElem?]; exact (need 9 (by kernel_rfl) (by kernel_rfl)).2
              have k0 := (doCells hG.2.2.1).2.2.2.2.2
              refine op_value (v := .slice Ad ld.length cd) (wanted_none rfl) ?_ (hKx _ w1 rfl hG (fun _ _ _ _ h => h))
              simp [execOp, go_sem, e0, k0]
            case o11 =>
              intro a w1 d Kx hd hG need old hsz hKx
              have e0 : a.tmps[82]?.getD undef = .pointer (some ⟨r, 0, none⟩) := by rw [← Array.getD_eq_getD_getElem?]; exact (need 6 (by kernel_rfl) (by kernel_rfl)).2
              have e1 : a.tmps[84]?.getD undef = .agg #[.int .i64 y3, .int .i64 y4] := by rw [← Array.getD_eq_getD_getElem?]; exact (need 8 (by kernel_rfl) (by kernel_rfl)).2
              have e2 : a.tmps[86]?.getD undef = .slice Ad ld.length cd := by rw [← Array.getD_eq_getD_getElem?]; exact (need 10 (by kernel_rfl) (by kernel_rfl)).2
              refine op_call (wanted_none rfl) (f := 27) (args := #[.pointer (some ⟨r, 0, none⟩), .agg #[.int .i64 y3, .int .i64 y4], .slice Ad ld.length cd]) ?run ((both_progR Ad cd ld y3 y4 (hG.right (need 5 (by kernel_rfl) (by kernel_rfl)).1 hd) (HC0.out.keep (fun b hb => hG.2.2.2.block b hb) (fun _ h => .inl h)) HLe.out).mono ?post)
              case run => simp [go_sem, e0, e1, e2]
              case post =>
                rintro e w2 ⟨rfl, hB, hs⟩
                rw [HQ2.out]
                exact ⟨_, rfl, hKx _ w2 rfl (hG.stepR (need 5 (by kernel_rfl) (by kernel_rfl)).1 hd hB hs) (fun _ _ _ _ h => h)⟩
            case o12 =>
              intro a w1 d Kx hd hG need old hsz hKx
              have e0 : a.tmps[81]?.getD undef = .int .i64 er := by rw [← Array.getD_eq_getD_getElem?]; exact (need 5 (by kernel_rfl) (by kernel_rfl)).2
              have e1 : a.tmps[87]?.getD undef = .int .i64 er := by rw [← Array.getD_eq_getD_getElem?]; exact (need 11 (by kernel_rfl) (by kernel_rfl)).2
              refine op_value (v := .bool true) (wanted_none rfl) ?_ (hKx _ w1 rfl hG (fun _ _ _ _ h => h))
              simp [execOp, go_sem, e0, e1]
            case o13 =>
              intro a w1 d Kx hd hG need old hsz hKx
              have e0 : a.tmps[88]?.getD undef = .bool true := by rw [← Array.getD_eq_getD_getElem?]; exact (need 12 (by kernel_rfl) (by kernel_rfl)).2
              refine op_value (v := .bool true) (wanted_none rfl) ?_ (hKx _ w1 rfl hG (fun _ _ _ _ h => h))
              simp [execOp, go_sem, e0]
          case hend =>
            intro a w6 d hG hφ hde hsz hold
            have hG := hG.both (hφ 5 (by kernel_rfl)).1 (hφ 11 (by kernel_rfl)).1
            obtain rfl := act_puts [(76, .pointer (some ⟨c, 0, none⟩)), (77, .pointer (some ⟨gd, 3, none⟩)), (78, .agg #[.int .i64 y3, .int .i64 y4]), (79, .pointer (some ⟨gd, 5, none⟩)), (80, .slice Ad ld.length cd), (81, .int .i64 er), (82, .pointer (some ⟨r, 0, none⟩)), (83, .pointer (some ⟨gd, 3, none⟩)), (84, .agg #[.int .i64 y3, .int .i64 y4]), (85, .pointer (some ⟨gd, 5, none⟩)), (86, .slice Ad ld.length cd), (87, .int .i64 er), (88, .bool true), (13, .bool true)] [76, 77, 78, 79, 80, 81, 82, 83, 84, 85, 86, 87, 88, 13] rfl (by kernel_rfl) (by kernel_rfl) hde hsz (List.forall_mem_cons.2 ⟨(show a.tmps.getD 76 undef = .pointer (some ⟨c, 0, none⟩) from (hφ 0 (by kernel_rfl)).2), (List.forall_mem_cons.2 ⟨(show a.tmps.getD 77 undef = .pointer (some ⟨gd, 3, none⟩) from (hφ 1 (by kernel_rfl)).2), (List.forall_mem_cons.2 ⟨(show a.tmps.getD 78 undef = .agg #[.int .i64 y3, .int .i64 y4] from (hφ 2 (by kernel_rfl)).2), (List.forall_mem_cons.2 ⟨(show a.tmps.getD 79 undef = .pointer (some ⟨gd, 5, none⟩) from (hφ 3 (by kernel_rfl)).2), (List.forall_mem_cons.2 ⟨(show a.tmps.getD 80 undef = .slice Ad ld.length cd from (hφ 4 (by kernel_rfl)).2), (List.forall_mem_cons.2 ⟨(show a.tmps.getD 81 undef = .int .i64 er from (hφ 5 (by kernel_rfl)).2), (List.forall_mem_cons.2 ⟨(show a.tmps.getD 82 undef = .pointer (some ⟨r, 0, none⟩) from (hφ 6 (by kernel_rfl)).2), (List.forall_mem_cons.2 ⟨(show a.tmps.getD 83 undef = .pointer (some ⟨gd, 3, none⟩) from (hφ 7 (by kernel_rfl)).2), (List.forall_mem_cons.2 ⟨(show a.tmps.getD 84 undef = .agg #[.int .i64 y3, .int .i64 y4] from (hφ 8 (by kernel_rfl)).2), (List.forall_mem_cons.2 ⟨(show a.tmps.getD 85 undef = .pointer (some ⟨gd, 5, none⟩) from (hφ 9 (by kernel_rfl)).2), (List.forall_mem_cons.2 ⟨(show a.tmps.getD 86 undef = .slice Ad ld.length cd from (hφ 10 (by kernel_rfl)).2), (List.forall_mem_cons.2 ⟨(show a.tmps.getD 87 undef = .int .i64 er from (hφ 11 (by kernel_rfl)).2), (List.forall_mem_cons.2 ⟨(show a.tmps.getD 88 undef = .bool true from (hφ 12 (by kernel_rfl)).2), (List.forall_mem_cons.2 ⟨(show a.tmps.getD 13 undef = .bool true from (hφ 13 (by kernel_rfl)).2), (fun _ h => absurd h (by simp))⟩)⟩)⟩)⟩)⟩)⟩)⟩)⟩)⟩)⟩)⟩)⟩)⟩)⟩) hold
            clear hφ hold hsz hde
            simp only [putAll]
            go_wp2_with fail
            go_frame
            go_meet
            case rel => exact ⟨rfl, _, _, HQ3.out, by rw [progL_len]; exact HLn.out, hG.2.1, hG.1, hG.2.2⟩
        case rest =>
          obtain ⟨rfl, S, T, hrl, hln, hd5, hb5, hw5⟩ := hcut
          obtain ⟨W, rfl⟩ : ∃ W : World, W = wc := ⟨_, rfl⟩
          obtain ⟨q9, cap9, _, _, k6, k7, k8, k9, _, _⟩ := both_cells hb5
          have HK6 := Lib.hid k6
          have HK7 := Lib.hid k7
          have HK8 := Lib.hid k8
          have HK9 := Lib.hid k9
          have HRl : Hid (r < W.heap.size) := by obtain ⟨_, _, _, _, q2, _, g2, _, _, hh, _, _⟩ := hb5; exact hh.lt r (.inl rfl)
          have HE1 := Lib.hid hrl.dark
          have HE2 := Lib.hid hrl.rd
          have HE3 := Lib.hid hrl.pr
          have HE4 := Lib.hid hrl.er
          have HE5 := Lib.hid (hrl.tell y3)
          have HSm := Lib.hid (both_small hb5 y3)
          have HR' := Lib.hid hrl
          have HLn' := Lib.hid hln
          have HD5 := Lib.hid hd5
          have HBo := Lib.hid hb5
          have HWo := Lib.hid hw5
          clear hrl hln hd5 hb5 hw5 k6 k7 k8 k9
          go_upto_region 35 with fail
          refine region_st (fun j v w' => match j with | 0 => v = .bool true | 1 => v = .bool false | 2 => v = .bool false | 3 => v = .pointer (some ⟨c, 0, none⟩) | 4 => v = .bool T.dark | 5 => v = .pointer (some ⟨r, 0, none⟩) | 6 => v = .pointer (some ⟨r, 0, none⟩) | 7 => v = .pointer (some ⟨r, 6, none⟩) | 8 => v = .bool T.dark | 9 => v = .bool false | 10 => v = .bool false | 11 => v = .bool false | 12 => v = .pointer (some ⟨c, 0, none⟩) | 13 => v = .agg #[.int .i64 T.rd, .int .i64 T.pr, .int .i64 T.er] | 14 => v = .pointer (some ⟨r, 0, none⟩) | 15 => v = .pointer (some ⟨r, 0, none⟩) | 16 => v = .pointer (some ⟨r, 7, none⟩) | 17 => v = .agg #[.int .i64 T.rd, .int .i64 T.pr, .int .i64 T.er] | 18 => v = .bool false | 19 => v = .bool false | 20 => v = .bool false | 21 => v = .pointer (some ⟨c, 0, none⟩) | 22 => v = .pointer (some ⟨gd, 3, none⟩) | 23 => v = .pointer (some ⟨gd, 3, none⟩) | 24 => v = .int .i64 y3 | 25 => ∃ u, v = bkV (tellR T y3) u ∧ PagesV w' (fun _ => True) u (tellR T y3).pages | 26 => v = .pointer (some ⟨r, 0, none⟩) | 27 => v = .pointer (some ⟨gd, 3, none⟩) | 28 => v = .pointer (some ⟨gd, 3, none⟩) | 29 => v = .int .i64 y3 | 30 => ∃ u, v = bkV (tellR T y3) u ∧ PagesV w' (fun _ => True) u (tellR T y3).pages | 31 => v = .bool true | 32 => v = .bool false | 33 => v = .bool false | _ => True) (fun _ w' => Below W.heap.size W w') (fun w1 w2 => Below w1.heap.size w1 w2) (by kernel_rfl) (by kernel_rfl) (by kernel_rfl) ?hR ?hG ?hops ?hend
          case hR =>
            intro j v w1 w2 hv hb
            match j, hv with
            | 0, hv => exact hv
            | 1, hv => exact hv
            | 2, hv => exact hv
            | 3, hv => exact hv
            | 4, hv => exact hv
            | 5, hv => exact hv
            | 6, hv => exact hv
            | 7, hv => exact hv
            | 8, hv => exact hv
            | 9, hv => exact hv
            | 10, hv => exact hv
            | 11, hv => exact hv
            | 12, hv => exact hv
            | 13, hv => exact hv
            | 14, hv => exact hv
            | 15, hv => exact hv
            | 16, hv => exact hv
            | 17, hv => exact hv
            | 18, hv => exact hv
            | 19, hv => exact hv
            | 20, hv => exact hv
            | 21, hv => exact hv
            | 22, hv => exact hv
            | 23, hv => exact hv
            | 24, hv => exact hv
            | 25, hv => exact (by obtain ⟨u, e, hp⟩ := hv; exact ⟨u, e, hp.below hb⟩)
            | 26, hv => exact hv
            | 27, hv => exact hv
            | 28, hv => exact hv
            | 29, hv => exact hv
            | 30, hv => exact (by obtain ⟨u, e, hp⟩ := hv; exact ⟨u, e, hp.below hb⟩)
            | 31, hv => exact hv
            | 32, hv => exact hv
            | 33, hv => exact hv
            | _ + 34, _ => exact trivial
          case hG => exact (Below.refl _ _).drew
          case hops =>
            refine OpsOkS.cons ?o0 (OpsOkS.cons ?o1 (OpsOkS.cons ?o2 (OpsOkS.cons ?o3 (OpsOkS.cons ?o4 (OpsOkS.cons ?o5 (OpsOkS.cons ?o6 (OpsOkS.cons ?o7 (OpsOkS.cons ?o8 (OpsOkS.cons ?o9 (OpsOkS.cons ?o10 (OpsOkS.cons ?o11 (OpsOkS.cons ?o12 (OpsOkS.cons ?o13 (OpsOkS.cons ?o14 (OpsOkS.cons ?o15 (OpsOkS.cons ?o16 (OpsOkS.cons ?o17 (OpsOkS.cons ?o18 (OpsOkS.cons ?o19 (OpsOkS.cons ?o20 (OpsOkS.cons ?o21 (OpsOkS.cons ?o22 (OpsOkS.cons ?o23 (OpsOkS.cons ?o24 (OpsOkS.cons ?o25 (OpsOkS.cons ?o26 (OpsOkS.cons ?o27 (OpsOkS.cons ?o28 (OpsOkS.cons ?o29 (OpsOkS.cons ?o30 (OpsOkS.cons ?o31 (OpsOkS.cons ?o32 (OpsOkS.cons ?o33 OpsOkS.nil)))))))))))))))))))))))))))))))))
            case o0 =>
              intro a w1 Kx hG need old hsz fresh hKx
              have e0 : a.tmps[13]?.getD undef = .bool true := by rw [← Array.getD_eq_getD_getElem?]; exact old 13 (by kernel_rfl)
              refine op_value (v := .bool true) (wanted_none rfl) ?_ (hKx _ w1 rfl hG (Below.refl _ _))
              simp [execOp, go_sem, e0]
            case o1 =>
              intro a w1 Kx hG need old hsz fresh hKx
              have e0 : a.tmps[168]?.getD undef = .bool true := by rw [← Array.getD_eq_getD_getElem?]; exact (need 0 (by kernel_rfl) (by kernel_rfl))
              refine op_value (v := .bool false) (wanted_none rfl) ?_ (hKx _ w1 rfl hG (Below.refl _ _))
              simp [execOp, go_sem, e0]
            case o2 =>
              intro a w1 Kx hG need old hsz fresh hKx
              have e0 : a.tmps[169]?.getD undef = .bool false := by rw [← Array.getD_eq_getD_getElem?]; exact (need 1 (by kernel_rfl) (by kernel_rfl))
              refine op_value (v := .bool false) (wanted_none rfl) ?_ (hKx _ w1 rfl hG (Below.refl _ _))
              simp [execOp, go_sem, e0]
            case o3 =>
              intro a w1 Kx hG need old hsz fresh hKx
              have e0 : a.tmps[9]?.getD undef = .pointer (some ⟨c, 0, none⟩) := by rw [← Array.getD_eq_getD_getElem?]; exact old 9 (by kernel_rfl)
              refine op_value (v := .pointer (some ⟨c, 0, none⟩)) (wanted_of (j := 2) rfl (need 2 (by kernel_rfl) (by kernel_rfl))) ?_ (hKx _ w1 rfl hG (Below.refl _ _))
              simp [execOp, go_sem, e0]
            case o4 =>
              intro a w1 Kx hG need old hsz fresh hKx
              have e0 : a.tmps[171]?.getD undef = .pointer (some ⟨c, 0, none⟩) := by rw [← Array.getD_eq_getD_getElem?]; exact (need 3 (by kernel_rfl) (by kernel_rfl))
              refine op_call (wanted_of (j := 2) rfl (need 2 (by kernel_rfl) (by kernel_rfl))) (f := 28) (args := #[.pointer (some ⟨c, 0, none⟩)]) ?run ((held_down (HBo.out.below hG).held).mono ?post)
              case run => simp [go_sem, e0]
              case post =>
                rintro e w2 ⟨rfl, hw⟩
                subst hw
                rw [HE1.out]
                exact ⟨_, rfl, hKx _ _ rfl hG (Below.refl _ _)⟩
            case o5 =>
              intro a w1 Kx hG need old hsz fresh hKx
              have e0 : a.tmps[10]?.getD undef = .pointer (some ⟨r, 0, none⟩) := by rw [← Array.getD_eq_getD_getElem?]; exact old 10 (by kernel_rfl)
              refine op_value (v := .pointer (some ⟨r, 0, none⟩)) (wanted_of (j := 2) rfl (need 2 (by kernel_rfl) (by kernel_rfl))) ?_ (hKx _ w1 rfl hG (Below.refl _ _))
              simp [execOp, go_sem, e0]
            case o6 =>
              intro a w1 Kx hG need old hsz fresh hKx
              have e0 : a.tmps[173]?.getD undef = .pointer (some ⟨r, 0, none⟩) := by rw [← Array.getD_eq_getD_getElem?]; exact (need 5 (by kernel_rfl) (by kernel_rfl))
              refine op_value (v := .pointer (some ⟨r, 0, none⟩)) (wanted_of (j := 2) rfl (need 2 (by kernel_rfl) (by kernel_rfl))) ?_ (hKx _ w1 rfl hG (Below.refl _ _))
              simp [execOp, go_sem, e0]
            case o7 =>
              intro a w1 Kx hG need old hsz fresh hKx
              have e0 : a.tmps[174]?.getD undef = .pointer (some ⟨r, 0, none⟩) := by rw [← Array.getD_eq_getD_getElem?]; exact (need 6 (by kernel_rfl) (by kernel_rfl))
              refine op_value (v := .pointer (some ⟨r, 6, none⟩)) (wanted_of (j := 2) rfl (need 2 (by kernel_rfl) (by kernel_rfl))) ?_ (hKx _ w1 rfl hG (Below.refl _ _))
              simp [execOp, go_sem, e0]
            case o8 =>
              intro a w1 Kx hG need old hsz fresh hKx
              have e0 : a.tmps[175]?.getD undef = .pointer (some ⟨r, 6, none⟩) := by rw [← Array.getD_eq_getD_getElem?]; exact (need 7 (by kernel_rfl) (by kernel_rfl))
              have k0 := (hG.cell (p := ⟨r, 6, none⟩) HRl.out).trans HK6.out
              refine op_value (v := .bool T.dark) (wanted_of (j := 2) rfl (need 2 (by kernel_rfl) (by kernel_rfl))) ?_ (hKx _ w1 rfl hG (Below.refl _ _))
              simp [execOp, go_sem, e0, k0]
            case o9 =>
              intro a w1 Kx hG need old hsz fresh hKx
              have e0 : a.tmps[172]?.getD undef = .bool T.dark := by rw [← Array.getD_eq_getD_getElem?]; exact (need 4 (by kernel_rfl) (by kernel_rfl))
              have e1 : a.tmps[176]?.getD undef = .bool T.dark := by rw [← Array.getD_eq_getD_getElem?]; exact (need 8 (by kernel_rfl) (by kernel_rfl))
              refine op_value (v := .bool false) (wanted_of (j := 2) rfl (need 2 (by kernel_rfl) (by kernel_rfl))) ?_ (hKx _ w1 rfl hG (Below.refl _ _))
              simp [execOp, go_sem, e0, e1]
            case o10 =>
              intro a w1 Kx hG need old hsz fresh hKx
              have e0 : a.tmps[170]?.getD undef = .bool false := by rw [← Array.getD_eq_getD_getElem?]; exact (need 2 (by kernel_rfl) (by kernel_rfl))
              have e1 : a.tmps[177]?.getD undef = .bool false := by rw [← Array.getD_eq_getD_getElem?]; exact (need 9 (by kernel_rfl) (by kernel_rfl))
              refine op_value (v := .bool false) (wanted_none rfl) ?_ (hKx _ w1 rfl hG (Below.refl _ _))
              simp [execOp, go_sem, asBool, e0, e1]
            case o11 =>
              intro a w1 Kx hG need old hsz fresh hKx
              have e0 : a.tmps[178]?.getD undef = .bool false := by rw [← Array.getD_eq_getD_getElem?]; exact (need 10 (by kernel_rfl) (by kernel_rfl))
              refine op_value (v := .bool false) (wanted_none rfl) ?_ (hKx _ w1 rfl hG (Below.refl _ _))
              simp [execOp, go_sem, e0]
            case o12 =>
              intro a w1 Kx hG need old hsz fresh hKx
              have e0 : a.tmps[9]?.getD undef = .pointer (some ⟨c, 0, none⟩) := by rw [← Array.getD_eq_getD_getElem?]; exact old 9 (by kernel_rfl)
              refine op_value (v := .pointer (some ⟨c, 0, none⟩)) (wanted_of (j := 11) rfl (need 11 (by kernel_rfl) (by kernel_rfl))) ?_ (hKx _ w1 rfl hG (Below.refl _ _))
              simp [execOp, go_sem, e0]
            case o13 =>
              intro a w1 Kx hG need old hsz fresh hKx
              have e0 : a.tmps[180]?.getD undef = .pointer (some ⟨c, 0, none⟩) := by rw [← Array.getD_eq_getD_getElem?]; exact (need 12 (by kernel_rfl) (by kernel_rfl))
              refine op_call (wanted_of (j := 11) rfl (need 11 (by kernel_rfl) (by kernel_rfl))) (f := 29) (args := #[.pointer (some ⟨c, 0, none⟩)]) ?run ((held_bill (HBo.out.below hG).held).mono ?post)
              case run => simp [go_sem, e0]
              case post =>
                rintro e w2 ⟨rfl, hb2⟩
                rw [HE2.out, HE3.out, HE4.out]
                exact ⟨_, rfl, hKx _ w2 rfl (hG.trans (hb2.mono hG.size)) hb2⟩
            case o14 =>
              intro a w1 Kx hG need old hsz fresh hKx
              have e0 : a.tmps[10]?.getD undef = .pointer (some ⟨r, 0, none⟩) := by rw [← Array.getD_eq_getD_getElem?]; exact old 10 (by kernel_rfl)
              refine op_value (v := .pointer (some ⟨r, 0, none⟩)) (wanted_of (j := 11) rfl (need 11 (by kernel_rfl) (by kernel_rfl))) ?_ (hKx _ w1 rfl hG (Below.refl _ _))
              simp [execOp, go_sem, e0]
            case o15 =>
              intro a w1 Kx hG need old hsz fresh hKx
              have e0 : a.tmps[182]?.getD undef = .pointer (some ⟨r, 0, none⟩) := by rw [← Array.getD_eq_getD_getElem?]; exact (need 14 (by kernel_rfl) (by kernel_rfl))
              refine op_value (v := .pointer (some ⟨r, 0, none⟩)) (wanted_of (j := 11) rfl (need 11 (by kernel_rfl) (by kernel_rfl))) ?_ (hKx _ w1 rfl hG (Below.refl _ _))
              simp [execOp, go_sem, e0]
            case o16 =>
              intro a w1 Kx hG need old hsz fresh hKx
              have e0 : a.tmps[183]?.getD undef = .pointer (some ⟨r, 0, none⟩) := by rw [← Array.getD_eq_getD_getElem?]; exact (need 15 (by kernel_rfl) (by kernel_rfl))
              refine op_value (v := .pointer (some ⟨r, 7, none⟩)) (wanted_of (j := 11) rfl (need 11 (by kernel_rfl) (by kernel_rfl))) ?_ (hKx _ w1 rfl hG (Below.refl _ _))
              simp [execOp, go_sem, e0]
            case o17 =>
              intro a w1 Kx hG need old hsz fresh hKx
              have e0 : a.tmps[184]?.getD undef = .pointer (some ⟨r, 7, none⟩) := by rw [← Array.getD_eq_getD_getElem?]; exact (need 16 (by kernel_rfl) (by kernel_rfl))
              have k7 := (hG.cell (p := ⟨r, 7, none⟩) HRl.out).trans HK7.out
              have k8 := (hG.cell (p := ⟨r, 8, none⟩) HRl.out).trans HK8.out
              have k9 := (hG.cell (p := ⟨r, 9, none⟩) HRl.out).trans HK9.out
              refine op_value (v := .agg #[.int .i64 T.rd, .int .i64 T.pr, .int .i64 T.er]) (wanted_of (j := 11) rfl (need 11 (by kernel_rfl) (by kernel_rfl))) ?_ (hKx _ w1 rfl hG (Below.refl _ _))
              simp [execOp, go_sem, e0, k7, k8, k9]
            case o18 =>
              intro a w1 Kx hG need old hsz fresh hKx
              have e0 : a.tmps[181]?.getD undef = .agg #[.int .i64 T.rd, .int .i64 T.pr, .int .i64 T.er] := by rw [← Array.getD_eq_getD_getElem?]; exact (need 13 (by kernel_rfl) (by kernel_rfl))
              have e1 : a.tmps[185]?.getD undef = .agg #[.int .i64 T.rd, .int .i64 T.pr, .int .i64 T.er] := by rw [← Array.getD_eq_getD_getElem?]; exact (need 17 (by kernel_rfl) (by kernel_rfl))
              refine op_value (v := .bool false) (wanted_of (j := 11) rfl (need 11 (by kernel_rfl) (by kernel_rfl))) ?_ (hKx _ w1 rfl hG (Below.refl _ _))
              simp [execOp, go_sem, bill_neq, e0, e1]
            case o19 =>
              intro a w1 Kx hG need old hsz fresh hKx
              have e0 : a.tmps[179]?.getD undef = .bool false := by rw [← Array.getD_eq_getD_getElem?]; exact (need 11 (by kernel_rfl) (by kernel_rfl))
              have e1 : a.tmps[186]?.getD undef = .bool false := by rw [← Array.getD_eq_getD_getElem?]; exact (need 18 (by kernel_rfl) (by kernel_rfl))
              refine op_value (v := .bool false) (wanted_none rfl) ?_ (hKx _ w1 rfl hG (Below.refl _ _))
              simp [execOp, go_sem, asBool, e0, e1]
            case o20 =>
              intro a w1 Kx hG need old hsz fresh hKx
              have e0 : a.tmps[187]?.getD undef = .bool false := by rw [← Array.getD_eq_getD_getElem?]; exact (need 19 (by kernel_rfl) (by kernel_rfl))
              refine op_value (v := .bool false) (wanted_none rfl) ?_ (hKx _ w1 rfl hG (Below.refl _ _))
              simp [execOp, go_sem, e0]
            case o21 =>
              intro a w1 Kx hG need old hsz fresh hKx
              have e0 : a.tmps[9]?.getD undef = .pointer (some ⟨c, 0, none⟩) := by rw [← Array.getD_eq_getD_getElem?]; exact old 9 (by kernel_rfl)
              refine op_value (v := .pointer (some ⟨c, 0, none⟩)) (wanted_of (j := 20) rfl (need 20 (by kernel_rfl) (by kernel_rfl))) ?_ (hKx _ w1 rfl hG (Below.refl _ _))
              simp [execOp, go_sem, e0]
            case o22 =>
              intro a w1 Kx hG need old hsz fresh hKx
              have e0 : a.tmps[12]?.getD undef = .pointer (some ⟨gd, 0, none⟩) := by rw [← Array.getD_eq_getD_getElem?]; exact old 12 (by kernel_rfl)
              refine op_value (v := .pointer (some ⟨gd, 3, none⟩)) (wanted_of (j := 20) rfl (need 20 (by kernel_rfl) (by kernel_rfl))) ?_ (hKx _ w1 rfl hG (Below.refl _ _))
              simp [execOp, go_sem, e0]
            case o23 =>
              intro a w1 Kx hG need old hsz fresh hKx
              have e0 : a.tmps[190]?.getD undef = .pointer (some ⟨gd, 3, none⟩) := by rw [← Array.getD_eq_getD_getElem?]; exact (need 22 (by kernel_rfl) (by kernel_rfl))
              refine op_value (v := .pointer (some ⟨gd, 3, none⟩)) (wanted_of (j := 20) rfl (need 20 (by kernel_rfl) (by kernel_rfl))) ?_ (hKx _ w1 rfl hG (Below.refl _ _))
              simp [execOp, go_sem, e0]
            case o24 =>
              intro a w1 Kx hG need old hsz fresh hKx
              have e0 : a.tmps[191]?.getD undef = .pointer (some ⟨gd, 3, none⟩) := by rw [← Array.getD_eq_getD_getElem?]; exact (need 23 (by kernel_rfl) (by kernel_rfl))
              have k0 := (doCells ((hG.block gd (lt_size HD5.out)).trans HD5.out)).2.2.2.1
              refine op_value (v := .int .i64 y3) (wanted_of (j := 20) rfl (need 20 (by kernel_rfl) (by kernel_rfl))) ?_ (hKx _ w1 rfl hG (Below.refl _ _))
              simp [execOp, go_sem, e0, k0]
            case o25 =>
              intro a w1 Kx hG need old hsz fresh hKx
              have e0 : a.tmps[189]?.getD undef = .pointer (some ⟨c, 0, none⟩) := by rw [← Array.getD_eq_getD_getElem?]; exact (need 21 (by kernel_rfl) (by kernel_rfl))
              have e1 : a.tmps[192]?.getD undef = .int .i64 y3 := by rw [← Array.getD_eq_getD_getElem?]; exact (need 24 (by kernel_rfl) (by kernel_rfl))
              refine op_call (wanted_of (j := 20) rfl (need 20 (by kernel_rfl) (by kernel_rfl))) (f := 31) (args := #[.pointer (some ⟨c, 0, none⟩), .int .i64 y3]) ?run ((held_block y3 (HBo.out.below hG).held).mono ?post)
              case run => simp [go_sem, e0, e1]
              case post =>
                rintro e w2 ⟨u, rfl, hu, hb2⟩
                rw [HE5.out] at hu ⊢
                exact ⟨_, rfl, hKx _ w2 ⟨u, rfl, hu.below (Below.refl _ _)⟩ (hG.trans (hb2.mono hG.size)) hb2⟩
            case o26 =>
              intro a w1 Kx hG need old hsz fresh hKx
              have e0 : a.tmps[10]?.getD undef = .pointer (some ⟨r, 0, none⟩) := by rw [← Array.getD_eq_getD_getElem?]; exact old 10 (by kernel_rfl)
              refine op_value (v := .pointer (some ⟨r, 0, none⟩)) (wanted_of (j := 20) rfl (need 20 (by kernel_rfl) (by kernel_rfl))) ?_ (hKx _ w1 rfl hG (Below.refl _ _))
              simp [execOp, go_sem, e0]
            case o27 =>
              intro a w1 Kx hG need old hsz fresh hKx
              have e0 : a.tmps[12]?.getD undef = .pointer (some ⟨gd, 0, none⟩) := by rw [← Array.getD_eq_getD_getElem?]; exact old 12 (by kernel_rfl)
              refine op_value (v := .pointer (some ⟨gd, 3, none⟩)) (wanted_of (j := 20) rfl (need 20 (by kernel_rfl) (by kernel_rfl))) ?_ (hKx _ w1 rfl hG (Below.refl _ _))
              simp [execOp, go_sem, e0]
            case o28 =>
              intro a w1 Kx hG need old hsz fresh hKx
              have e0 : a.tmps[195]?.getD undef = .pointer (some ⟨gd, 3, none⟩) := by rw [← Array.getD_eq_getD_getElem?]; exact (need 27 (by kernel_rfl) (by kernel_rfl))
              refine op_value (v := .pointer (some ⟨gd, 3, none⟩)) (wanted_of (j := 20) rfl (need 20 (by kernel_rfl) (by kernel_rfl))) ?_ (hKx _ w1 rfl hG (Below.refl _ _))
              simp [execOp, go_sem, e0]
            case o29 =>
              intro a w1 Kx hG need old hsz fresh hKx
              have e0 : a.tmps[196]?.getD undef = .pointer (some ⟨gd, 3, none⟩) := by rw [← Array.getD_eq_getD_getElem?]; exact (need 28 (by kernel_rfl) (by kernel_rfl))
              have k0 := (doCells ((hG.block gd (lt_size HD5.out)).trans HD5.out)).2.2.2.1
              refine op_value (v := .int .i64 y3) (wanted_of (j := 20) rfl (need 20 (by kernel_rfl) (by kernel_rfl))) ?_ (hKx _ w1 rfl hG (Below.refl _ _))
              simp [execOp, go_sem, e0, k0]
            case o30 =>
              intro a w1 Kx hG need old hsz fresh hKx
              have e0 : a.tmps[194]?.getD undef = .pointer (some ⟨r, 0, none⟩) := by rw [← Array.getD_eq_getD_getElem?]; exact (need 26 (by kernel_rfl) (by kernel_rfl))
              have e1 : a.tmps[197]?.getD undef = .int .i64 y3 := by rw [← Array.getD_eq_getD_getElem?]; exact (need 29 (by kernel_rfl) (by kernel_rfl))
              refine op_call (wanted_of (j := 20) rfl (need 20 (by kernel_rfl) (by kernel_rfl))) (f := 32) (args := #[.pointer (some ⟨r, 0, none⟩), .int .i64 y3]) ?run ((both_at y3 (HBo.out.below hG)).mono ?post)
              case run => simp [go_sem, e0, e1]
              case post =>
                rintro e w2 ⟨u, rfl, hu, hb2⟩
                exact ⟨_, rfl, hKx _ w2 ⟨u, rfl, hu⟩ (hG.trans (hb2.mono hG.size)) hb2⟩
            case o31 =>
              intro a w1 Kx hG need old hsz fresh hKx
              obtain ⟨u0, f0, g0⟩ := (need 25 (by kernel_rfl) (by kernel_rfl))
              have e0 : a.tmps[193]?.getD undef = bkV (tellR T y3) u0 := by rw [← Array.getD_eq_getD_getElem?]; exact f0
              obtain ⟨u1, f1, g1⟩ := (need 30 (by kernel_rfl) (by kernel_rfl))
              have e1 : a.tmps[198]?.getD undef = bkV (tellR T y3) u1 := by rw [← Array.getD_eq_getD_getElem?]; exact f1
              refine op_call (wanted_of (j := 20) rfl (need 20 (by kernel_rfl) (by kernel_rfl))) (f := 30) (args := #[bkV (tellR T y3) u0, bkV (tellR T y3) u1]) ?run ((sameblock_any (w := w1) (tellR T y3) u0 u1 g0 g1 HSm.out).mono ?post)
              case run => simp [go_sem, e0, e1]
              case post =>
                rintro e w2 ⟨rfl, hb2⟩
                exact ⟨_, rfl, hKx _ w2 rfl (hG.trans (hb2.mono hG.size)) hb2⟩
            case o32 =>
              intro a w1 Kx hG need old hsz fresh hKx
              have e0 : a.tmps[199]?.getD undef = .bool true := by rw [← Array.getD_eq_getD_getElem?]; exact (need 31 (by kernel_rfl) (by kernel_rfl))
              refine op_value (v := .bool false) (wanted_of (j := 20) rfl (need 20 (by kernel_rfl) (by kernel_rfl))) ?_ (hKx _ w1 rfl hG (Below.refl _ _))
              simp [execOp, go_sem, e0]
            case o33 =>
              intro a w1 Kx hG need old hsz fresh hKx
              have e0 : a.tmps[188]?.getD undef = .bool false := by rw [← Array.getD_eq_getD_getElem?]; exact (need 20 (by kernel_rfl) (by kernel_rfl))
              have e1 : a.tmps[200]?.getD undef = .bool false := by rw [← Array.getD_eq_getD_getElem?]; exact (need 32 (by kernel_rfl) (by kernel_rfl))
              refine op_value (v := .bool false) (wanted_none rfl) ?_ (hKx _ w1 rfl hG (Below.refl _ _))
              simp [execOp, go_sem, asBool, e0, e1]
          case hend =>
            intro a w6 hG hde hsz hφ hold
            obtain ⟨u193, h193⟩ : ∃ u, a.tmps.getD 193 undef = u := ⟨_, rfl⟩
            obtain ⟨u198, h198⟩ : ∃ u, a.tmps.getD 198 undef = u := ⟨_, rfl⟩
            obtain rfl := act_puts [(168, .bool true), (169, .bool false), (170, .bool false), (171, .pointer (some ⟨c, 0, none⟩)), (172, .bool T.dark), (173, .pointer (some ⟨r, 0, none⟩)), (174, .pointer (some ⟨r, 0, none⟩)), (175, .pointer (some ⟨r, 6, none⟩)), (176, .bool T.dark), (177, .bool false), (178, .bool false), (179, .bool false), (180, .pointer (some ⟨c, 0, none⟩)), (181, .agg #[.int .i64 T.rd, .int .i64 T.pr, .int .i64 T.er]), (182, .pointer (some ⟨r, 0, none⟩)), (183, .pointer (some ⟨r, 0, none⟩)), (184, .pointer (some ⟨r, 7, none⟩)), (185, .agg #[.int .i64 T.rd, .int .i64 T.pr, .int .i64 T.er]), (186, .bool false), (187, .bool false), (188, .bool false), (189, .pointer (some ⟨c, 0, none⟩)), (190, .pointer (some ⟨gd, 3, none⟩)), (191, .pointer (some ⟨gd, 3, none⟩)), (192, .int .i64 y3), (193, u193), (194, .pointer (some ⟨r, 0, none⟩)), (195, .pointer (some ⟨gd, 3, none⟩)), (196, .pointer (some ⟨gd, 3, none⟩)), (197, .int .i64 y3), (198, u198), (199, .bool true), (200, .bool false), (201, .bool false)] [168, 169, 170, 171, 172, 173, 174, 175, 176, 177, 178, 179, 180, 181, 182, 183, 184, 185, 186, 187, 188, 189, 190, 191, 192, 193, 194, 195, 196, 197, 198, 199, 200, 201] rfl (by kernel_rfl) (by kernel_rfl) hde hsz (List.forall_mem_cons.2 ⟨(show a.tmps.getD 168 undef = .bool true from (hφ 0 (by kernel_rfl))), (List.forall_mem_cons.2 ⟨(show a.tmps.getD 169 undef = .bool false from (hφ 1 (by kernel_rfl))), (List.forall_mem_cons.2 ⟨(show a.tmps.getD 170 undef = .bool false from (hφ 2 (by kernel_rfl))), (List.forall_mem_cons.2 ⟨(show a.tmps.getD 171 undef = .pointer (some ⟨c, 0, none⟩) from (hφ 3 (by kernel_rfl))), (List.forall_mem_cons.2 ⟨(show a.tmps.getD 172 undef = .bool T.dark from (hφ 4 (by kernel_rfl))), (List.forall_mem_cons.2 ⟨(show a.tmps.getD 173 undef = .pointer (some ⟨r, 0, none⟩) from (hφ 5 (by kernel_rfl))), (List.forall_mem_cons.2 ⟨(show a.tmps.getD 174 undef = .pointer (some ⟨r, 0, none⟩) from (hφ 6 (by kernel_rfl))), (List.forall_mem_cons.2 ⟨(show a.tmps.getD 175 undef = .pointer (some ⟨r, 6, none⟩) from (hφ 7 (by kernel_rfl))), (List.forall_mem_cons.2 ⟨(show a.tmps.getD 176 undef = .bool T.dark from (hφ 8 (by kernel_rfl))), (List.forall_mem_cons.2 ⟨(show a.tmps.getD 177 undef = .bool false from (hφ 9 (by kernel_rfl))), (List.forall_mem_cons.2 ⟨(show a.tmps.getD 178 undef = .bool false from (hφ 10 (by kernel_rfl))), (List.forall_mem_cons.2 ⟨(show a.tmps.getD 179 undef = .bool false from (hφ 11 (by kernel_rfl))), (List.forall_mem_cons.2 ⟨(show a.tmps.getD 180 undef = .pointer (some ⟨c, 0, none⟩) from (hφ 12 (by kernel_rfl))), (List.forall_mem_cons.2 ⟨(show a.tmps.getD 181 undef = .agg #[.int .i64 T.rd, .int .i64 T.pr, .int .i64 T.er] from (hφ 13 (by kernel_rfl))), (List.forall_mem_cons.2 ⟨(show a.tmps.getD 182 undef = .pointer (some ⟨r, 0, none⟩) from (hφ 14 (by kernel_rfl))), (List.forall_mem_cons.2 ⟨(show a.tmps.getD 183 undef = .pointer (some ⟨r, 0, none⟩) from (hφ 15 (by kernel_rfl))), (List.forall_mem_cons.2 ⟨(show a.tmps.getD 184 undef = .pointer (some ⟨r, 7, none⟩) from (hφ 16 (by kernel_rfl))), (List.forall_mem_cons.2 ⟨(show a.tmps.getD 185 undef = .agg #[.int .i64 T.rd, .int .i64 T.pr, .int .i64 T.er] from (hφ 17 (by kernel_rfl))), (List.forall_mem_cons.2 ⟨(show a.tmps.getD 186 undef = .bool false from (hφ 18 (by kernel_rfl))), (List.forall_mem_cons.2 ⟨(show a.tmps.getD 187 undef = .bool false from (hφ 19 (by kernel_rfl))), (List.forall_mem_cons.2 ⟨(show a.tmps.getD 188 undef = .bool false from (hφ 20 (by kernel_rfl))), (List.forall_mem_cons.2 ⟨(show a.tmps.getD 189 undef = .pointer (some ⟨c, 0, none⟩) from (hφ 21 (by kernel_rfl))), (List.forall_mem_cons.2 ⟨(show a.tmps.getD 190 undef = .pointer (some ⟨gd, 3, none⟩) from (hφ 22 (by kernel_rfl))), (List.forall_mem_cons.2 ⟨(show a.tmps.getD 191 undef = .pointer (some ⟨gd, 3, none⟩) from (hφ 23 (by kernel_rfl))), (List.forall_mem_cons.2 ⟨(show a.tmps.getD 192 undef = .int .i64 y3 from (hφ 24 (by kernel_rfl))), (List.forall_mem_cons.2 ⟨h193, (List.forall_mem_cons.2 ⟨(show a.tmps.getD 194 undef = .pointer (some ⟨r, 0, none⟩) from (hφ 26 (by kernel_rfl))), (List.forall_mem_cons.2 ⟨(show a.tmps.getD 195 undef = .pointer (some ⟨gd, 3, none⟩) from (hφ 27 (by kernel_rfl))), (List.forall_mem_cons.2 ⟨(show a.tmps.getD 196 undef = .pointer (some ⟨gd, 3, none⟩) from (hφ 28 (by kernel_rfl))), (List.forall_mem_cons.2 ⟨(show a.tmps.getD 197 undef = .int .i64 y3 from (hφ 29 (by kernel_rfl))), (List.forall_mem_cons.2 ⟨h198, (List.forall_mem_cons.2 ⟨(show a.tmps.getD 199 undef = .bool true from (hφ 31 (by kernel_rfl))), (List.forall_mem_cons.2 ⟨(show a.tmps.getD 200 undef = .bool false from (hφ 32 (by kernel_rfl))), (List.forall_mem_cons.2 ⟨(show a.tmps.getD 201 undef = .bool false from (hφ 33 (by kernel_rfl))), (fun _ h => absurd h (by simp))⟩)⟩)⟩)⟩)⟩)⟩)⟩)⟩)⟩)⟩)⟩)⟩)⟩)⟩)⟩)⟩)⟩)⟩)⟩)⟩)⟩)⟩)⟩)⟩)⟩)⟩)⟩)⟩)⟩)⟩)⟩)⟩)⟩)⟩) hold
            clear hφ hold hsz hde h193 h198
            simp only [putAll]
            go_frame
            go_wp2_with fail
            go_roundw
            case rel => exact ⟨j + 1, S, T, by omega, by go_num, HR'.out, HLn'.out, ((HBo.out.below hG).less fun b hb => .inl hb), HWo.out.trans (hG.mono HWo.out.size)⟩
            case measure => simp [intOf]; omega
    · obtain rfl : j = m := by omega
      obtain ⟨q9, cap9, k0, k1, _, _, _, _, _, hsb⟩ := both_cells HB.out
      have HK0 := Lib.hid k0
      have HSB := Lib.hid hsb
      have hr1 := HR.out.bl
      have HBL := Lib.hid hr1
      have hz9 : r < wr.heap.size := by obtain ⟨_, _, _, _, q2, _, g2, _, _, hh, _, _⟩ := HB.out; exact hh.lt r (.inl rfl)
      clear k0 hsb hr1 HD
      go_wp2_with fail
      refine region_st (fun j v w' => match j with
          | 0 => v = .pointer (some ⟨c, 0, none⟩)
          | 1 => RowB w' wr.heap.size v T.bl
          | 2 => v = .pointer (some ⟨r, 0, none⟩)
          | 3 => v = .pointer (some ⟨r, 0, none⟩)
          | 4 => v = .pointer (some ⟨r, 0, none⟩)
          | 5 => v = .slice (some ⟨q9, 0, none⟩) T.bl.length cap9
          | _ => v = .bool true)
        (fun _ w' => Below wr.heap.size wr w') (fun w1 w2 => Below w1.heap.size w1 w2) (by kernel_rfl) (by kernel_rfl) (by kernel_rfl) ?hR ?hG ?hops ?hend
      case hR =>
        intro j v w1 w2 hv hb
        match j, hv with
        | 0, hv => exact hv
        | 1, hv => exact RowB.below hv hb
        | 2, hv => exact hv
        | 3, hv => exact hv
        | 4, hv => exact hv
        | 5, hv => exact hv
        | _ + 6, hv => exact hv
      case hG => exact (Below.refl _ _).drew
      case hops =>
        refine OpsOkS.cons ?o0 (OpsOkS.cons ?o1 (OpsOkS.cons ?o2 (OpsOkS.cons ?o3 (OpsOkS.cons ?o4 (OpsOkS.cons ?o5 (OpsOkS.cons ?o6 (OpsOkS.cons ?o7 (OpsOkS.cons ?o8 (OpsOkS.cons ?o9 (OpsOkS.cons ?o10 (OpsOkS.nil)))))))))))
        case o0 =>
          intro a w6 Kx hG need old hsz fresh hK
          have e0 : a.tmps[9]?.getD undef = .pointer (some ⟨c, 0, none⟩) := by
            rw [← Array.getD_eq_getD_getElem?]
            exact old 9 (by kernel_rfl)
          refine op_value (v := .pointer (some ⟨c, 0, none⟩)) (wanted_none rfl) ?_ (hK _ w6 rfl hG (Below.refl _ _))
          simp [execOp, go_sem, e0]
        case o1 =>
          intro a w6 Kx hG need old hsz fresh hK
          have e0 : a.tmps[203]?.getD undef = .pointer (some ⟨c, 0, none⟩) := by
            rw [← Array.getD_eq_getD_getElem?]
            exact need 0 (by kernel_rfl) (by kernel_rfl)
          refine op_call (wanted_none rfl) (f := 34) (args := #[.pointer (some ⟨c, 0, none⟩)]) ?run ((both_blocks (HB.out.below hG) (by rw [HLn.out]; exact h1)).mono ?post)
          case run => simp [go_sem, e0]
          case post =>
            rintro e w7 ⟨v, rfl, hv, hb7⟩
            rw [HBL.out] at hv
            obtain ⟨L, l1, l2, l3⟩ := hv
            have hz6 := hG.size
            exact ⟨_, rfl, hK _ w7 ⟨L, l1, ⟨l2.1, l2.2.imp id fun ⟨g, cap, cur, hv, hb, r⟩ => ⟨g, cap, cur, hv, by omega, r⟩⟩, fun x hx => (l3 x hx).move (fun _ _ _ _ _ => rfl) fun k hk _ => ⟨by have := hk.1; omega, hk.2⟩⟩ (hG.trans (hb7.mono hG.size)) hb7⟩
        case o2 =>
          intro a w6 Kx hG need old hsz fresh hK
          have e0 : a.tmps[10]?.getD undef = .pointer (some ⟨r, 0, none⟩) := by
            rw [← Array.getD_eq_getD_getElem?]
            exact old 10 (by kernel_rfl)
          refine op_value (v := .pointer (some ⟨r, 0, none⟩)) (wanted_none rfl) ?_ (hK _ w6 rfl hG (Below.refl _ _))
          simp [execOp, go_sem, e0]
        case o3 =>
          intro a w6 Kx hG need old hsz fresh hK
          have e0 : a.tmps[205]?.getD undef = .pointer (some ⟨r, 0, none⟩) := by
            rw [← Array.getD_eq_getD_getElem?]
            exact need 2 (by kernel_rfl) (by kernel_rfl)
          refine op_value (v := .pointer (some ⟨r, 0, none⟩)) (wanted_none rfl) ?_ (hK _ w6 rfl hG (Below.refl _ _))
          simp [execOp, go_sem, e0]
        case o4 =>
          intro a w6 Kx hG need old hsz fresh hK
          have e0 : a.tmps[206]?.getD undef = .pointer (some ⟨r, 0, none⟩) := by
            rw [← Array.getD_eq_getD_getElem?]
            exact need 3 (by kernel_rfl) (by kernel_rfl)
          refine op_value (v := .pointer (some ⟨r, 0, none⟩)) (wanted_none rfl) ?_ (hK _ w6 rfl hG (Below.refl _ _))
          simp [execOp, go_sem, e0]
        case o5 =>
          intro a w6 Kx hG need old hsz fresh hK
          have e0 : a.tmps[207]?.getD undef = .pointer (some ⟨r, 0, none⟩) := by
            rw [← Array.getD_eq_getD_getElem?]
            exact need 4 (by kernel_rfl) (by kernel_rfl)
          have kc := (hG.cell (p := ⟨r, 0, none⟩) hz9).trans HK0.out
          refine op_value (v := .slice (some ⟨q9, 0, none⟩) T.bl.length cap9) (wanted_none rfl) ?_ (hK _ w6 rfl hG (Below.refl _ _))
          simp [execOp, go_sem, e0, kc]
        case o6 =>
          intro a w6 Kx hG need old hsz fresh hK
          have hv := need 1 (by kernel_rfl) (by kernel_rfl)
          have e1 : a.tmps[208]?.getD undef = .slice (some ⟨q9, 0, none⟩) T.bl.length cap9 := by
            rw [← Array.getD_eq_getD_getElem?]
            exact need 5 (by kernel_rfl) (by kernel_rfl)
          refine op_call (wanted_none rfl) (f := 33) (args := #[a.tmps.getD 204 undef, .slice (some ⟨q9, 0, none⟩) T.bl.length cap9]) ?run ((HSB.out _ _ w6 hv hG).mono ?post)
          case run => simp [go_sem, e1]
          case post =>
            rintro e w7 ⟨rfl, hb7⟩
            exact ⟨_, rfl, hK _ w7 rfl (hG.trans (hb7.mono hG.size)) hb7⟩
        case o7 =>
          intro a w6 Kx hG need old hsz fresh hK
          have e0 : a.tmps[209]?.getD undef = .bool true := by
            rw [← Array.getD_eq_getD_getElem?]
            exact need 6 (by kernel_rfl) (by kernel_rfl)
          refine op_value (v := .bool true) (wanted_none rfl) ?_ (hK _ w6 rfl hG (Below.refl _ _))
          simp [execOp, go_sem, e0]
        case o8 =>
          intro a w6 Kx hG need old hsz fresh hK
          refine op_call (wanted_of (j := 7) rfl (need 7 (by kernel_rfl) (by kernel_rfl))) (f := 11) (args := #[]) ?run ((awake_any w6).mono ?post)
          case run => simp [go_sem]
          case post =>
            rintro e w7 ⟨rfl, hb7⟩
            exact ⟨_, rfl, hK _ w7 rfl (hG.trans (hb7.mono hG.size)) hb7⟩
        case o9 =>
          intro a w6 Kx hG need old hsz fresh hK
          have e0 : a.tmps[210]?.getD undef = .bool true := by
            rw [← Array.getD_eq_getD_getElem?]
            exact need 7 (by kernel_rfl) (by kernel_rfl)
          have e1 : a.tmps[211]?.getD undef = .bool true := by
            rw [← Array.getD_eq_getD_getElem?]
            exact need 8 (by kernel_rfl) (by kernel_rfl)
          refine op_value (v := .bool true) (wanted_none rfl) ?_ (hK _ w6 rfl hG (Below.refl _ _))
          simp [execOp, go_sem, e0, e1]
        case o10 =>
          intro a w6 Kx hG need old hsz fresh hK
          have e0 : a.tmps[212]?.getD undef = .bool true := by
            rw [← Array.getD_eq_getD_getElem?]
            exact need 9 (by kernel_rfl) (by kernel_rfl)
          refine op_value (v := .bool true) (wanted_none rfl) ?_ (hK _ w6 rfl hG (Below.refl _ _))
          simp [execOp, go_sem, e0]
      case hend =>
        intro a w6 hG hd hsz hφ hold
        have h8 : a.tmps.getD 8 undef = .bool true := hφ 10 (by kernel_rfl)
        have hf := HW.out.trans (hG.mono HW.out.size)
        obtain ⟨tm, de⟩ := a
        simp only at h8 hd
        subst hd
        go_wp2_with fail
        refine bodyPost_ret (results_tmp rfl _ _ _) rfl ?_
        exact ⟨by rw [h8], hf⟩
end Go.Proofs.Ytchghdpfgamfpaa
