/- tells: all of a table, one block's, and how many, are told as they should be. -/
import Derived.Test.YtbebbnkolpgndaaFIns
namespace Go.Proofs.Ytbebbnkolpgndaa
open Go.RowKit

theorem inT_len (T : List Fd) (b : Int) : (inT T b).length = liveT T b := by
  rw [(inT_perm T b).length_eq, ← List.countP_eq_length_filter]
  rfl
theorem all_take {T : List Fd} {j : Nat} (h : j < T.length) : allT (T.take (j + 1)) = insT (allT (T.take j)) T[j] := by
  unfold allT
  rw [List.take_succ_eq_append_getElem h, List.foldl_append]
  rfl
theorem in_take {T : List Fd} {j : Nat} (h : j < T.length) (b : Int) : inT (T.take (j + 1)) b = if T[j].2.1 = b then insT (inT (T.take j) b) T[j] else inT (T.take j) b := by
  unfold inT
  rw [List.take_succ_eq_append_getElem h, List.filter_append, List.foldl_append]
  by_cases e : T[j].2.1 = b
  · rw [if_pos e, List.filter_cons, if_pos (by simpa using e)]
    rfl
  · rw [if_neg e, List.filter_cons, if_neg (by simpa using e)]
    rfl
set_option maxHeartbeats 4000000 in
theorem tells_any (p : Nat) (x : Nat → Prop) (A : Option Addr) (c : Nat) (T : List Fd) (s : P2) (b : Int) (w : World) (hT : Tab w p x T) (hl : T.length ≤ 500) (hA : FLies w A T) (hb : (Lit.int .i64 b).wf = true) :
    Calls Try.prog 15 #[.pointer (some ⟨p, 0, none⟩), .slice A T.length c, P2V s, .int .i64 b] w (Holds w) := by
  have HT := Lib.hid hT
  have HA := Lib.hid hA
  have HW := Lib.hid hb
  clear hT hA hb
  go_enter Try.func15, Try.ntmps15
  go_wp2_with fail
  go_loopw [9, 10, 15] (fun v9 v10 v15 wr => ∃ j : Nat, j ≤ T.length ∧ v15 = .int .i64 j ∧ FOwn wr w.heap.size v9 (allT (T.take j)) ∧ FOwn wr w.heap.size v10 (inT (T.take j) b) ∧ Below w.heap.size w wr) (fun _ _ v15 _ => T.length - (intOf v15).toNat)
  case atStart => exact ⟨0, Nat.zero_le _, rfl, fown_nil _ _, fown_nil _ _, (Below.refl _ _).alloc (Nat.le_refl _) _⟩
  case round =>
    obtain ⟨j, hj, rfl, hO, hI, hB⟩ := hrel
    have HO := Lib.hid hO
    have HI := Lib.hid hI
    have HB := Lib.hid hB
    have hs := hB.size
    clear hO hI hB
    by_cases hj1 : j < T.length
    · obtain ⟨B, o, rfl, hBs, hcs⟩ := (HA.out.below HB.out) (by omega)
      obtain ⟨k0, k1, k2, k3⟩ := hcs j hj1
      have hla : (allT (T.take j)).length ≤ 500 := by rw [(allT_perm _).length_eq, List.length_take]; omega
      have hli : (inT (T.take j) b).length ≤ 500 := by rw [(inT_perm _ _).length_eq]; exact Nat.le_trans (List.length_filter_le _ _) (by rw [List.length_take]; omega)
      have HSa := Lib.hid (all_take hj1)
      have HSi := Lib.hid (in_take hj1 b)
      clear hcs
      generalize T[j] = f at *
      generalize allT (T.take j) = L at *
      generalize inT (T.take j) b = I at *
      obtain ⟨pa, ca, rfl, -⟩ := own_slice HO.out
      obtain ⟨pi, ci, rfl, -⟩ := own_slice HI.out
      obtain ⟨L2, hL2⟩ : ∃ L2, insT L f = L2 := ⟨_, rfl⟩
      have HL2 := Lib.hid hL2
      obtain ⟨wb, hwb⟩ : ∃ wb, wb = wr.alloc (.cells #[.int .i64 f.1.1, .int .i64 f.1.2, .int .i64 f.2.1, .int .i64 f.2.2] 34) := ⟨_, rfl⟩
      have HBb : Hid (Below wr.heap.size wr wb) := Lib.hid (by rw [hwb]; exact (Below.refl _ _).alloc (Nat.le_refl _) _)
      have HYb : Hid (wb.heap[wr.heap.size]? = some (.cells #[.int .i64 f.1.1, .int .i64 f.1.2, .int .i64 f.2.1, .int .i64 f.2.2] 34 (0, 0))) := Lib.hid (by rw [hwb]; exact heap_alloc_new wr _)
      have hyb := lt_size HYb.out
      have hsb := HBb.out.size
      have HOb := Lib.hid (fown_keep HO.out HBb.out)
      have HIb := Lib.hid (fown_keep HI.out HBb.out)
      have HC := Lib.hid (ins_own f (by omega) HOb.out)
      rw [hL2] at HC
      clear hL2
      obtain ⟨m0, m1, m2, m3⟩ := cells4p HYb.out
      have hbw : w.heap.size ≤ wb.heap.size := by omega
      by_cases he : f.2.1 = b
      · have e1 : (f.2.1 == b) = true := by simpa using he
        obtain ⟨I2, hI2⟩ : ∃ I2, insT I f = I2 := ⟨_, rfl⟩
        have HSi2 := Lib.hid ((HSi.out.trans (if_pos he)).trans hI2)
        have HI2 := Lib.hid hI2
        clear he hI2
        go_wp2_with fail
        rw [← hwb]
        clear hwb
        refine HC.out.mono ?_
        rintro e w5 ⟨A5, c5, rfl, h5, hb5⟩
        have H5 := Lib.hid (fown_less h5 hbw)
        have HB5 := Lib.hid hb5
        have HY5 := Lib.hid ((hb5.block _ hyb).trans HYb.out)
        have HI5 := Lib.hid (fown_keep HIb.out hb5)
        have HC2 := Lib.hid (ins_own f (by omega) HI5.out)
        rw [HI2.out] at HC2
        clear h5 hb5 m0 m1 m2 m3
        obtain ⟨m0, m1, m2, m3⟩ := cells4p HY5.out
        have hs5 := HB5.out.size
        go_wp2_with fail
        refine HC2.out.mono ?_
        rintro e w6 ⟨A6, c6, rfl, h6, hb6⟩
        have H6 := Lib.hid (fown_less h6 (Nat.le_trans hbw hs5))
        have HB6 := Lib.hid hb6
        clear h6 hb6
        go_wp2_with fail
        go_roundw
        case rel => exact ⟨j + 1, by omega, by go_num, by rw [HSa.out, HL2.out]; exact fown_keep H5.out HB6.out, by rw [HSi2.out]; exact H6.out, ((HB.out.trans (HBb.out.mono hs)).trans (HB5.out.mono hbw)).trans (HB6.out.mono (Nat.le_trans hbw hs5))⟩
        case measure => simp [intOf]; omega
      · have e1 : (f.2.1 == b) = false := by simpa using he
        have HSi2 := Lib.hid (HSi.out.trans (if_neg he))
        clear he
        go_wp2_with fail
        rw [← hwb]
        clear hwb
        refine HC.out.mono ?_
        rintro e w5 ⟨A5, c5, rfl, h5, hb5⟩
        have H5 := Lib.hid (fown_less h5 hbw)
        have HB5 := Lib.hid hb5
        have HY5 := Lib.hid ((hb5.block _ hyb).trans HYb.out)
        clear h5 hb5 m0 m1 m2 m3
        obtain ⟨m0, m1, m2, m3⟩ := cells4p HY5.out
        go_wp2_with fail
        go_roundw
        case rel => exact ⟨j + 1, by omega, by go_num, by rw [HSa.out, HL2.out]; exact H5.out, by rw [HSi2.out]; exact fown_keep HIb.out HB5.out, (HB.out.trans (HBb.out.mono hs)).trans (HB5.out.mono hbw)⟩
        case measure => simp [intOf]; omega
    · obtain rfl : j = T.length := by omega
      rw [show T.take T.length = T from List.take_length] at HO HI
      have hla : (allT T).length ≤ 500 := by rw [(allT_perm _).length_eq]; omega
      have hli : (inT T b).length ≤ 500 := by rw [(inT_perm _ _).length_eq]; exact Nat.le_trans (List.length_filter_le _ _) hl
      have HLn := Lib.hid (inT_len T b)
      have HT1 := Lib.hid (HT.out.below HB.out)
      have HAl := Lib.hid (allT_any HT1.out (by omega))
      generalize allT T = L at *
      generalize hI : inT T b = I at *
      obtain ⟨pa, ca, rfl, -⟩ := own_slice HO.out
      obtain ⟨pi, ci, rfl, -⟩ := own_slice HI.out
      have HEq := Lib.hid hI
      clear hI
      have HOl := Lib.hid HO.out.lies.1
      have HIl := Lib.hid HI.out.lies.1
      go_wp2_with (first
        | (go_at_call 18; refine HAl.out.mono ?_; rintro e w5 ⟨A5, c5, rfl, hf5, -, hb5⟩; have HS5 := Lib.hid (same_any A5 pa c5 ca L w5 (by omega) hf5 (HOl.out.below hb5)); have HT5 := Lib.hid (HT1.out.below hb5); have HI5 := Lib.hid (HIl.out.below hb5); have HB5 := Lib.hid (HB.out.trans (hb5.mono hs)); clear hf5 hb5)
        | (go_at_call 21; (with_reducible refine HS5.out.mono ?_); rintro e w6 ⟨rfl, hb6⟩; have HT6 := Lib.hid (HT5.out.below hb6); have HI6 := Lib.hid (HI5.out.below hb6); have HB6 := Lib.hid (HB5.out.trans (hb6.mono HB5.out.size)); have HIn := Lib.hid (inT_any b HT6.out (by omega) HW.out); rw [HEq.out] at HIn; clear hb6)
        | (go_at_call 17; (with_reducible refine HIn.out.mono ?_); rintro e w7 ⟨A7, c7, rfl, hf7, -, hb7⟩; have HS7 := Lib.hid (same_any A7 pi c7 ci I w7 (by omega) hf7 (HI6.out.below hb7)); have HT7 := Lib.hid (HT6.out.below hb7); have HB7 := Lib.hid (HB6.out.trans (hb7.mono HB6.out.size)); clear hf7 hb7)
        | (go_at_call 21; (with_reducible refine HS7.out.mono ?_); rintro e w8 ⟨rfl, hb8⟩; have HT8 := Lib.hid (HT7.out.below hb8); have HB8 := Lib.hid (HB7.out.trans (hb8.mono HB7.out.size)); have HLv := Lib.hid (liveT_any b HT8.out (by omega) HW.out); rw [← HLn.out] at HLv; clear hb8)
        | (go_at_call 16; (with_reducible refine HLv.out.mono ?_); rintro e w9 ⟨rfl, hb9⟩; have HB9 := Lib.hid (HB8.out.trans (hb9.mono HB8.out.size)); clear hb9))
      go_ret
      exact ⟨rfl, HB9.out⟩
end Go.Proofs.Ytbebbnkolpgndaa
