/- BytesOne: of any bytes that are read as a number, just these are written; numbers are in the order of their lengths and bytes. -/
import Derived.Test.YtmnaboeffdhhjaaAwake
import Derived.Test.YtmnaboeffdhhjaaLaws
import Derived.Deep.RegionWith
import Derived.Deep.RegionHeld3
import Derived.StillTailTactics
import Derived.Deep.CutBlock
import Derived.Deep.DeepCutAuto
namespace Go.Proofs.Ytmnaboeffdhhjaa
open Go.RowKit

theorem bytes_lt (x y : List UInt8) : Op.bytesLess x y = decide (x < y) := by
  induction x generalizing y with
  | nil => cases y <;> simp [Op.bytesLess]
  | cons a x ih =>
    cases y with
    | nil => simp [Op.bytesLess]
    | cons b y =>
      rw [Op.bytesLess, ih y, Bool.eq_iff_iff]
      simp [List.cons_lt_cons_iff]
theorem str_size (l : List UInt8) : (strOf l).size = l.length := by simp [strOf, ByteArray.size]
set_option maxRecDepth 100000 in
set_option maxHeartbeats 4000000 in
theorem one_any (A : Option Addr) (c : Nat) (b : List UInt8) (n0 m0 : Int) (w : World) (h : RB w w.heap.size A b) (hc : b.length ≤ c) (hl : b.length ≤ maxLen) :
    Calls Try.prog 7 #[.slice A b.length c, .int .i64 n0, .int .i64 m0] w (Holds w) := by
  unfold maxLen at hl
  by_cases hlong : 20 < b.length
  · go_enter Try.func7, Try.ntmps7
    go_wp2_with (go_at_call 9; refine (awake_any _).mono ?_; rintro e w1 ⟨rfl, hb⟩)
    go_ret
    exact ⟨rfl, hb⟩
  · obtain ⟨N, hN, hN1⟩ := u64_tmod n0 1099511627776 (by decide) (by decide)
    obtain ⟨M, hM, hM1⟩ := u64_tmod m0 1099511627776 (by decide) (by decide)
    have hN' : (IntKind.u64.wrap n0).tmod 1099511627776 = (N : Int) := hN
    have hM' : (IntKind.u64.wrap m0).tmod 1099511627776 = (M : Int) := hM
    clear hN hM
    go_enter Try.func7, Try.ntmps7
    go_upto_region 4 with fail
    clear hN' hM'
    go_cut [7, 8] (fun x y wx => x = .string (strOf (numL N)) ∧ y = .string (strOf (numL M)) ∧ Below w.heap.size w wx)
    case first => as_aux_lemma =>
      go_region_with (first
        | (go_at_call 10; (with_reducible refine (number_fresh N _ (by omega)).mono ?_); rintro e w1 ⟨A1, c1, L1, rfl, hL1, hc1, hr1, _, hb1⟩; have ks1 := run_str hr1 c1)
        | (go_at_call 10; (with_reducible refine (number_fresh M _ (by omega)).mono ?_); rintro e w2 ⟨A2, c2, L2, rfl, hL2, hc2, hr2, _, hb2⟩; have ks2 := run_str hr2 c2; have ks1' := run_str (hr1.below hb2 (Nat.le_refl _)) c1))
      all_goals
        go_wp2_with fail
        go_meet
        case rel => exact ⟨by rw [hL1.out], by rw [hL2.out], (Below.drew (Below.refl _ _)).trans (hb1.trans (hb2.mono hb1.size))⟩
    case rest =>
      obtain ⟨rfl, rfl, hb2⟩ := hcut
      have hord := numL_order N M
      obtain ⟨S1, hS1⟩ : ∃ S1, S1 = strOf (numL N) := ⟨_, rfl⟩
      obtain ⟨S2, hS2⟩ : ∃ S2, S2 = strOf (numL M) := ⟨_, rfl⟩
      have hz1 : (numL N).length = S1.size := by rw [hS1, str_size]
      have hz2 : (numL M).length = S2.size := by rw [hS2, str_size]
      have hbl : decide (numL N < numL M) = Op.bytesLess S1.data.toList S2.data.toList := by rw [hS1, hS2, bytes_lt]; rfl
      rw [← hS1, ← hS2]
      rw [hz1, hz2] at hord
      clear hS1 hS2 hz1 hz2
      rw [← ByteArray.toList_eq, ← ByteArray.toList_eq] at hbl
      generalize hbb : Op.bytesLess S1.toList S2.toList = bb at hbl
      have hcase : (N < M ∧ S1.size < S2.size) ∨ (M ≤ N ∧ S2.size < S1.size) ∨ (S1.size = S2.size ∧ N < M ∧ bb = true) ∨ (S1.size = S2.size ∧ M ≤ N ∧ bb = false) := by
        rw [← hbl]
        by_cases hlt : N < M
        · rcases hord.1 hlt with h1 | ⟨h1, h2⟩
          · exact .inl ⟨hlt, h1⟩
          · exact .inr (.inr (.inl ⟨h1, hlt, by simpa using h2⟩))
        · have hn := fun h => hlt (hord.2 h)
          rcases Nat.lt_trichotomy S1.size S2.size with h1 | h1 | h1
          · exact absurd (.inl h1) hn
          · exact .inr (.inr (.inr ⟨h1, by omega, decide_eq_false fun h2 => hn (.inr ⟨h1, h2⟩)⟩))
          · exact .inr (.inl ⟨by omega, h1⟩)
      clear hord hbl
      have hs2 := hb2.size
      have h2 := h.below hb2 (Nat.le_refl _)
      obtain ⟨w2, hw2⟩ : ∃ w2 : World, w2 = wc := ⟨_, rfl⟩
      subst hw2
      go_upto_region 5 with fail
      go_cut [50] (fun q wx => q = .bool false ∧ wx = w2)
      case first => as_aux_lemma =>
        rcases hcase with ⟨hNM, hsz⟩ | ⟨hNM, hsz⟩ | ⟨hsz, hNM, rfl⟩ | ⟨hsz, hNM, rfl⟩
        all_goals
          go_wp2_with fail
          go_meet
          case rel => exact ⟨by first | rfl | (rw [decide_eq_true hNM, decide_eq_true hsz]; rfl) | (rw [decide_eq_false (by omega : ¬ N < M), decide_eq_false (by omega : ¬ S1.size < S2.size)]; rfl) | (rw [decide_eq_false (by omega : ¬ N < M)]), rfl⟩
      case rest =>
        obtain ⟨rfl, rfl⟩ := hcut
        clear hcase hbb
        go_wp2_with fail
        refine (new_any w.heap.size A c b _ h2 hs2 (by omega)).mono ?_
        rintro e w3 ⟨p, B, rfl, hp, hrd, hB, hb3⟩
        have hb4 := hb2.trans (hb3.mono hs2)
        clear hb2 hb3 h2
        go_wp2_with fail
        refine (number_any p B b 0 1099511627776 _ hrd).mono ?_
        rintro e w4 ⟨rfl, hrd4, ht4⟩
        have hb5 := hb4.trans (ht4.below (by omega) hb4.size)
        have h5 := h.below hb5 (Nat.le_refl _)
        have hs5 := hb5.size
        clear hb4 ht4 hrd
        cases hrr : readL b 1099511627776 with
        | none =>
          have e4 : numStep (b, 0) 1099511627776 = (0, (b, 5)) := by simp [numStep, hrr]
          rw [e4] at hrd4 ⊢
          clear e4 hrr
          go_wp2_with (first | (go_at_call 20; refine (err_any p B _ _ _ hrd4).mono ?_; rintro e w' ⟨rfl, rfl⟩) | (go_at_call 19; refine (left_any p B _ _ _ hrd4).mono ?_; rintro e w' ⟨rfl, rfl⟩) | (go_at_call 9; refine (awake_any _).mono ?_; rintro e w10 ⟨rfl, hb10⟩))
          go_ret
          exact ⟨rfl, hb5.trans (hb10.mono hs5)⟩
        | some x =>
          obtain ⟨k, z⟩ := x
          have e4 : numStep (b, 0) 1099511627776 = ((k : Int), (b.drop z, 0)) := by simp [numStep, hrr]
          rw [e4] at hrd4 ⊢
          obtain ⟨hz1, hz6, hzl, hzk, hk, _⟩ := read_back b _ k z hrr
          clear e4 hrr
          have HZ := Lib.hid hzk
          have hzlen : (numL k).length = z := by rw [← hzk]; simp; omega
          have HZL := Lib.hid hzlen
          obtain ⟨R, hR⟩ : ∃ R, R = b.drop z := ⟨_, rfl⟩
          have hRl : R.length + z = b.length := by rw [hR]; simp; omega
          rw [← hR] at hrd4
          obtain ⟨ad, rfl, _⟩ := h5 (by omega)
          clear hzk hzlen hR
          go_wp2_with (first | (go_at_call 20; refine (err_any p B _ _ _ hrd4).mono ?_; rintro e w' ⟨rfl, rfl⟩) | fail)
          refine (number_fresh k _ (by omega)).mono ?_
          rintro e w6 ⟨A6, c6, L6, rfl, hL6, hc6, hr6, _, hb6⟩
          have hb7 := hb5.trans (hb6.mono hs5)
          have hs7 := hb7.size
          have hrd6 := hrd4.below hb6
          have h7 := (h5.below hb6 hs5).take z
          have hzl6 : L6.length = z := by rw [hL6.out]; exact HZL.out
          have hLz : b.take z = L6 := by rw [hL6.out]; exact HZ.out
          rw [hLz] at h7
          have ks1 := run_str hr6.drew c6
          have ks2 := run_str h7.drew c
          have Hzl6 := Lib.hid hzl6
          have i3 : L6.length ≤ c := by omega
          have i0 : L6.length ≤ b.length := by omega
          have i1 : decide (L6.length ≤ b.length) = true := decide_eq_true i0
          have i2 : IntKind.i64.wrap ((b.length : Int) - (R.length : Int)) = (L6.length : Int) := by rw [IntWalk.i64_in _ (by omega)]; omega
          clear hLz hzl6
          go_upto_region 12 with fail
          have hr8 := hr6.below (Below.refl w6.heap.size w6).drew (Nat.le_refl _)
          go_region_held3 (fun w' => (convert 22 9 (.slice A6 L6.length c6)).run Try.prog w' = .ok (.string (strOf L6)) w' ∧ (convert 22 9 (.slice (some ad) L6.length c)).run Try.prog w' = .ok (.string (strOf L6)) w')
            (first
              | exact ⟨ks1, ks2⟩
              | exact ⟨run_str hr6 c6, run_str h7 c⟩
              | exact ⟨run_str (hr6.drew.below hb10 (Nat.le_refl _)) c6, run_str (h7.drew.below hb10 hs7) c⟩)
            (first
              | (go_at_call 19; refine (left_any p B _ _ _ hrd6.drew).mono ?_; rintro e w' ⟨rfl, rfl⟩)
              | (go_at_call 9; refine (awake_any _).mono ?_; rintro e w10 ⟨rfl, hb10⟩))
          all_goals
            go_wp2
            go_ret
            exact ⟨rfl, hb7.drew.trans (hb10.mono hs7)⟩
end Go.Proofs.Ytmnaboeffdhhjaa
