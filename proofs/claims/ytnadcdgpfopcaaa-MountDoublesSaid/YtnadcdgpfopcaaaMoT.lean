/- A scan that there isn't; MountNil's walk. -/
import Derived.Test.YtnadcdgpfopcaaaMoS
namespace Go.Proofs.Ytnadcdgpfopcaaa
open Go.RowKit Go.Maps Go.Shelf

attribute [local go_sem] Oper.semAt_some
section
variable {w w' W w1 : World} {s c cap : Nat} {x y Y X : Nat → Prop} {v : Value} {A : Option Addr} {M : MS}
set_option maxRecDepth 100000 in
theorem m_found_nil (w : World) : Calls Try.prog 19 #[.pointer none] w (FPost [] w) := by
  go_enter Try.func19, Try.ntmps19
  go_wp2_with (go_at_call 39; refine (m_through_nil _).mono ?_; rintro e w1 ⟨rfl, nq, rfl⟩)
  go_ret
  exact ⟨none, 0, rfl, fun h => absurd h (by simp), fun _ e => (by cases e), fun _ => ⟨rfl, rfl⟩, drewN_below (Below.refl _ _) _⟩
set_option maxRecDepth 100000 in
set_option maxHeartbeats 2000000 in
theorem m_seq_nil (w : World) : Calls Try.prog 18 #[.pointer none] w fun e w' => e = .returned (.int .i64 0) ∧ Below w.heap.size w w' := by
  have HF := Lib.hid (m_found_nil w)
  obtain ⟨l, hl⟩ : ∃ l : List Fd, [] = l := ⟨_, rfl⟩
  have HL0 := Lib.hid hl
  have hlen : l.length ≤ 5000 := by rw [← hl]; simp
  rw [hl] at HF
  clear hl
  go_enter Try.func18, Try.ntmps18
  go_wp2_with (go_at_call 19; refine HF.out.mono ?_; rintro e w2 ⟨A2, c2, rfl, g1, -, -, g4⟩; have G1 := Lib.hid g1; have G4 := Lib.hid g4; clear g1 g4)
  go_loopw [3, 9] (fun v3 v9 wr => ∃ j : Nat, j ≤ l.length ∧ v9 = .int .i64 j ∧ v3 = .int .i64 (seqL (l.take j)) ∧ Below w2.heap.size w2 wr) (fun _ v9 _ => l.length - (intOf v9).toNat)
  case atStart => exact ⟨0, Nat.zero_le _, rfl, rfl, Below.refl _ _⟩
  case round =>
    obtain ⟨j, hj, rfl, rfl, hb⟩ := hrel
    have HB := Lib.hid hb
    clear hb
    by_cases hlt : j < l.length
    · obtain ⟨B, o, rfl, hB, hc⟩ := G1.out (by omega)
      obtain ⟨k0, k1, k2, k3⟩ := hc j hlt
      have kk : ∀ a u, w2.cell? ⟨B, a, none⟩ = some u → wr.cell? ⟨B, a, none⟩ = some u := fun a u e => (HB.out.cell (p := ⟨B, a, none⟩) hB).trans e
      have r0 := kk _ _ k0
      have r1 := kk _ _ k1
      have r2 := kk _ _ k2
      have r3 := kk _ _ k3
      have HS := Lib.hid (seqL_take hlt)
      obtain ⟨m, hm⟩ : ∃ m, seqL (l.take j) = m := ⟨_, rfl⟩
      rw [hm] at HS ⊢
      generalize l[j] = fd at *
      clear k0 k1 k2 k3 hc kk hm
      rcases Int.le_total m fd.1.2 with hmx | hmx
      all_goals
        go_wp2_with fail
        go_roundw
        case rel => exact ⟨j + 1, by omega, by go_num, by first | (rw [HS.out, Int.max_eq_right hmx]; done) | (rw [HS.out, Int.max_eq_left hmx]; done) | (rw [HS.out]; done), HB.out.alloc HB.out.size _⟩
        case measure => simp [intOf]; omega
    · obtain rfl : j = l.length := by omega
      go_wp2
      go_ret
      exact ⟨by rw [← HL0.out]; rfl, G4.out.trans (HB.out.mono G4.out.size)⟩
set_option maxRecDepth 100000 in
set_option maxHeartbeats 2000000 in
theorem m_root_nil (w : World) : Calls Try.prog 17 #[.pointer none] w fun e w' => e = .returned (.tuple #[.agg #[.int .i64 0, .int .i64 0, .slice none 0 0], .bool false]) ∧ Below w.heap.size w w' := by
  have HB0 := Lib.hid ((Below.refl w.heap.size w).alloc (Nat.le_refl _) (.cells #[.int .i64 0, .int .i64 0, .slice none 0 0] 28))
  have HXN : Hid (∀ n, ((w.alloc (.cells #[.int .i64 0, .int .i64 0, .slice none 0 0] 28)).drewN n).heap[w.heap.size]? = some (.cells #[.int .i64 0, .int .i64 0, .slice none 0 0] 28 (0, 0))) := Lib.hid fun n => ((drewN_below (Below.refl (w.alloc (.cells #[.int .i64 0, .int .i64 0, .slice none 0 0] 28)).heap.size _) n).block w.heap.size (by simp)).trans (heap_alloc_new w _)
  go_enter Try.func17, Try.ntmps17
  go_wp2_with (go_at_call 39; refine (m_through_nil _).mono ?_; rintro e w1 ⟨rfl, nq, rfl⟩)
  refine bodyPost_ret (results_pair rfl _ _ w.heap.size _ _ rfl rfl (load_sheet (block_set3 (HXN.out nq)))) rfl ?_
  exact ⟨rfl, (((drewN_below HB0.out nq).setCell (Nat.le_refl _) _).setCell (Nat.le_refl _) _).setCell (Nat.le_refl _) _⟩
def nS0 : LS := madeS 2 2 []
def nS1 : LS := { nS0 with c := behindS 0, keep := max 0 0 }
theorem nS_dark : (progL nS1 0 0 [1]).2.dark = true := by kernel_rfl
theorem nS_len : nS0.bl.length = 2 := by kernel_rfl
set_option maxRecDepth 100000 in
set_option maxHeartbeats 4000000 in
theorem nil_law (n : Int) (A1 : Option Addr) (c1 k : Nat) (w : World) : Calls Try.prog 4 #[.int .i64 n, .slice A1 k c1] w fun e w' => e = .returned (.bool true) ∧ Below w.heap.size w w' := by
  go_enter Try.func4, Try.ntmps4
  by_cases hk : 60 < k
  · go_wp2_with (go_at_call 9; refine (awake_any _).mono ?_; rintro e w1 ⟨rfl, hb1⟩; have HB1 := Lib.hid hb1; clear hb1)
    go_ret
    exact ⟨rfl, HB1.out⟩
  · go_wp2_with (first
      | (go_at_call 15; refine (m_step_nil n _).mono ?_; rintro e w1 ⟨rfl, hb1⟩; have HB1 := Lib.hid hb1; have hs1 := hb1.size; clear hb1)
      | fail)
    go_wp2_with (first
      | (go_at_call 17; refine (m_root_nil _).mono ?_; rintro e w2 ⟨rfl, hb2⟩; have HB2 := Lib.hid (HB1.out.trans ((hb2.alloc hb2.size (.cells #[.int .i64 0, .int .i64 0, .slice none 0 0] 28)).mono hs1)); clear hb2)
      | fail)
    go_wp2_with (first
      | (go_at_call 16; refine (m_pick_nil _ _).mono ?_; rintro e w3 ⟨A3, c3, rfl, -, -, -, hb3⟩; have HB3 := Lib.hid (HB2.out.trans (hb3.mono HB2.out.size)); clear hb3)
      | fail)
    go_wp2_with (first
      | (go_at_call 14; refine (m_new_nil _).mono ?_; rintro e w4 ⟨rfl, hw4⟩; obtain rfl := hw4)
      | (go_at_call 18; refine (m_seq_nil _).mono ?_; rintro e w5 ⟨rfl, hb5⟩; have HB5 := Lib.hid (HB3.out.trans (hb5.mono HB3.out.size)); clear hb5)
      | (go_at_call 19; refine (m_found_nil _).mono ?_; rintro e w6 ⟨A6, c6, rfl, -, -, -, hb6⟩; have HB6 := Lib.hid (HB5.out.trans (hb6.mono HB5.out.size)); clear hb6)
      | fail)
    have hs6 := HB6.out.size
    clear HB1 HB2 HB3 HB5
    go_wp2_with (go_at_call 11; refine (held_new 2 2 none 0 [] (fun h => absurd h (by simp)) (by simp) (by decide) (by decide) (by decide) (by decide)).mono ?_; rintro e w7 ⟨c, rfl, hH, hB7⟩; have HH := Lib.hid hH; have HB7 := Lib.hid hB7; have hs7 := hB7.size; clear hH hB7)
    go_wp2_with (go_at_call 14; refine (m_new (S := nS0) HH.out (by rw [nS_len]; decide)).mono ?_; rintro e w8 ⟨s, rfl, hsc, hb8⟩; have HSC := Lib.hid hsc; have HB8 := Lib.hid hb8; have hs8 := hb8.size; clear hsc hb8)
    obtain ⟨Y, v, A, cap, h8, f8⟩ := HSC.out
    have hY : ∀ b, b < w.heap.size → Y b := fun b hb => (f8 b (.inl (by omega))).1
    have H8 := Lib.hid h8
    have HY := Lib.hid hY
    clear h8 f8 hY HSC
    go_wp2_with (go_at_call 15; refine (m_step_arg 0 H8.out.parts (by decide)).mono ?_; rintro e w9 ⟨rfl, hb9⟩; have HB9 := Lib.hid hb9; have hs9 := hb9.size; clear hb9)
    have h9 := H8.out.grow (F := fun _ => False) (.of_below HB9.out) fun _ k => k.elim
    have H9 := Lib.hid h9
    have HW9 : Hid (Below w.heap.size w w9) := Lib.hid (HB6.out.trans (((HB7.out.trans (HB8.out.mono hs7)).trans (HB9.out.mono (by omega))).mono hs6))
    clear h9
    go_wp2_with (go_at_call 20; refine (held_cut 0 0 (by decide) H9.out.chip).mono ?_; rintro e w10 ⟨rfl, hh10, hs10⟩; have HH10 := Lib.hid hh10; have HS10 := Lib.hid hs10; have hz10 := hs10.size; clear hh10 hs10)
    have h10 := H9.out.chip_op (z := fun _ => False) (HH10.out.less fun b hb => hb.elim id False.elim) HS10.out
    have H10 := Lib.hid h10
    have HW10 : Hid (Below w.heap.size w w10) := Lib.hid ⟨HS10.out.os.trans HW9.out.os, HS10.out.tape.trans HW9.out.tape, HS10.out.output.trans HW9.out.output, by have := HW9.out.size; omega, fun b hb => (HS10.out.block (by have := HW9.out.size; omega) (.inl (HY.out b hb))).trans (HW9.out.block b hb)⟩
    clear h10
    obtain ⟨W11, hW11⟩ : ∃ W11, W11 = w10.alloc (.cells #[.int .u8 1] 5) := ⟨_, rfl⟩
    have hb11 : Below w10.heap.size w10 W11 := by rw [hW11]; exact (Below.refl _ _).alloc (Nat.le_refl _) _
    have hz11 : W11.heap.size = w10.heap.size + 1 := by rw [hW11]; simp
    have H11 := Lib.hid (H10.out.grow (F := fun _ => False) (.of_below hb11) fun _ k => k.elim)
    have HW11 : Hid (Below w.heap.size w W11) := Lib.hid (HW10.out.trans (hb11.mono HW10.out.size))
    have hx11 : W11.heap[w10.heap.size]? = some (.cells #[.int .u8 1] 5 (0, 0)) := by rw [hW11]; exact heap_alloc_new _ _
    have HCB : Hid (CB W11 (fun b => ((Y b ∨ New w8 w9 b) ∨ False) ∨ New w10 W11 b) (some ⟨w10.heap.size, 0, none⟩) [1]) := Lib.hid fun _ => ⟨_, rfl, .inr ⟨Nat.le_refl _, by show w10.heap.size < W11.heap.size; omega⟩, fun j hj => by
      obtain rfl : j = 0 := by simpa using hj
      simp [World.cell?, Addr.add, hx11]; rfl⟩
    clear hb11 hx11
    go_wp2_with fail
    rw [← hW11]
    clear hW11
    refine (held_prog _ 1 [1] 0 0 H11.out.chip HCB.out).mono ?_
    rintro e w12 ⟨rfl, hh12, hs12⟩
    have h12 := H11.out.chip_op (z := fun _ => False) (hh12.less fun b hb => hb.elim id False.elim) hs12
    have H12 := Lib.hid h12
    have hz12 := hs12.size
    have HW12 : Hid (Below w.heap.size w w12) := Lib.hid ⟨hs12.os.trans HW11.out.os, hs12.tape.trans HW11.out.tape, hs12.output.trans HW11.out.output, by have := HW11.out.size; omega, fun b hb => (hs12.block (by have := HW11.out.size; omega) (.inl (.inl (.inl (HY.out b hb))))).trans (HW11.out.block b hb)⟩
    clear hh12 hs12 h12
    go_wp2_with (first
      | (go_at_call 15; refine (m_step_dark 1 H12.out (by decide) nS_dark).mono ?_; rintro e w13 ⟨rfl, hb13⟩; have HB13 := Lib.hid (HW12.out.trans (hb13.mono HW12.out.size)); clear hb13)
      | (go_at_call 9; refine (awake_any _).mono ?_; rintro e w14 ⟨rfl, hb14⟩; have HB14 := Lib.hid (HB13.out.trans (hb14.mono HB13.out.size)); clear hb14)
      | fail)
    go_ret
    exact ⟨rfl, HB14.out⟩
end
end Go.Proofs.Ytnadcdgpfopcaaa
