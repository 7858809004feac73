/- A pool: suits. -/
import Derived.Test.YtnadcdgpfopcaaaGreatPoI1
namespace Go.Proofs.YtnadcdgpfopcaaaGreat
open Go.RowKit

section
variable {w w' V : World} {p c l f : Nat} {x y X Y Z : Nat → Prop} {Q Q1 : PS} {T : List Fd} {S : LS}
set_option maxRecDepth 100000 in
set_option maxHeartbeats 4000000 in
theorem q_suits (B P Sp K U bad : Int) (h : Held w c x S) (h1 : 1 ≤ S.bl.length) (h2 : S.bl.length ≤ 1000) (hbd : (Lit.int .i64 bad).wf = true) (hf : FitsP B P Sp K U bad) (hB : (S.bl.length : Int) = B) (hP : ((S.bl[0]'h1).pages.length : Int) = P) (hb : bad ≤ (badB S.bl : Int)) : Calls Tryz.prog 61 #[.pointer (some ⟨c, 0, none⟩), .agg #[.int .i64 B, .int .i64 P, .int .i64 Sp, .int .i64 K, .int .i64 U], .int .i64 bad] w fun e w' => e = .returned (.bool true) ∧ Below w.heap.size w w' := by
  subst hB
  obtain ⟨np, hnp⟩ : ∃ np, (S.bl[0]'h1).pages.length = np := ⟨_, rfl⟩
  rw [hnp] at hP
  subst hP
  obtain ⟨ln, hln⟩ : ∃ ln, S.bl.length = ln := ⟨_, rfl⟩
  have HLN := Lib.hid hln
  rw [hln] at hf ⊢
  obtain ⟨W, hW⟩ : ∃ W, w.alloc (.cells #[.int .i64 ln, .int .i64 np, .int .i64 Sp, .int .i64 K, .int .i64 U] 23) = W := ⟨_, rfl⟩
  have HBW : Hid (Below w.heap.size w W) := Lib.hid (by rw [← hW]; exact (Below.refl _ _).alloc (Nat.le_refl _) _)
  have HX : Hid (W.heap[w.heap.size]? = some (.cells #[.int .i64 ln, .int .i64 np, .int .i64 Sp, .int .i64 K, .int .i64 U] 23 (0, 0))) := Lib.hid (by rw [← hW]; exact heap_alloc_new _ _)
  have HLT := Lib.hid (lt_size HX.out)
  have HH : Hid (Held W c x S) := Lib.hid (h.below HBW.out)
  have HF : Hid (decide (FitsP ln np Sp K U bad) = true) := Lib.hid (decide_eq_true hf)
  have HP2 := Lib.hid hnp
  have hl0 : 0 < ln := by omega
  have hl1 : (0 : Int) < (ln : Int) := by omega
  have hl2 : ¬ (ln : Int) ≤ 0 := by omega
  clear hnp hln
  have HBB := Lib.hid hb
  have HKC : Hid (∀ V, Below W.heap.size W V → V.cell? ⟨w.heap.size, 0, none⟩ = some (.int .i64 ln) ∧ V.cell? ⟨w.heap.size, 1, none⟩ = some (.int .i64 np) ∧ V.cell? ⟨w.heap.size, 2, none⟩ = some (.int .i64 Sp) ∧ V.cell? ⟨w.heap.size, 3, none⟩ = some (.int .i64 K) ∧ V.cell? ⟨w.heap.size, 4, none⟩ = some (.int .i64 U)) := Lib.hid fun V hV => cells5 ((hV.block _ HLT.out).trans HX.out)
  clear h hf hb
  go_enter Tryz.func61, Tryz.ntmps61
  go_upto_region 2 with (go_at_call 21; (with_reducible refine (held_blocks_n HH.out h1).mono ?_); rintro e w2 ⟨g, cap, rfl, k1, k2, k3⟩; rw [HLN.out]; have HBL := Lib.hid k1; have HNL := Lib.hid k2; have HB2 := Lib.hid k3; clear k1 k2 k3)
  obtain ⟨A9, c9, hn9⟩ := HNL.out g 0 rfl 0 h1
  rw [HP2.out] at hn9
  have hn9 : w2.cell? ⟨g, 3, none⟩ = some (.slice A9 np c9) := by simpa using hn9
  have HGL := Lib.hid (lt_of_cell hn9)
  obtain ⟨q0, q1, q2, q3, q4⟩ := HKC.out w2 HB2.out
  have HN9 := Lib.hid hn9
  have HKEEP : Hid (∀ V, Below w2.heap.size w2 V → V.cell? ⟨w.heap.size, 0, none⟩ = some (.int .i64 ln) ∧ V.cell? ⟨w.heap.size, 1, none⟩ = some (.int .i64 np) ∧ V.cell? ⟨w.heap.size, 2, none⟩ = some (.int .i64 Sp) ∧ V.cell? ⟨w.heap.size, 3, none⟩ = some (.int .i64 K) ∧ V.cell? ⟨w.heap.size, 4, none⟩ = some (.int .i64 U) ∧ V.cell? ⟨g, 3, none⟩ = some (.slice A9 np c9)) := Lib.hid fun V hV => by
    obtain ⟨a0, a1, a2, a3, a4⟩ := HKC.out V (HB2.out.trans (hV.mono HB2.out.size))
    exact ⟨a0, a1, a2, a3, a4, (hV.cell (p := ⟨g, 3, none⟩) HGL.out).trans HN9.out⟩
  have badln : ∀ V, Below w2.heap.size w2 V → Calls Tryz.prog 36 #[.slice (some ⟨g, 0, none⟩) ln cap] V fun e w' => e = .returned (.int .i64 (badB S.bl : Int)) ∧ Below V.heap.size V w' := fun V hV => by
    have := bad_any (some ⟨g, 0, none⟩) cap S.bl V h2 (HBL.out.below hV)
    rw [HLN.out] at this
    exact this
  clear hW
  go_region_held3 (fun V => V.cell? ⟨w.heap.size, 0, none⟩ = some (.int .i64 ln) ∧ V.cell? ⟨w.heap.size, 1, none⟩ = some (.int .i64 np) ∧ V.cell? ⟨w.heap.size, 2, none⟩ = some (.int .i64 Sp) ∧ V.cell? ⟨w.heap.size, 3, none⟩ = some (.int .i64 K) ∧ V.cell? ⟨w.heap.size, 4, none⟩ = some (.int .i64 U) ∧ V.cell? ⟨g, 3, none⟩ = some (.slice A9 np c9))
    (first | exact ⟨q0, q1, q2, q3, q4, hn9⟩ | exact HQ3.out | exact HQ4.out)
    (first
      | (go_at_call 100; (with_reducible refine (fitsp_any ln np Sp K U bad _ hbd).mono ?_); rintro e w3 ⟨rfl, k3⟩; rw [HF.out]; have HB3 : Hid (Below w2.heap.size w2 w3) := Lib.hid ((Below.refl _ _).drew.trans k3); have HQ3 := Lib.hid (HKEEP.out w3 HB3.out); clear k3)
      | (go_at_call 36; (with_reducible refine (badln _ HB3.out).mono ?_); rintro e w4 ⟨rfl, k4⟩; have HB4 : Hid (Below w2.heap.size w2 w4) := Lib.hid (HB3.out.trans (k4.mono HB3.out.size)); have HQ4 := Lib.hid (HKEEP.out w4 HB4.out); clear k4))
  go_wp2_with fail
  go_ret
  have k1 : Below w.heap.size w w2 := HBW.out.trans (HB2.out.mono HBW.out.size)
  exact ⟨by rw [decide_eq_true HBB.out]; rfl, k1.trans (HB4.out.mono k1.size)⟩
end
end Go.Proofs.YtnadcdgpfopcaaaGreat
