/- A pool: Open of what has nothing live. -/
import Derived.Test.YtnadcdgpfopcaaaGreatPoI3
namespace Go.Proofs.YtnadcdgpfopcaaaGreat
open Go.RowKit

section
variable {w w' V : World} {p c l f : Nat} {x y X Y Z : Nat → Prop} {Q Q1 : PS} {T : List Fd} {S : LS}
set_option maxRecDepth 100000 in
set_option maxHeartbeats 6000000 in
theorem q_open0 (B P Sp K U bad seq : Int) (h : Held w c x S) (h1 : 1 ≤ S.bl.length) (h2 : S.bl.length ≤ 1000) (hbd : (Lit.int .i64 bad).wf = true) (hf : FitsP B P Sp K U bad) (hB : (S.bl.length : Int) = B) (hP : ((S.bl[0]'h1).pages.length : Int) = P) (hb : bad ≤ (badB S.bl : Int)) (hs : 0 ≤ seq ∧ seq ≤ 1099511627776) (hdk : S.dark = false) : Calls Tryz.prog 27 #[.pointer (some ⟨c, 0, none⟩), .agg #[.int .i64 B, .int .i64 P, .int .i64 Sp, .int .i64 K, .int .i64 U], .int .i64 bad, .slice none 0 0, .int .i64 seq] w fun e w' => ∃ p, ∃ l f w5 w6, e = .returned (.tuple #[.pointer (some ⟨p, 0, none⟩), .int .i64 0]) ∧ Below w.heap.size w w5 ∧ Tab w5 l (fun b => b < w.heap.size) [] ∧ Below w5.heap.size w5 w6 ∧ Tab w6 f (fun b => b < w5.heap.size) [] ∧ Below w6.heap.size w6 w' ∧ w6.heap.size ≤ p ∧ w'.heap[p]? = some (.cells #[.pointer (some ⟨c, 0, none⟩), .int .i64 B, .int .i64 P, .int .i64 Sp, .int .i64 K, .int .i64 U, .int .i64 bad, .pointer (some ⟨l, 0, none⟩), .pointer (some ⟨f, 0, none⟩), .int .i64 seq, .int .i64 (-1), .bool false] 92 (0, 0)) := by
  obtain ⟨W, hW⟩ : ∃ W, w.alloc (.cells #[.int .i64 B, .int .i64 P, .int .i64 Sp, .int .i64 K, .int .i64 U] 23) = W := ⟨_, rfl⟩
  have HBW : Hid (Below w.heap.size w W) := Lib.hid (by rw [← hW]; exact (Below.refl _ _).alloc (Nat.le_refl _) _)
  have HX : Hid (W.heap[w.heap.size]? = some (.cells #[.int .i64 B, .int .i64 P, .int .i64 Sp, .int .i64 K, .int .i64 U] 23 (0, 0))) := Lib.hid (by rw [← hW]; exact heap_alloc_new _ _)
  have HLT := Lib.hid (lt_size HX.out)
  have HH := Lib.hid h
  have hs1 := hs.1
  have hs2 := hs.2
  have hs3 : ¬ seq < 0 := by omega
  have hs4 : ¬ 1099511627776 < seq := by omega
  have HDK := Lib.hid hdk
  have HSU : Hid (∀ V, Below w.heap.size w V → Calls Tryz.prog 61 #[.pointer (some ⟨c, 0, none⟩), .agg #[.int .i64 B, .int .i64 P, .int .i64 Sp, .int .i64 K, .int .i64 U], .int .i64 bad] V fun e w' => e = .returned (.bool true) ∧ Below V.heap.size V w') := Lib.hid fun V hV => q_suits B P Sp K U bad (h.below hV) h1 h2 hbd hf hB hP hb
  have hrefs : ∀ V : World, Calls Tryz.prog 63 #[.slice none 0 0] V fun e w' => ∃ A' m', e = .returned (.slice A' 0 m') ∧ RLies w' A' [] ∧ Below V.heap.size V w' := fun V => by
    refine (q_refs none 0 [] V (fun k => absurd k (Nat.lt_irrefl _)) (by simp)).mono ?_
    rintro e w3 ⟨A3, m3, rfl, k1, -, -, k2⟩
    exact ⟨A3, m3, rfl, k1, k2⟩
  have htwice : ∀ (V : World) (A3 : Option Addr) (m3 : Nat), RLies V A3 [] → Calls Tryz.prog 62 #[.slice A3 0 m3] V fun e w' => e = .returned (.bool false) ∧ Below V.heap.size V w' := fun V A3 m3 h => by
    refine (q_twice A3 m3 [] V h (by simp) (fun r hr => nomatch hr)).mono ?_
    rintro e w3 ⟨rfl, k2⟩
    exact ⟨rfl, k2⟩
  obtain ⟨a0, a1, a2, a3, a4⟩ := cells5 HX.out
  clear h hf hB hP hb hs hdk
  go_enter Tryz.func27, Tryz.ntmps27
  go_wp2_with (first
    | (go_at_call 61; (with_reducible refine (HSU.out _ HBW.out).mono ?_); rintro e w2 ⟨rfl, k2⟩; have HB2 := Lib.hid k2; clear k2)
    | (go_at_call 63; (with_reducible refine (hrefs _).mono ?_); rintro e w3 ⟨A3, m3, rfl, k1, k2⟩; have HB3 := Lib.hid k2; have HR3 := Lib.hid k1; clear k1 k2)
    | (go_at_call 62; (with_reducible refine (htwice _ A3 m3 HR3.out).mono ?_); rintro e w4 ⟨rfl, k2⟩; have HB4 := Lib.hid k2; clear k2)
    | (go_at_call 43; (with_reducible refine (newT_any _).mono ?_); rintro e w5 ⟨t, rfl, ht, k2⟩; have HT5 := Lib.hid ht; have HB5 := Lib.hid k2; clear ht k2))
  have HBW5 : Hid (Below W.heap.size W w5) := Lib.hid (HB2.out.trans ((HB3.out.trans ((HB4.out.trans (HB5.out.mono HB4.out.size)).mono HB3.out.size)).mono HB2.out.size))
  have HB25 : Hid (Below w.heap.size w w5) := Lib.hid (HBW.out.trans (HBW5.out.mono HBW.out.size))
  have HKC : Hid (∀ V, Below w5.heap.size w5 V → V.cell? ⟨w.heap.size, 0, none⟩ = some (.int .i64 B) ∧ V.cell? ⟨w.heap.size, 1, none⟩ = some (.int .i64 P) ∧ V.cell? ⟨w.heap.size, 2, none⟩ = some (.int .i64 Sp) ∧ V.cell? ⟨w.heap.size, 3, none⟩ = some (.int .i64 K) ∧ V.cell? ⟨w.heap.size, 4, none⟩ = some (.int .i64 U)) := Lib.hid fun V hV => cells5 (((HBW5.out.trans (hV.mono HBW5.out.size)).block _ HLT.out).trans HX.out)
  refine wp_loop_rounds 1 ?_
  rw [rounds_succ]
  go_upto_region 13 with (go_at_call 18; (with_reducible refine (held_down (HH.out.below HB25.out)).mono ?_); rintro e w7 ⟨rfl, hw7⟩; subst w7; rw [HDK.out])
  obtain ⟨q0, q1, q2, q3, q4⟩ := HKC.out w5 (Below.refl _ _)
  clear hW
  go_region_held3 (fun V => V.cell? ⟨w.heap.size, 0, none⟩ = some (.int .i64 B) ∧ V.cell? ⟨w.heap.size, 1, none⟩ = some (.int .i64 P) ∧ V.cell? ⟨w.heap.size, 2, none⟩ = some (.int .i64 Sp) ∧ V.cell? ⟨w.heap.size, 3, none⟩ = some (.int .i64 K) ∧ V.cell? ⟨w.heap.size, 4, none⟩ = some (.int .i64 U))
    (first | exact ⟨q0, q1, q2, q3, q4⟩ | exact HK6.out | exact HKC.out _ (HB6.out.alloc HB6.out.size _))
    (first | (go_at_call 43; (with_reducible refine (newT_any _).mono ?_); rintro e w6 ⟨t6, rfl, ht, k2⟩; have HT6 := Lib.hid ht; have HB6 : Hid (Below w5.heap.size w5 w6) := Lib.hid ((Below.refl _ _).drew.trans k2); have HK6 := Lib.hid (HKC.out w6 HB6.out); clear ht k2))
  go_wp2_with fail
  go_ret2
  refine ⟨w6.heap.size, t, t6, w5, w6, rfl, HB25.out, ?_, HB6.out, ?_, ?_, Nat.le_refl _, ?_⟩
  · exact HT5.out.less fun b k => Nat.lt_of_lt_of_le k (Nat.le_trans HBW.out.size (Nat.le_trans HB2.out.size (Nat.le_trans HB3.out.size HB4.out.size)))
  · exact HT6.out
  · exact (Below.refl _ _).alloc (Nat.le_refl _) _
  · exact heap_alloc_new _ _
end
end Go.Proofs.YtnadcdgpfopcaaaGreat
