/- The laws of package place: awake; PlaceNil. -/
import Derived.Test.YtbebbnkolpgndaaPlcLand
namespace Go.Proofs.Ytbebbnkolpgndaa
open Go.RowKit

/-- The law's answer: yes; what was there has not turned. -/
def Holds (w : World) (e : Ending) (w' : World) : Prop := e = .returned (.bool true) ∧ Below w.heap.size w w'
theorem Safe.low {w w' : World} {B : Nat} {x : Nat → Prop} (h : Safe x w w') (hx : ∀ b, b < B → x b) (hB : B ≤ w.heap.size) : Below B w w' := Safe.below h hx hB
theorem cells2p {w : World} {p : Nat} {a b : Value} {t : TypeId} (h : w.heap[p]? = some (.cells #[a, b] t (0, 0))) : w.cell? ⟨p, 0, none⟩ = some a ∧ w.cell? ⟨p, 1, none⟩ = some b := by
  simp [World.cell?, h]
theorem cells5p {w : World} {p : Nat} {a b c d e : Value} {t : TypeId} (h : w.heap[p]? = some (.cells #[a, b, c, d, e] t (0, 0))) : w.cell? ⟨p, 0, none⟩ = some a ∧ w.cell? ⟨p, 1, none⟩ = some b ∧ w.cell? ⟨p, 2, none⟩ = some c ∧ w.cell? ⟨p, 3, none⟩ = some d ∧ w.cell? ⟨p, 4, none⟩ = some e := by
  simp [World.cell?, h]
theorem flies_first {w : World} {A : Option Addr} {f : Fd} {l : List Fd} (h : FLies w A (f :: l)) : ∃ B o, A = some ⟨B, o, none⟩ ∧ w.cell? ⟨B, o, none⟩ = some (.int .i64 f.1.1) := by
  obtain ⟨B, o, e, hB, hc⟩ := h (by simp)
  have h0 := (hc 0 (by simp)).1
  rw [Nat.zero_mul, Nat.add_zero] at h0
  exact ⟨B, o, e, h0⟩
set_option maxRecDepth 100000 in
set_option maxHeartbeats 4000000 in
theorem awake_any (w : World) : Calls Try.prog 8 #[] w (Holds w) := by
  go_enter Try.func8, Try.ntmps8
  go_wp2_with fail
  refine (newT_any w).mono ?_
  rintro e w1 ⟨p, rfl, h1, hb1⟩
  have H1 := Lib.hid h1
  have HB1 := Lib.hid hb1
  have hs1 := hb1.size
  clear h1 hb1
  go_wp2_with fail
  refine (putT_any (1, 2) (3, 1) H1.out (by decide) ⟨by decide, by decide⟩ ⟨by decide, by decide⟩).mono ?_
  rintro e w2 ⟨rfl, h2, hs2⟩
  rw [show canT [] (1, 2) (3, 1) = true by decide]
  rw [show putT [] (1, 2) (3, 1) = [((1, 2), (3, 1))] by decide] at h2
  have H2 := Lib.hid h2
  have HB2 := Lib.hid (HB1.out.trans (Safe.below hs2 (fun b hb => hb) hs1))
  have hs2' := HB2.out.size
  clear h2 hs2
  go_wp2_with fail
  refine (putT_any (2, 1) (3, 1) H2.out (by decide) ⟨by decide, by decide⟩ ⟨by decide, by decide⟩).mono ?_
  rintro e w3 ⟨rfl, h3, hs3⟩
  rw [show canT [((1, 2), (3, 1))] (2, 1) (3, 1) = false by decide]
  rw [show putT [((1, 2), (3, 1))] (2, 1) (3, 1) = [((1, 2), (3, 1))] by decide] at h3
  have H3 := Lib.hid h3
  have HB3 := Lib.hid (HB2.out.trans (Safe.below hs3 (fun b hb => hb) hs2'))
  have hs3' := HB3.out.size
  clear h3 hs3
  go_wp2_with fail
  refine (putT_any (2, 1) (3, 0) H3.out (by decide) ⟨by decide, by decide⟩ ⟨by decide, by decide⟩).mono ?_
  rintro e w4 ⟨rfl, h4, hs4⟩
  rw [show canT [((1, 2), (3, 1))] (2, 1) (3, 0) = true by decide]
  rw [show putT [((1, 2), (3, 1))] (2, 1) (3, 0) = [((1, 2), (3, 1)), ((2, 1), (3, 0))] by decide] at h4
  have H4 := Lib.hid h4
  have HB4 := Lib.hid (HB3.out.trans (Safe.below hs4 (fun b hb => hb) hs3'))
  clear h4 hs4
  go_wp2_with fail
  refine (inT_any 3 H4.out (by decide) (by decide)).mono ?_
  rintro e w5 ⟨A5, c5, rfl, hf5, _, hb5⟩
  rw [show inT [((1, 2), (3, 1)), ((2, 1), (3, 0))] 3 = [((2, 1), (3, 0)), ((1, 2), (3, 1))] by decide] at hf5 ⊢
  have H5 := Lib.hid (H4.out.below hb5)
  have HB5 := Lib.hid (HB4.out.trans (hb5.mono HB4.out.size))
  have HF5 := Lib.hid hf5
  clear hb5 hf5
  go_wp2_with fail
  refine (liveT_any 3 H5.out (by decide) (by decide)).mono ?_
  rintro e w6 ⟨rfl, hb6⟩
  rw [show liveT [((1, 2), (3, 1)), ((2, 1), (3, 0))] 3 = 2 by decide]
  have H6 := Lib.hid (H5.out.below hb6)
  have HB6 := Lib.hid (HB5.out.trans (hb6.mono HB5.out.size))
  obtain ⟨B, o, rfl, q6⟩ := flies_first (HF5.out.below hb6)
  clear hb6
  go_wp2_with fail
  refine (lenT_any H6.out (by decide)).mono ?_
  rintro e w7 ⟨rfl, hb7⟩
  have HB7 := Lib.hid (HB6.out.trans (hb7.mono HB6.out.size))
  clear hb7
  go_wp2_with fail
  go_ret
  exact ⟨rfl, HB7.out⟩
set_option maxRecDepth 100000 in
set_option maxHeartbeats 4000000 in
theorem nil9_any (d : Int) (r s : P2) (b : Int) (w : World) : Calls Try.prog 4 #[.agg #[.int .i64 d, .int .i64 r.1, .int .i64 r.2, .int .i64 s.1, .int .i64 s.2], .int .i64 b] w (Holds w) := by
  have HX0 := Lib.hid (heap_alloc_new w (.cells #[.int .i64 d, .int .i64 r.1, .int .i64 r.2, .int .i64 s.1, .int .i64 s.2] 32))
  have HB0 := Lib.hid ((Below.refl _ w).alloc (Nat.le_refl _) (.cells #[.int .i64 d, .int .i64 r.1, .int .i64 r.2, .int .i64 s.1, .int .i64 s.2] 32))
  go_enter Try.func4, Try.ntmps4
  go_wp2_with fail
  refine (at_nil r _).mono ?_
  rintro e w1 ⟨rfl, hb1⟩
  have HX1 := Lib.hid ((hb1.block w.heap.size (by simp)).trans HX0.out)
  have HB1 := Lib.hid (HB0.out.trans (hb1.mono (by simp)))
  have hb2 := (Below.refl w1.heap.size w1).alloc (Nat.le_refl _) (.cells #[.int .i64 0, .int .i64 0] 24)
  have HX2 := Lib.hid ((hb2.block w.heap.size (lt_size HX1.out)).trans HX1.out)
  have HY2 := Lib.hid (heap_alloc_new w1 (.cells #[.int .i64 0, .int .i64 0] 24))
  have HB2 := Lib.hid (HB1.out.trans (hb2.mono HB1.out.size))
  obtain ⟨c0, c1, c2, c3, c4⟩ := cells5p HX2.out
  clear hb1 hb2
  go_wp2_with fail
  refine (on_nil s _).mono ?_
  rintro e w2 ⟨rfl, hb2⟩
  have HX3 := Lib.hid ((hb2.block w.heap.size (lt_size HX2.out)).trans HX2.out)
  have HY3 := Lib.hid ((hb2.block w1.heap.size (lt_size HY2.out)).trans HY2.out)
  have HB3 := Lib.hid (HB2.out.trans (hb2.mono HB2.out.size))
  have hb4 := (Below.refl w2.heap.size w2).alloc (Nat.le_refl _) (.cells #[.int .i64 0, .int .i64 0] 30)
  have HX4 := Lib.hid ((hb4.block w.heap.size (lt_size HX3.out)).trans HX3.out)
  have HY4 := Lib.hid ((hb4.block w1.heap.size (lt_size HY3.out)).trans HY3.out)
  have HZ4 := Lib.hid (heap_alloc_new w2 (.cells #[.int .i64 0, .int .i64 0] 30))
  have HB4 := Lib.hid (HB3.out.trans (hb4.mono HB3.out.size))
  clear c0 c1 c2 c3 c4 hb2 hb4
  obtain ⟨c0, c1, c2, c3, c4⟩ := cells5p HX4.out
  go_wp2_with fail
  refine (put_nil r s _).mono ?_
  rintro e w5 ⟨rfl, hb5⟩
  have HX5 := Lib.hid ((hb5.block w.heap.size (lt_size HX4.out)).trans HX4.out)
  have HY5 := Lib.hid ((hb5.block w1.heap.size (lt_size HY4.out)).trans HY4.out)
  have HZ5 := Lib.hid ((hb5.block w2.heap.size (lt_size HZ4.out)).trans HZ4.out)
  have HB5 := Lib.hid (HB4.out.trans (hb5.mono HB4.out.size))
  clear c0 c1 c2 c3 c4 hb5
  obtain ⟨c0, c1, c2, c3, c4⟩ := cells5p HX5.out
  go_wp2_with fail
  refine (cut_nil r _).mono ?_
  rintro e w6 ⟨rfl, hb6⟩
  have HB6 := Lib.hid (HB5.out.trans (hb6.mono HB5.out.size))
  obtain ⟨y0, y1⟩ := cells2p ((hb6.block w1.heap.size (lt_size HY5.out)).trans HY5.out)
  obtain ⟨z0, z1⟩ := cells2p ((hb6.block w2.heap.size (lt_size HZ5.out)).trans HZ5.out)
  clear c0 c1 c2 c3 c4 hb6
  go_wp2_with (first
    | (go_at_call 16; refine (live_nil b _).mono ?_; rintro e w7 ⟨rfl, hb7⟩; have HB7 := Lib.hid (HB6.out.trans (hb7.mono HB6.out.size)); clear hb7)
    | (go_at_call 17; refine (in_nil b _).mono ?_; rintro e w8 ⟨A8, k8, rfl, hb8⟩; have HB8 := Lib.hid (HB7.out.trans (hb8.mono HB7.out.size)); clear hb8)
    | (go_at_call 18; refine (all_nil _).mono ?_; rintro e w9 ⟨A9, k9, rfl, hb9⟩; have HB9 := Lib.hid (HB8.out.trans (hb9.mono HB8.out.size)); clear hb9)
    | (go_at_call 14; refine (len_nil _).mono ?_; rintro e wa ⟨rfl, hba⟩; have HBa := Lib.hid (HB9.out.trans (hba.mono HB9.out.size)); clear hba)
    | (go_at_call 8; refine (awake_any _).mono ?_; rintro e wb ⟨rfl, hbb⟩; have HBb := Lib.hid (HBa.out.trans (hbb.mono HBa.out.size)); clear hbb))
  go_ret
  exact ⟨rfl, HBb.out⟩
end Go.Proofs.Ytbebbnkolpgndaa
