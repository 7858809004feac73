/- Package place as a table of two maps: Live; what a nil table tells. -/
import Derived.Test.YtbebbnkolpgndaaPLandQ
import Derived.Deep.AppendLies
namespace Go.Proofs.Ytbebbnkolpgndaa
open Go.RowKit Go.Maps Go.WideShapes

theorem put_nil (r s : P2) (w : World) : Calls Try.prog 11 #[.pointer none, P2V r, P2V s] w fun e w' => e = .returned (.bool false) ∧ Below w.heap.size w w' := by
  go_enter Try.func11, Try.ntmps11
  go_wp2_with fail
  go_ret
  exact ⟨rfl, ((Below.refl _ _).alloc (Nat.le_refl _) _).alloc (by simp) _⟩
theorem at_nil (r : P2) (w : World) : Calls Try.prog 12 #[.pointer none, P2V r] w fun e w' => e = .returned (.tuple #[P2V (0, 0), .bool false]) ∧ Below w.heap.size w w' := by
  go_enter Try.func12, Try.ntmps12
  go_wp2_with fail
  refine bodyPost_ret (by simp [results, Try.results12, go_sem]; try rfl) rfl ?_
  exact ⟨rfl, ((Below.refl _ _).alloc (Nat.le_refl _) _).alloc (by simp) _⟩
theorem cut_nil (r : P2) (w : World) : Calls Try.prog 10 #[.pointer none, P2V r] w fun e w' => e = .returned (.bool false) ∧ Below w.heap.size w w' := by
  have h0 := heap_alloc_new w (.cells #[.int .i64 r.1, .int .i64 r.2] 30)
  obtain ⟨e0, e1, -, -⟩ := cells2q h0
  go_enter Try.func10, Try.ntmps10
  go_wp2_with (go_at_call 12; refine (at_nil r _).mono ?_; rintro e w2 ⟨rfl, hb2⟩)
  go_ret
  exact ⟨rfl, (((Below.refl _ _).alloc (Nat.le_refl _) _).trans (hb2.mono (by simp))).alloc (Nat.le_trans (by simp) hb2.size) _⟩
theorem live_nil (b : Int) (w : World) : Calls Try.prog 16 #[.pointer none, .int .i64 b] w fun e w' => e = .returned (.int .i64 0) ∧ Below w.heap.size w w' := by
  go_enter Try.func16, Try.ntmps16
  go_wp2_with fail
  go_ret
  exact ⟨rfl, Below.refl _ _⟩
theorem found_nil (F : Value) (w : World) : Calls Try.prog 22 #[.pointer none, F] w fun e w' => e = .returned (.slice none 0 0) ∧ Below w.heap.size w w' := by
  go_enter Try.func22, Try.ntmps22
  go_wp2_with fail
  go_ret
  exact ⟨rfl, Below.refl _ _⟩
theorem in_nil (b : Int) (w : World) : Calls Try.prog 17 #[.pointer none, .int .i64 b] w fun e w' => ∃ A c, e = .returned (.slice A 0 c) ∧ Below w.heap.size w w' := by
  go_enter Try.func17, Try.ntmps17
  go_wp2_with (go_at_call 22; refine (found_nil _ _).mono ?_; rintro e w2 ⟨rfl, hb2⟩)
  go_ret
  exact ⟨none, 0, rfl, ((Below.refl _ _).alloc (Nat.le_refl _) _).trans (hb2.mono (by simp))⟩
theorem all_nil (w : World) : Calls Try.prog 18 #[.pointer none] w fun e w' => ∃ A c, e = .returned (.slice A 0 c) ∧ Below w.heap.size w w' := by
  go_enter Try.func18, Try.ntmps18
  go_wp2_with (go_at_call 22; refine (found_nil _ _).mono ?_; rintro e w2 ⟨rfl, hb2⟩)
  go_ret
  exact ⟨none, 0, rfl, hb2⟩
theorem len_nil (w : World) : Calls Try.prog 14 #[.pointer none] w fun e w' => e = .returned (.int .i64 0) ∧ Below w.heap.size w w' := by
  go_enter Try.func14, Try.ntmps14
  go_wp2_with fail
  go_ret
  exact ⟨rfl, Below.refl _ _⟩
theorem on_nil (s : P2) (w : World) : Calls Try.prog 13 #[.pointer none, P2V s] w fun e w' => e = .returned (.tuple #[P2V (0, 0), .bool false]) ∧ Below w.heap.size w w' := by
  go_enter Try.func13, Try.ntmps13
  go_wp2_with fail
  refine bodyPost_ret (by simp [results, Try.results13, go_sem]; try rfl) rfl ?_
  exact ⟨rfl, ((Below.refl _ _).alloc (Nat.le_refl _) _).alloc (by simp) _⟩
section
variable {w w' : World} {p : Nat} {x y : Nat → Prop} {T : List Fd}
set_option maxRecDepth 100000 in
set_option maxHeartbeats 2000000 in
theorem liveT_any (b : Int) (h : Tab w p x T) (hl : T.length ≤ 1000) (_hb : (Lit.int .i64 b).wf = true) : Calls Try.prog 16 #[.pointer (some ⟨p, 0, none⟩), .int .i64 b] w fun e w' => e = .returned (.int .i64 (liveT T b : Int)) ∧ Below w.heap.size w w' := by
  have HG := Lib.hid h.gwf.2
  have HN := Lib.hid h.wf.spots
  rcases h.cases with ⟨rfl, h1, -⟩ | ⟨bb, c, h1, h2, h3, h4, h5, h6, h7, h8, h9⟩
  · obtain ⟨d0, d1, -, -⟩ := cells2q h1
    have hr := fun w : World => run_range_nilMap (P := Try.prog) w 52 _ _ mt_refs.ht
    have hn := fun w : World => run_next_nilMap (P := Try.prog) w
    clear h h1 HG HN hl
    go_enter Try.func16, Try.ntmps16
    go_wp2_with fail
    refine wp_loop_rounds 1 ?_
    repeat any_goals (rw [rounds_succ]; go_wp2_with fail)
    go_ret
    exact ⟨rfl, (Below.refl _ _).alloc (Nat.le_refl _) _⟩
  obtain ⟨d0, d1, -, -⟩ := cells2q h1
  have HM := Lib.hid h3
  have hcl := h3.lt
  clear h h1 h2 h3 h4 h5 h6 h7 h8 h9 _hb
  go_enter Try.func16, Try.ntmps16
  go_wp2_with (at_range; refine wp_range mt_refs rfl _ rfl rfl HM.out HG.out ?_; intro w1 hr1 hg1 hs1)
  go_frame
  have hb1 : Below w.heap.size w w1 := ⟨hg1.os, hg1.tape, hg1.output, hg1.size, fun i hi => hg1.block i hi (by simp)⟩
  have HB1 := Lib.hid hb1
  have HR1 := Lib.hid hr1
  clear hb1 hr1 hg1 hs1
  go_loopw [5] (fun v5 wr => ∃ (S : List Fd) (cnt : Nat), RgS 24 Prod.snd Prod.fst wr c w.heap.size T S cnt ∧ v5 = .int .i64 (liveT S b : Int) ∧ Below w.heap.size w wr ) (fun _ wr => wr.rangeLeft c w.heap.size)
  case atStart => exact ⟨[], _, HR1.out, rfl, HB1.out⟩
  case round =>
    obtain ⟨S, cnt, hr, rfl, hB⟩ := hrel
    have HR := Lib.hid hr
    have HB := Lib.hid hB
    have hsz := hB.size
    clear hr hB
    have hS2 : liveT S b ≤ 1000 := Nat.le_trans List.countP_le_length (Nat.le_trans HR.out.len hl)
    go_wp2_with (at_next; refine wp_next mt_refs rfl _ rfl rfl HR.out HN.out HG.out (fun hp => ?_) (fun f w2 cnt2 hf hr2 hlt hg2 hs2 hen => ?_))
    · go_ret
      exact ⟨ret_int (by rw [show liveT S b = liveT T b from hp.countP_eq _]), HB.out⟩
    all_goals
      have hb2 : Below w.heap.size wr w2 := ⟨hg2.os, hg2.tape, hg2.output, hg2.size, fun i hi => hg2.block i (by omega) (by simp; omega)⟩
      have hr3 := hr2.kept (World.grownBy_alloc w2 (.cells #[.int .i64 f.2.1, .int .i64 f.2.2] 24) none) (by simp) (by simp)
      refine ⟨⟨f :: S, cnt2, hr3, ?_, (HB.out.trans hb2).alloc (by omega) _⟩, by rw [hr3.left, HR.out.left]; exact hlt⟩
      unfold liveT at hS2 ⊢
      rw [List.countP_cons]
      simp [*]
end
end Go.Proofs.Ytbebbnkolpgndaa
