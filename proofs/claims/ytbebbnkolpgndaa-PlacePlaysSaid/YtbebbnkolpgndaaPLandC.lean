/- Package place as a table of two maps: New, Len, Cut. -/
import Derived.Test.YtbebbnkolpgndaaPEnt
namespace Go.Proofs.Ytbebbnkolpgndaa
open Go.RowKit Go.Maps Go.WideShapes

section
variable {w w' : World} {p : Nat} {x y : Nat → Prop} {T : List Fd}
theorem newT_any (w : World) : Calls Try.prog 9 #[] w fun e w' => ∃ p, e = .returned (.pointer (some ⟨p, 0, none⟩)) ∧ Tab w' p (fun b => b < w.heap.size) [] ∧ Below w.heap.size w w' := by
  go_enter Try.func9, Try.ntmps9
  go_wp2_with fail
  go_ret
  exact ⟨w.heap.size, rfl, Tab.of_nil (heap_alloc_new w _) (by omega) (fun b hb => Nat.lt_of_lt_of_le hb (by simp)), (Below.refl _ _).alloc (Nat.le_refl _) _⟩
theorem lenT_any (h : Tab w p x T) (_hl : T.length ≤ 1000) : Calls Try.prog 14 #[.pointer (some ⟨p, 0, none⟩)] w fun e w' => e = .returned (.int .i64 (T.length : Int)) ∧ Below w.heap.size w w' := by
  obtain ⟨hw, hi, ⟨b, c, h1, h2, h3, h4⟩, -⟩ := h
  obtain ⟨c0, c1, -, -⟩ := cells2q h1
  have l0 := fun ty => run_len_opt mt_spots ty h2
  clear h1 h2 h3 h4 hw hi
  go_enter Try.func14, Try.ntmps14
  go_wp2_with fail
  go_ret
  exact ⟨rfl, Below.refl _ _⟩
theorem turned_at {w w' : World} {b i : Nat} (h : w.mapTurned w' b) (hi : i < w.heap.size) (hne : i ≠ b) : w'.heap[i]? = w.heap[i]? := h.grown.block i hi (by simpa using hne)
theorem turned_safe {w w' : World} {b : Nat} {x : Nat → Prop} (h : w.mapTurned w' b) (hx : ¬ x b) : Safe x w w' :=
  ⟨h.grown.os, h.grown.tape, h.grown.output, h.grown.size, fun _ hi hn => turned_at h hi fun e => hn (e ▸ hx)⟩
theorem cut_len (T : List Fd) (r : P2) : (cutT T r).length ≤ T.length := List.length_filter_le _ _
theorem nel_self (a : P2) (w : World) : Sem.run Try.prog (binOp BinOp.neq 30 (P2V a) (P2V a)) w = .ok (.bool false) w := by simp [go_sem]
theorem nel_not {r s : P2} (h : r ≠ s) (w : World) : Sem.run Try.prog (binOp BinOp.neq 30 (P2V r) (P2V s)) w = .ok (.bool true) w := by
  have e : (r = s) ↔ (r.1 = s.1 ∧ r.2 = s.2) := Prod.ext_iff
  by_cases h1 : r.1 = s.1 <;> by_cases h2 : r.2 = s.2 <;> simp [go_sem, h1, h2]
  exact h (e.2 ⟨h1, h2⟩)
theorem undrew {w w' : World} {x : Nat → Prop} (h : Safe x w.drew w') : Safe x w w' := ⟨h.os, h.tape, h.output, h.size, fun i hi hx => Turned.block h i hi hx⟩
set_option maxRecDepth 100000 in
set_option maxHeartbeats 2000000 in
theorem cutT_any (r : P2) (h : Tab w p x T) (hl : T.length ≤ 1000) (hr : WfP r) : Calls Try.prog 10 #[.pointer (some ⟨p, 0, none⟩), P2V r] w fun e w' => e = .returned (.bool (hasR T r)) ∧ Tab w' p x (cutT T r) ∧ Safe x w w' := by
  have HH := Lib.hid h
  have HR := Lib.hid hr
  clear h hr
  obtain ⟨W, hW⟩ : ∃ W, w.alloc (.cells #[.int .i64 r.1, .int .i64 r.2] 30) = W := ⟨_, rfl⟩
  have HB : Hid (Below w.heap.size w W) := Lib.hid (by rw [← hW]; exact (Below.refl _ _).alloc (Nat.le_refl _) _)
  have HW : Hid (W.heap[w.heap.size]? = some (.cells #[.int .i64 r.1, .int .i64 r.2] 30 (0, 0))) := Lib.hid (by rw [← hW]; exact heap_alloc_new w _)
  obtain ⟨e0, e1, -, -⟩ := cells2q HW.out
  cases hq : atT T r with
  | none =>
    have HQ := Lib.hid hq
    clear hq
    go_enter Try.func10, Try.ntmps10
    go_wp2_with (go_at_call 12; refine (atT_any r (HH.out.below HB.out) hl HR.out).mono ?_; rintro e w2 ⟨rfl, hb2⟩; rw [HQ.out])
    go_ret
    have hb3 : Below w.heap.size w (w2.alloc (.cells #[.int .i64 0, .int .i64 0] 24)) := (HB.out.trans (hb2.mono HB.out.size)).alloc (Nat.le_trans HB.out.size hb2.size) _
    exact ⟨ret_bool (by rw [has_at, HQ.out]; rfl), by rw [cut_none HQ.out]; exact HH.out.below hb3, safe_of_below hb3⟩
  | some s =>
    have HQ := Lib.hid hq
    clear hq
    go_enter Try.func10, Try.ntmps10
    go_wp2_with (go_at_call 12; refine (atT_any r (HH.out.below HB.out) hl HR.out).mono ?_; rintro e w2 ⟨rfl, hb2⟩; rw [HQ.out])
    have HB2 := Lib.hid hb2
    clear hb2
    obtain ⟨W3, hW3⟩ : ∃ W3, w2.alloc (.cells #[.int .i64 s.1, .int .i64 s.2] 24) = W3 := ⟨_, rfl⟩
    rw [hW3]
    have hBW : Below W.heap.size W W3 := by rw [← hW3]; exact HB2.out.alloc HB2.out.size _
    have HB3 := Lib.hid (HB.out.trans (hBW.mono HB.out.size))
    have HS3 : Hid (W3.heap[w2.heap.size]? = some (.cells #[.int .i64 s.1, .int .i64 s.2] 24 (0, 0))) := Lib.hid (by rw [← hW3]; exact heap_alloc_new w2 _)
    have HR3 := Lib.hid ((hBW.block _ (lt_size HW.out)).trans HW.out)
    have hlt2 : w.heap.size ≤ w2.heap.size := Nat.le_trans HB.out.size HB2.out.size
    obtain ⟨hg1, hg2⟩ := HH.out.gwf
    have HG1 := Lib.hid hg1
    have HG2 := Lib.hid hg2
    have HI := Lib.hid HH.out.ints
    have HWf := Lib.hid HH.out.wf
    have hcs := (HH.out.below HB3.out).cases
    rcases hcs with ⟨rfl, -, -⟩ | ⟨b, c, h1, h2, h3, h4, h5, h6, h7, h8, h9⟩
    · exact absurd HQ.out (by simp [atT])
    rcases HH.out.cases with ⟨rfl, -, -⟩ | ⟨b', c', k1, k2, k3, -, -, -, -, -, -⟩
    · exact absurd HQ.out (by simp [atT])
    have hbc := ((HB3.out.block _ (lt_size k1)).trans k1).symm.trans h1
    obtain ⟨rfl, rfl⟩ : b' = b ∧ c' = c := by simpa using hbc
    have HLb := Lib.hid k2.lt
    have HLc := Lib.hid k3.lt
    have HLp := Lib.hid (lt_size k1)
    have HX := Lib.hid (And.intro h7 (And.intro h8 h9))
    have HP3 := Lib.hid h1
    have HM3 := Lib.hid h2
    have HN3 := Lib.hid h3
    clear hW3 hBW hW hg1 hg2 h1 h2 h3 h7 h8 h9 k1 k2 k3 hbc e0 e1
    obtain ⟨u0, u1, -, -⟩ := cells2q HP3.out
    obtain ⟨v0, v1, -, -⟩ := cells2q HR3.out
    go_still_tail 5, (by kernel_rfl)
    change wpList _ _ _ _ _ W3.drew
    refine wp_delete mt_spots rfl (.tmp 17) (.tmp 18) rfl rfl rfl (HM3.out.kept rfl) HG1.out HR.out fun w6 hM6 ht6 => ?_
    have HM6 := Lib.hid hM6
    have HT6 := Lib.hid ht6
    clear hM6 ht6
    clear u0 u1 v0 v1
    have HP6 := Lib.hid ((turned_at (w := W3.drew) HT6.out (lt_size HP3.out) h5).trans HP3.out)
    have HS6 := Lib.hid ((turned_at (w := W3.drew) HT6.out (lt_size HS3.out) (by have := HLb.out; omega)).trans HS3.out)
    have HN6 := Lib.hid (HN3.out.kept (turned_at (w := W3.drew) HT6.out HN3.out.lt h4.symm))
    obtain ⟨u0, u1, -, -⟩ := cells2q HP6.out
    obtain ⟨v0, v1, -, -⟩ := cells2q HS6.out
    have HWs : Hid (WfP s) := Lib.hid (HI.out _ (at_mem HQ.out)).2
    go_wp2_with fail
    go_still_tail 5, (by kernel_rfl)
    change wpList _ _ _ _ _ w6.drew
    refine wp_delete mt_refs rfl (.tmp 22) (.tmp 23) rfl rfl rfl (HN6.out.kept rfl) HG2.out HWs.out fun w7 hN7 ht7 => ?_
    have HN7 := Lib.hid hN7
    have HT7 := Lib.hid ht7
    clear hN7 ht7
    go_wp2_with fail
    go_ret
    have hp7 := (turned_at (w := w6.drew) HT7.out (lt_size HP6.out) h6).trans HP6.out
    have hm7 : MapAt 30 Prod.fst Prod.snd w7 b' (cutT T r) := HM6.out.kept (turned_at (w := w6.drew) HT7.out HM6.out.lt h4)
    have hn7 : MapAt 24 Prod.snd Prod.fst w7 c' (cutT T r) := by rw [← cut_by_spot HWf.out HQ.out]; exact HN7.out
    have hs : Safe x w w7 := ((safe_of_below HB3.out).then (undrew (turned_safe HT6.out HX.out.2.1))).then (undrew (turned_safe HT7.out HX.out.2.2))
    exact ⟨ret_bool (by rw [has_at, HQ.out]; rfl), Tab.of_maps (wf_filter HWf.out _) (ints_filter HI.out _) hp7 hm7 hn7 h4 h5 h6 HX.out.1 HX.out.2.1 HX.out.2.2 (fun b hb => Nat.lt_of_lt_of_le (HH.out.there b hb) hs.size), hs⟩
end
end Go.Proofs.Ytbebbnkolpgndaa
