/- Package place as a table of two maps: Put. -/
import Derived.Test.YtbebbnkolpgndaaPLandP
namespace Go.Proofs.Ytbebbnkolpgndaa
open Go.RowKit Go.Maps Go.WideShapes

section
variable {w w' : World} {p : Nat} {x y : Nat → Prop} {T : List Fd}
set_option maxRecDepth 100000 in
set_option maxHeartbeats 2000000 in
theorem putT_any (r s : P2) (h : Tab w p x T) (hl : T.length ≤ 1000) (hr : WfP r) (hs : WfP s) : Calls Try.prog 11 #[.pointer (some ⟨p, 0, none⟩), P2V r, P2V s] w fun e w' => e = .returned (.bool (canT T r s)) ∧ Tab w' p x (putT T r s) ∧ Safe x w w' := by
  have HH := Lib.hid h
  have HR := Lib.hid hr
  have HS := Lib.hid hs
  have hcan := can_on h.wf r s
  clear h hr hs
  obtain ⟨W, hW⟩ : ∃ W, (w.alloc (.cells #[.int .i64 r.1, .int .i64 r.2] 30)).alloc (.cells #[.int .i64 s.1, .int .i64 s.2] 24) = W := ⟨_, rfl⟩
  have HB : Hid (Below w.heap.size w W) := Lib.hid (by rw [← hW]; exact ((Below.refl _ _).alloc (Nat.le_refl _) _).alloc (by simp) _)
  have HW : Hid (W.heap[w.heap.size]? = some (.cells #[.int .i64 r.1, .int .i64 r.2] 30 (0, 0))) := Lib.hid (by rw [← hW]; exact (heap_alloc_old _ _ (by simp)).trans (heap_alloc_new w _))
  have HW2 : Hid (W.heap[w.heap.size + 1]? = some (.cells #[.int .i64 s.1, .int .i64 s.2] 24 (0, 0))) := Lib.hid (by rw [← hW]; have := heap_alloc_new (w.alloc (.cells #[.int .i64 r.1, .int .i64 r.2] 30)) (.cells #[.int .i64 s.1, .int .i64 s.2] 24); simpa using this)
  obtain ⟨e0, e1, -, -⟩ := cells2q HW.out
  obtain ⟨f0, f1, -, -⟩ := cells2q HW2.out
  have HTW : Hid (Tab W p (fun b => x b ∨ (w.heap.size ≤ b ∧ b < W.heap.size)) T) := Lib.hid (HH.out.more HB.out)
  by_cases hs1 : 0 ≤ s.1
  case neg =>
    have hc : canT T r s = false := by rw [hcan]; simp [hs1]
    rw [hc]
    have HC := Lib.hid hc
    clear hcan hc
    go_enter Try.func11, Try.ntmps11
    go_wp2_with fail
    go_ret
    exact ⟨rfl, by unfold putT; rw [HC.out]; exact HH.out.below HB.out, safe_of_below HB.out⟩
  by_cases hs2 : 0 ≤ s.2
  case neg =>
    have hc : canT T r s = false := by rw [hcan]; simp [hs2]
    rw [hc]
    have HC := Lib.hid hc
    clear hcan hc
    go_enter Try.func11, Try.ntmps11
    go_wp2_with fail
    go_ret
    exact ⟨rfl, by unfold putT; rw [HC.out]; exact HH.out.below HB.out, safe_of_below HB.out⟩
  have hz0 := lt_size HW.out
  have hz1 := lt_size HW2.out
  cases ho : onT T s with
  | none =>
    have HO := Lib.hid ho
    rw [ho] at hcan
    have HC : Hid (canT T r s = true) := Lib.hid (by rw [hcan]; simp [hs1, hs2])
    clear hcan ho
    have HVr : Hid (∀ V : World, Below W.heap.size W V → (V.alloc (.cells #[.int .i64 0, .int .i64 0] 30)).heap[w.heap.size]? = some (.cells #[.int .i64 r.1, .int .i64 r.2] 30 (0, 0))) := Lib.hid fun V hV => (heap_alloc_old V _ (Nat.lt_of_lt_of_le hz0 hV.size)).trans ((hV.block _ hz0).trans HW.out)
    have HVs : Hid (∀ V : World, Below W.heap.size W V → (V.alloc (.cells #[.int .i64 0, .int .i64 0] 30)).heap[w.heap.size + 1]? = some (.cells #[.int .i64 s.1, .int .i64 s.2] 24 (0, 0))) := Lib.hid fun V hV => (heap_alloc_old V _ (Nat.lt_of_lt_of_le hz1 hV.size)).trans ((hV.block _ hz1).trans HW2.out)
    go_enter Try.func11, Try.ntmps11
    go_wp2_with (go_at_call 13; (refine (onT_any s HTW.out hl HS.out).mono ?_; rintro e w2 ⟨rfl, hb2⟩; rw [HO.out]; have HB2 := Lib.hid hb2; clear hb2; obtain ⟨i0, i1, -, -⟩ := cells2q (HVr.out w2 HB2.out); obtain ⟨j0, j1, -, -⟩ := cells2q (HVs.out w2 HB2.out)))
    obtain ⟨V, hV⟩ : ∃ V, w2.alloc (.cells #[.int .i64 0, .int .i64 0] 30) = V := ⟨_, rfl⟩
    have HR3 := Lib.hid (HVr.out w2 HB2.out)
    have HS3 := Lib.hid (HVs.out w2 HB2.out)
    rw [hV] at HR3 HS3 i0 i1 j0 j1
    rw [hV]
    have hBV : Below W.heap.size W V := by rw [← hV]; exact HB2.out.alloc HB2.out.size _
    have HB3 := Lib.hid (HB.out.trans (hBV.mono HB.out.size))
    have HTV := Lib.hid (HTW.out.below hBV)
    clear hV hBV i0 i1 j0 j1
    refine (cutT_any r HTV.out hl HR.out).mono ?_
    rintro e w6 ⟨rfl, ht6, hs6⟩
    have HR6 := Lib.hid ((hs6.block (lt_size HR3.out) (.inr ⟨by omega, hz0⟩)).trans HR3.out)
    have HS6 := Lib.hid ((hs6.block (lt_size HS3.out) (.inr ⟨by omega, hz1⟩)).trans HS3.out)
    have HSf := Lib.hid hs6
    have HT6 := Lib.hid ht6
    have hcl := cut_len T r
    clear ht6 hs6
    obtain ⟨e0, e1, -, -⟩ := cells2q HR6.out
    obtain ⟨f0, f1, -, -⟩ := cells2q HS6.out
    go_wp2_with fail
    refine (pairT_any r s HT6.out (by omega) HR.out HS.out (cut_cut T r) (cut_spot HC.out) (wf_cons HH.out.wf HC.out)).mono ?_
    rintro e w8 ⟨rfl, ht8, hs8⟩
    have HT8 := Lib.hid ht8
    have HSg := Lib.hid hs8
    clear ht8 hs8 e0 e1 f0 f1
    go_wp2_with fail
    go_ret
    have hs3 : Safe x w w6 := (safe_of_below HB3.out).then' HSf.out fun i hi k => .inl k
    exact ⟨ret_bool HC.out.symm, (HT8.out.less fun _ k => .inl k).perm (put_perm HH.out.wf HC.out).symm, hs3.then' HSg.out fun i hi k => .inl k⟩
  | some q =>
    have HO := Lib.hid ho
    rw [ho] at hcan
    clear ho
    by_cases hqr : q = r
    · obtain rfl : r = q := hqr.symm
      have HC : Hid (canT T r s = true) := Lib.hid (by rw [hcan]; simp [hs1, hs2])
      have e9 := fun w : World => (nel_self r w)
      clear hcan
      have HVr : Hid (∀ V : World, Below W.heap.size W V → (V.alloc (.cells #[.int .i64 r.1, .int .i64 r.2] 30)).heap[w.heap.size]? = some (.cells #[.int .i64 r.1, .int .i64 r.2] 30 (0, 0))) := Lib.hid fun V hV => (heap_alloc_old V _ (Nat.lt_of_lt_of_le hz0 hV.size)).trans ((hV.block _ hz0).trans HW.out)
      have HVs : Hid (∀ V : World, Below W.heap.size W V → (V.alloc (.cells #[.int .i64 r.1, .int .i64 r.2] 30)).heap[w.heap.size + 1]? = some (.cells #[.int .i64 s.1, .int .i64 s.2] 24 (0, 0))) := Lib.hid fun V hV => (heap_alloc_old V _ (Nat.lt_of_lt_of_le hz1 hV.size)).trans ((hV.block _ hz1).trans HW2.out)
      go_enter Try.func11, Try.ntmps11
      go_wp2_with (go_at_call 13; (refine (onT_any s HTW.out hl HS.out).mono ?_; rintro e w2 ⟨rfl, hb2⟩; rw [HO.out]; have HB2 := Lib.hid hb2; clear hb2; obtain ⟨i0, i1, -, -⟩ := cells2q (HVr.out w2 HB2.out); obtain ⟨j0, j1, -, -⟩ := cells2q (HVs.out w2 HB2.out)))
      obtain ⟨V, hV⟩ : ∃ V, w2.alloc (.cells #[.int .i64 r.1, .int .i64 r.2] 30) = V := ⟨_, rfl⟩
      have HR3 := Lib.hid (HVr.out w2 HB2.out)
      have HS3 := Lib.hid (HVs.out w2 HB2.out)
      rw [hV] at HR3 HS3 i0 i1 j0 j1
      rw [hV]
      have hBV : Below W.heap.size W V := by rw [← hV]; exact HB2.out.alloc HB2.out.size _
      have HB3 := Lib.hid (HB.out.trans (hBV.mono HB.out.size))
      have HTV := Lib.hid (HTW.out.below hBV)
      clear hV hBV i0 i1 j0 j1
      refine (cutT_any r HTV.out hl HR.out).mono ?_
      rintro e w6 ⟨rfl, ht6, hs6⟩
      have HR6 := Lib.hid ((hs6.block (lt_size HR3.out) (.inr ⟨by omega, hz0⟩)).trans HR3.out)
      have HS6 := Lib.hid ((hs6.block (lt_size HS3.out) (.inr ⟨by omega, hz1⟩)).trans HS3.out)
      have HSf := Lib.hid hs6
      have HT6 := Lib.hid ht6
      have hcl := cut_len T r
      clear ht6 hs6
      obtain ⟨e0, e1, -, -⟩ := cells2q HR6.out
      obtain ⟨f0, f1, -, -⟩ := cells2q HS6.out
      go_wp2_with fail
      refine (pairT_any r s HT6.out (by omega) HR.out HS.out (cut_cut T r) (cut_spot HC.out) (wf_cons HH.out.wf HC.out)).mono ?_
      rintro e w8 ⟨rfl, ht8, hs8⟩
      have HT8 := Lib.hid ht8
      have HSg := Lib.hid hs8
      clear ht8 hs8 e0 e1 f0 f1
      go_wp2_with fail
      go_ret
      have hs3 : Safe x w w6 := (safe_of_below HB3.out).then' HSf.out fun i hi k => .inl k
      exact ⟨ret_bool HC.out.symm, (HT8.out.less fun _ k => .inl k).perm (put_perm HH.out.wf HC.out).symm, hs3.then' HSg.out fun i hi k => .inl k⟩
    · have hc : canT T r s = false := by rw [hcan]; simp [hqr]
      rw [hc]
      have HC := Lib.hid hc
      have e9 := fun w : World => (nel_not (r := q) (s := r) hqr w)
      clear hcan hc
      have HVr : Hid (∀ V : World, Below W.heap.size W V → (V.alloc (.cells #[.int .i64 q.1, .int .i64 q.2] 30)).heap[w.heap.size]? = some (.cells #[.int .i64 r.1, .int .i64 r.2] 30 (0, 0))) := Lib.hid fun V hV => (heap_alloc_old V _ (Nat.lt_of_lt_of_le hz0 hV.size)).trans ((hV.block _ hz0).trans HW.out)
      have HVs : Hid (∀ V : World, Below W.heap.size W V → (V.alloc (.cells #[.int .i64 q.1, .int .i64 q.2] 30)).heap[w.heap.size + 1]? = some (.cells #[.int .i64 s.1, .int .i64 s.2] 24 (0, 0))) := Lib.hid fun V hV => (heap_alloc_old V _ (Nat.lt_of_lt_of_le hz1 hV.size)).trans ((hV.block _ hz1).trans HW2.out)
      go_enter Try.func11, Try.ntmps11
      go_wp2_with (go_at_call 13; (refine (onT_any s HTW.out hl HS.out).mono ?_; rintro e w2 ⟨rfl, hb2⟩; rw [HO.out]; have HB2 := Lib.hid hb2; clear hb2; obtain ⟨i0, i1, -, -⟩ := cells2q (HVr.out w2 HB2.out); obtain ⟨j0, j1, -, -⟩ := cells2q (HVs.out w2 HB2.out)))
      go_ret
      have hb1 : Below w.heap.size w (w2.alloc (.cells #[.int .i64 q.1, .int .i64 q.2] 30)) := (HB.out.trans (HB2.out.mono HB.out.size)).alloc (Nat.le_trans HB.out.size HB2.out.size) _
      exact ⟨rfl, by unfold putT; rw [HC.out]; exact HH.out.below hb1, safe_of_below hb1⟩
end
end Go.Proofs.Ytbebbnkolpgndaa
