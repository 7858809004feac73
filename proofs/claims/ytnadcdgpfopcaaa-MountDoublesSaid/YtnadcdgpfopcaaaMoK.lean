/- A scan: best: of several blocks that with the most. -/
import Derived.Test.YtnadcdgpfopcaaaMoJ
namespace Go.Proofs.Ytnadcdgpfopcaaa
open Go.RowKit Go.Maps

/-- One block more is looked at. -/
def bestStep (r : P2) (st : P2 × Nat) (T : List Fd) : P2 × Nat := if (atT T r).isSome = true ∧ st.2 < T.length then ((atT T r).getD (0, 0), T.length) else st
def bestTo (Ts : Nat → List Fd) (r : P2) (k : Nat) : P2 × Nat := (List.range k).foldl (fun st b => bestStep r st (Ts b)) ((0, 0), 0)
theorem bestTo_succ (Ts : Nat → List Fd) (r : P2) (k : Nat) : bestTo Ts r (k + 1) = bestStep r (bestTo Ts r k) (Ts k) := by simp [bestTo, List.range_succ]
theorem bestTo_le (Ts : Nat → List Fd) (r : P2) (N : Nat) (h : ∀ b, (Ts b).length ≤ N) (k : Nat) : (bestTo Ts r k).2 ≤ N := by
  induction k with
  | zero => simp [bestTo]
  | succ k ih =>
    rw [bestTo_succ]
    unfold bestStep
    split
    · exact h k
    · exact ih
section
variable {w w' W : World} {G B : Nat} {x y : Nat → Prop} {Ts : Nat → List Fd} {p : Nat → Nat} {O : Nat → Nat → Prop}
theorem load_spot {w : World} {q : Nat} {x y : Value} {t : TypeId} (h : w.heap[q]? = some (.cells #[x, y] t (0, 0))) : (loadVar 40 ⟨q, 0, none⟩).run Try.prog w = .ok (.agg #[x, y]) w :=
  run_loadVar_row w q _ _ _ _ _ h Try.underlying40 rfl (by kernel_rfl)
def BestPost (Ts : Nat → List Fd) (r : P2) (B : Nat) (w : World) (e : Ending) (w' : World) : Prop :=
  e = .returned (.tuple #[P2V (bestTo Ts r B).1, .bool (decide (0 < (bestTo Ts r B).2))]) ∧ Below w.heap.size w w'
set_option maxRecDepth 100000 in
set_option maxHeartbeats 4000000 in
theorem m_best (r : P2) (hr : WfP r) (cb : Nat) (h : Tabs w G B x Ts p O) (hB : B ≤ 64) (hlen : ∀ b, (Ts b).length ≤ 1000) : Calls Try.prog 41 #[.slice (some ⟨G, 0, none⟩) B cb, P2V r] w (BestPost Ts r B w) := by
  have HT := Lib.hid h
  have HLN := Lib.hid hlen
  have hG := h.lt
  obtain ⟨W0, hW0⟩ : ∃ W0, W0 = ((w.alloc (.cells #[.int .i64 r.1, .int .i64 r.2] 31)).alloc (.cells #[.int .i64 0, .int .i64 0] 40)).alloc (.cells #[.int .i64 0, .int .i64 0] 40) := ⟨_, rfl⟩
  have HB0 : Hid (Below w.heap.size w W0) := Lib.hid (by rw [hW0]; exact (((Below.refl _ _).alloc (Nat.le_refl _) _).alloc (by simp) _).alloc (by simp; omega) _)
  have HZ : Hid (W0.heap.size = w.heap.size + 3) := Lib.hid (by rw [hW0]; simp)
  have X3 : Hid (W0.heap[w.heap.size]? = some (.cells #[.int .i64 r.1, .int .i64 r.2] 31 (0, 0))) := Lib.hid (by rw [hW0]; exact (heap_alloc_oldX _ _ (by simp; omega)).trans ((heap_alloc_oldX _ _ (by simp)).trans (heap_alloc_new w _)))
  have X4 : Hid (W0.heap[w.heap.size + 1]? = some (.cells #[.int .i64 0, .int .i64 0] 40 (0, 0))) := Lib.hid (by rw [hW0]; have := heap_alloc_new (w.alloc (.cells #[.int .i64 r.1, .int .i64 r.2] 31)) (.cells #[.int .i64 0, .int .i64 0] 40); exact (heap_alloc_oldX _ _ (by simp)).trans (by simpa using this))
  have X6 : Hid (W0.heap[w.heap.size + 1 + 1]? = some (.cells #[.int .i64 0, .int .i64 0] 40 (0, 0))) := Lib.hid (by rw [hW0]; have := heap_alloc_new ((w.alloc (.cells #[.int .i64 r.1, .int .i64 r.2] 31)).alloc (.cells #[.int .i64 0, .int .i64 0] 40)) (.cells #[.int .i64 0, .int .i64 0] 40); simpa using this)
  have HR := Lib.hid hr
  clear h hlen hr
  go_enter Try.func41, Try.ntmps41
  go_wp2_with fail
  rw [← hW0]
  clear hW0
  go_loopw [7, 14] (fun v7 v14 wr => ∃ (j m : Nat), j ≤ B ∧ v14 = .int .i64 j ∧ m = (bestTo Ts r j).2 ∧ v7 = .int .i64 m ∧ wr.heap[w.heap.size]? = some (.cells #[.int .i64 r.1, .int .i64 r.2] 31 (0, 0)) ∧ wr.heap[w.heap.size + 1]? = some (.cells #[.int .i64 0, .int .i64 0] 40 (0, 0)) ∧ wr.heap[w.heap.size + 1 + 1]? = some (.cells #[.int .i64 (bestTo Ts r j).1.1, .int .i64 (bestTo Ts r j).1.2] 40 (0, 0)) ∧ Below w.heap.size w wr) (fun _ v14 _ => B - (intOf v14).toNat)
  case atStart => exact ⟨0, 0, Nat.zero_le _, rfl, rfl, rfl, X3.out, X4.out, X6.out, HB0.out⟩
  case round =>
    obtain ⟨j, m, hj, rfl, hm, rfl, x3, x4, x6, hb⟩ := hrel
    have HB := Lib.hid hb
    have Y3 := Lib.hid x3
    have Y4 := Lib.hid x4
    have Y6 := Lib.hid x6
    have hmN : m ≤ 1000 := by rw [hm]; exact bestTo_le Ts r 1000 HLN.out j
    have HM := Lib.hid hm
    have hws := hb.size
    clear hb hm
    by_cases hlt : j < B
    · have hrow := (HB.out.cell (p := ⟨G, j, none⟩) hG).trans (HT.out.row j hlt)
      have HTB := Lib.hid ((HT.out.below HB.out).tab j hlt)
      obtain ⟨a0, a1, -, -⟩ := cells2q x3
      have hl3 := lt_size x6
      have hatl := HLN.out j
      obtain ⟨q, hq⟩ : ∃ q, atT (Ts j) r = q := ⟨_, rfl⟩
      have HQ := Lib.hid hq
      obtain ⟨T, hTT⟩ : ∃ T, Ts j = T := ⟨_, rfl⟩
      rw [hTT] at hatl HTB HQ
      have HSU : Hid (bestTo Ts r (j + 1) = bestStep r (bestTo Ts r j) T) := Lib.hid (by rw [bestTo_succ, hTT])
      obtain ⟨k, hk⟩ : ∃ k, T.length = k := ⟨_, rfl⟩
      have HK := Lib.hid hk
      clear x3 x4 x6 hq hTT
      rw [hk] at hatl
      clear hk
      cases q with
      | none =>
        go_wp2_with (go_at_call 58; refine (atT_any r HTB.out (by rw [HK.out]; exact hatl) HR.out).mono ?_; rintro e w5 ⟨rfl, hb5⟩; rw [HQ.out]; have HB5 := Lib.hid hb5; clear hb5)
        have hs5 := HB5.out.size
        have hB8 : Below wr.heap.size wr (w5.alloc (.cells #[.int .i64 0, .int .i64 0] 40)) := HB5.out.alloc hs5 _
        have hbs : bestTo Ts r (j + 1) = bestTo Ts r j := by rw [HSU.out]; unfold bestStep; rw [if_neg (by rw [HQ.out]; simp)]
        go_roundw
        case rel =>
          refine ⟨j + 1, m, by omega, by go_num, by rw [hbs]; exact HM.out, rfl, (hB8.block _ (by omega)).trans Y3.out, (hB8.block _ (by omega)).trans Y4.out, ?_, HB.out.trans (hB8.mono hws)⟩
          rw [hbs]
          exact (hB8.block _ (by omega)).trans Y6.out
        case measure => simp [intOf]; omega
      | some at_ =>
        by_cases hmk : m < k
        · have hbs : Hid (bestTo Ts r (j + 1) = (at_, k)) := Lib.hid (by rw [HSU.out]; unfold bestStep; rw [if_pos ⟨by rw [HQ.out]; rfl, by rw [HK.out, ← HM.out]; exact hmk⟩, HQ.out, HK.out]; rfl)
          go_upto_region 8 with (first
            | (go_at_call 58; refine (atT_any r HTB.out (by rw [HK.out]; exact hatl) HR.out).mono ?_; rintro e w5 ⟨rfl, hb5⟩; rw [HQ.out]; have HB5 := Lib.hid hb5; clear hb5)
            | (go_at_call 59; refine (lenT_any (HTB.out.below (HB5.out.alloc HB5.out.size _)) (by rw [HK.out]; exact hatl)).mono ?_; rintro e w6 ⟨rfl, hb6⟩; rw [HK.out]; have HB6 := Lib.hid ((HB5.out.alloc HB5.out.size _).trans (hb6.mono (by have := HB5.out.size; simp; omega))); have HX6 := Lib.hid ((hb6.block w5.heap.size (by simp)).trans (heap_alloc_new w5 (.cells #[.int .i64 at_.1, .int .i64 at_.2] 40))); clear hb6))
          obtain ⟨p0, p1, -, -⟩ := cells2q HX6.out
          have hl6 := lt_size HX6.out
          have hs6 := HB5.out.size
          obtain ⟨q5, hq5⟩ : ∃ q5, q5 = w5.heap.size := ⟨_, rfl⟩
          have hz6 := (HB6.out.block (w.heap.size + 1 + 1) hl3).trans Y6.out
          have HZ6 := Lib.hid hz6
          obtain ⟨t0, t1, t2, t3⟩ := cells2q hz6
          have hl9 := lt_size hz6
          rw [← hq5] at p0 p1 hl6 HX6 ⊢
          have hq6 : w.heap.size + 1 + 1 < q5 := by omega
          clear hq5 hz6
          go_region_held3 (fun V => V.cell? ⟨q5, 0, none⟩ = some (.int .i64 at_.1) ∧ V.cell? ⟨q5, 1, none⟩ = some (.int .i64 at_.2))
            (first | (go_keep; done) | (exact ⟨(World.cell?_of_block (a := ⟨q5, 0, none⟩) ((Below.heap_setCell _ ⟨w.heap.size + 1 + 1, 1, none⟩ _ q5 (by show q5 ≠ w.heap.size + 1 + 1; omega)).trans (Below.heap_setCell _ ⟨w.heap.size + 1 + 1, 0, none⟩ _ q5 (by show q5 ≠ w.heap.size + 1 + 1; omega)))).trans (by assumption), (World.cell?_of_block (a := ⟨q5, 1, none⟩) ((Below.heap_setCell _ ⟨w.heap.size + 1 + 1, 1, none⟩ _ q5 (by show q5 ≠ w.heap.size + 1 + 1; omega)).trans (Below.heap_setCell _ ⟨w.heap.size + 1 + 1, 0, none⟩ _ q5 (by show q5 ≠ w.heap.size + 1 + 1; omega)))).trans (by assumption)⟩))
            ((go_at_call 59; refine (lenT_any (HTB.out.below (HB6.out.trans (Below.refl _ _).drew)) (by rw [HK.out]; exact hatl)).mono ?_; rintro e w7 ⟨rfl, hb7⟩; rw [HK.out]; have c70 : w7.cell? ⟨q5, 0, none⟩ = some (.int .i64 at_.1) := (hb7.cell (p := ⟨q5, 0, none⟩) hl6).trans p0; have c71 : w7.cell? ⟨q5, 1, none⟩ = some (.int .i64 at_.2) := (hb7.cell (p := ⟨q5, 1, none⟩) hl6).trans p1; have z7 := (hb7.block (w.heap.size + 1 + 1) hl9).trans HZ6.out; obtain ⟨t0, t1, t2, t3⟩ := cells2q z7; have Z7 := Lib.hid z7; have HB7 := Lib.hid hb7; clear hb7 z7))
          go_wp2_with fail
          have hs7 := HB7.out.size
          have hD7 : w6.drew.heap.size = w6.heap.size := rfl
          have hB67 : Below wr.heap.size wr w7 := (HB6.out.trans (Below.refl _ _).drew).trans (HB7.out.mono (by have := HB6.out.size; omega))
          have hfar : ∀ b, b ≠ w.heap.size + 1 + 1 → ((w7.setCell ⟨w.heap.size + 1 + 1, 0, none⟩ (.int .i64 at_.1)).setCell ⟨w.heap.size + 1 + 1, 1, none⟩ (.int .i64 at_.2)).heap[b]? = w7.heap[b]? := fun b hb => (Below.heap_setCell _ ⟨w.heap.size + 1 + 1, 1, none⟩ _ b hb).trans (Below.heap_setCell _ ⟨w.heap.size + 1 + 1, 0, none⟩ _ b hb)
          go_roundw
          case rel =>
            refine ⟨j + 1, k, by omega, by go_num, by rw [hbs.out], rfl, (hfar _ (by omega)).trans ((hB67.block _ (by omega)).trans Y3.out), (hfar _ (by omega)).trans ((hB67.block _ (by omega)).trans Y4.out), ?_, ((HB.out.trans (hB67.mono hws)).setCell (p := ⟨w.heap.size + 1 + 1, 0, none⟩) (by simp; omega) _).setCell (p := ⟨w.heap.size + 1 + 1, 1, none⟩) (by simp; omega) _⟩
            rw [hbs.out]
            exact two_set Z7.out _ _
          case measure => simp [intOf]; omega
        · have hbs : bestTo Ts r (j + 1) = bestTo Ts r j := by rw [HSU.out]; unfold bestStep; rw [if_neg fun h => hmk (by have := h.2; rw [HK.out, ← HM.out] at this; exact this)]
          go_wp2_with (first
            | (go_at_call 58; refine (atT_any r HTB.out (by rw [HK.out]; exact hatl) HR.out).mono ?_; rintro e w5 ⟨rfl, hb5⟩; rw [HQ.out]; have HB5 := Lib.hid hb5; clear hb5)
            | (go_at_call 59; refine (lenT_any (HTB.out.below (HB5.out.alloc HB5.out.size _)) (by rw [HK.out]; exact hatl)).mono ?_; rintro e w6 ⟨rfl, hb6⟩; rw [HK.out]; have HB6 := Lib.hid ((HB5.out.alloc HB5.out.size _).trans (hb6.mono (by have := HB5.out.size; simp; omega))); clear hb6))
          have hB8 := HB6.out
          go_roundw
          case rel =>
            refine ⟨j + 1, m, by omega, by go_num, by rw [hbs]; exact HM.out, rfl, (hB8.block _ (by omega)).trans Y3.out, (hB8.block _ (by omega)).trans Y4.out, ?_, HB.out.trans (hB8.mono hws)⟩
            rw [hbs]
            exact (hB8.block _ (by omega)).trans Y6.out
          case measure => simp [intOf]; omega
    · obtain rfl : j = B := by omega
      obtain ⟨b0, b1, b2, b3⟩ := cells2q x6
      obtain ⟨e0, e1, e2, e3⟩ := cells2q x4
      clear x3 x4 x6
      go_wp2_with fail
      have hz := (two_set Y4.out (.int .i64 (bestTo Ts r j).1.1) (.int .i64 (bestTo Ts r j).1.2))
      refine bodyPost_ret (results_pair rfl _ _ (w.heap.size + 1) _ _ rfl rfl (load_spot hz)) rfl ⟨?_, (HB.out.setCell (p := ⟨w.heap.size + 1, 0, none⟩) (by simp) _).setCell (p := ⟨w.heap.size + 1, 1, none⟩) (by simp) _⟩
      rw [HM.out]
      rfl
end
end Go.Proofs.Ytnadcdgpfopcaaa
