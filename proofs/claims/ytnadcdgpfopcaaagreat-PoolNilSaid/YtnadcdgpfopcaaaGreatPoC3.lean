/- A pool: at. -/
import Derived.Test.YtnadcdgpfopcaaaGreatPoC2
namespace Go.Proofs.YtnadcdgpfopcaaaGreat
open Go.RowKit

section
variable {w w' : World} {p c l f : Nat} {x X Y Z : Nat → Prop} {Q : PS} {T : List Fd}
set_option maxRecDepth 100000 in
set_option maxHeartbeats 2000000 in
theorem q_at (r : P2) (h : Parts w p c l f Q) (ok : Ok Q) (hr : WfP r) : Calls Tryz.prog 57 #[.pointer (some ⟨p, 0, none⟩), P2V r] w fun e w' => e = .returned (.tuple #[P2V ((Q.at r).getD (0, 0)), .bool (Q.at r).isSome]) ∧ Below w.heap.size w w' := by
  have HR := Lib.hid hr
  obtain ⟨W, hW⟩ : ∃ W, (w.alloc (.cells #[.int .i64 r.1, .int .i64 r.2] 33)).alloc (.cells #[.int .i64 0, .int .i64 0] 69) = W := ⟨_, rfl⟩
  have HB : Hid (Below w.heap.size w W) := Lib.hid (by rw [← hW]; exact ((Below.refl _ _).alloc (Nat.le_refl _) _).alloc (by simp) _)
  have HW : Hid (W.heap[w.heap.size]? = some (.cells #[.int .i64 r.1, .int .i64 r.2] 33 (0, 0))) := Lib.hid (by rw [← hW]; exact (heap_alloc_oldX _ _ (by simp)).trans (heap_alloc_new w _))
  have HW2 : Hid (W.heap[w.heap.size + 1]? = some (.cells #[.int .i64 0, .int .i64 0] 69 (0, 0))) := Lib.hid (by rw [← hW]; have := heap_alloc_new (w.alloc (.cells #[.int .i64 r.1, .int .i64 r.2] 33)) (.cells #[.int .i64 0, .int .i64 0] 69); simpa using this)
  have HPlt : Hid (p < w.heap.size) := Lib.hid h.lt
  have HP := Lib.hid (h.below HB.out)
  have HL : Hid (Q.L.length ≤ 1000 ∧ Q.F.length ≤ 1000) := Lib.hid (by have := ok.tabs; omega)
  have c8 := HP.out.c8
  obtain ⟨e0, e1, -, -⟩ := cells2q HW.out
  obtain ⟨f0, f1, fr0, fr1⟩ := cells2q HW2.out
  have HS : Hid (∀ V, Below W.heap.size W V → V.cell? ⟨p, 8, none⟩ = some (.pointer (some ⟨f, 0, none⟩)) ∧ V.cell? ⟨w.heap.size, 0, none⟩ = some (.int .i64 r.1) ∧ V.cell? ⟨w.heap.size, 1, none⟩ = some (.int .i64 r.2)) := Lib.hid fun V hV => ⟨(HP.out.below hV).c8, (hV.cell (p := ⟨w.heap.size, 0, none⟩) (lt_size HW.out)).trans e0, (hV.cell (p := ⟨w.heap.size, 1, none⟩) (lt_size HW.out)).trans e1⟩
  clear h ok hr
  have HBR : Hid (∀ V, Below W.heap.size W V → V.heap[w.heap.size + 1]? = some (.cells #[.int .i64 0, .int .i64 0] 69 (0, 0))) := Lib.hid fun V hV => (hV.block _ (lt_size HW2.out)).trans HW2.out
  have HS7 : Hid (∀ V, Below W.heap.size W V → V.cell? ⟨p, 7, none⟩ = some (.pointer (some ⟨l, 0, none⟩)) ∧ V.cell? ⟨w.heap.size, 0, none⟩ = some (.int .i64 r.1) ∧ V.cell? ⟨w.heap.size, 1, none⟩ = some (.int .i64 r.2)) := Lib.hid fun V hV => ⟨(HP.out.below hV).c7, (HS.out V hV).2⟩
  have HS7b : Hid (∀ (a b : Value) (V : World), Below W.heap.size W V → (((V.setCell ⟨w.heap.size + 1, 0, none⟩ a).setCell ⟨w.heap.size + 1, 1, none⟩ b).cell? ⟨p, 7, none⟩ = some (.pointer (some ⟨l, 0, none⟩)) ∧ ((V.setCell ⟨w.heap.size + 1, 0, none⟩ a).setCell ⟨w.heap.size + 1, 1, none⟩ b).cell? ⟨w.heap.size, 0, none⟩ = some (.int .i64 r.1) ∧ ((V.setCell ⟨w.heap.size + 1, 0, none⟩ a).setCell ⟨w.heap.size + 1, 1, none⟩ b).cell? ⟨w.heap.size, 1, none⟩ = some (.int .i64 r.2))) := Lib.hid fun a b V hV => by
    have far : ∀ g, g ≠ w.heap.size + 1 → ((V.setCell ⟨w.heap.size + 1, 0, none⟩ a).setCell ⟨w.heap.size + 1, 1, none⟩ b).heap[g]? = V.heap[g]? := fun g hg => (Below.heap_setCell _ ⟨w.heap.size + 1, 1, none⟩ b g hg).trans (Below.heap_setCell V ⟨w.heap.size + 1, 0, none⟩ a g hg)
    obtain ⟨k1, k2, k3⟩ := HS7.out V hV
    exact ⟨(World.cell?_of_block (a := ⟨p, 7, none⟩) (far p (by have := HPlt.out; omega))).trans k1, (World.cell?_of_block (a := ⟨w.heap.size, 0, none⟩) (far _ (by simp))).trans k2, (World.cell?_of_block (a := ⟨w.heap.size, 1, none⟩) (far _ (by simp))).trans k3⟩
  cases hF : atT Q.F r with
  | some s =>
    have HF := Lib.hid hF
    have HE : Hid (Q.at r = some s) := Lib.hid (by unfold PS.at; rw [hF]; rfl)
    rw [HE.out]
    clear hF
    go_enter Tryz.func57, Tryz.ntmps57
    go_upto_region 1 with fail
    go_region_held3 (fun V => V.cell? ⟨p, 8, none⟩ = some (.pointer (some ⟨f, 0, none⟩)) ∧ V.cell? ⟨w.heap.size, 0, none⟩ = some (.int .i64 r.1) ∧ V.cell? ⟨w.heap.size, 1, none⟩ = some (.int .i64 r.2))
      (first | exact ⟨c8, e0, e1⟩ | exact HS.out _ HBB.out | exact HS.out _ (HBB.out.alloc HBB.out.size _) | exact HS.out _ ((Below.refl _ _).alloc (Nat.le_refl _) _).drew | exact HS.out _ ((Below.refl _ _).alloc (Nat.le_refl _) _) | exact HS.out _ ((HBB.out.setCell (Nat.le_refl _) _).setCell (Nat.le_refl _) _))
      (first
        | (go_at_call 92; (with_reducible refine (atT_any r (HP.out.fresh.below (Below.refl _ _).drew) HL.out.2 HR.out).mono ?_); rintro e w2 ⟨rfl, hb2⟩; rw [HF.out]; have HBB : Hid (Below W.heap.size W w2) := Lib.hid ((Below.refl _ _).drew.trans hb2))
        | (go_at_call 92; (with_reducible refine (atT_any r (HP.out.fresh.below ((Below.refl _ _).alloc (Nat.le_refl _) _).drew) HL.out.2 HR.out).mono ?_); rintro e w2 ⟨rfl, hb2⟩; rw [HF.out]; have HBB : Hid (Below W.heap.size W w2) := Lib.hid (((Below.refl _ _).alloc (Nat.le_refl _) _).drew.trans (hb2.mono (by simp))); obtain ⟨n0, n1, n2, n3⟩ := cells2q ((hb2.block W.heap.size (by simp)).trans (heap_alloc_new W _))))
    · obtain ⟨V, hV⟩ : ∃ V, w2.alloc (.cells #[.int .i64 s.1, .int .i64 s.2] 69) = V := ⟨_, rfl⟩
      have HBV : Hid (Below W.heap.size W V) := Lib.hid (by rw [← hV]; exact HBB.out.alloc HBB.out.size _)
      have hg : V.heap[w2.heap.size]? = some (.cells #[.int .i64 s.1, .int .i64 s.2] 69 (0, 0)) := by rw [← hV]; exact heap_alloc_new w2 _
      rw [hV]
      obtain ⟨g0, g1, -, -⟩ := cells2q hg
      generalize w2.heap.size = gz at *
      clear hV hg hb2
      have hr1 := (HBR.out V HBV.out)
      obtain ⟨f0, f1, fr0, fr1⟩ := cells2q hr1
      have HRS := Lib.hid hr1
      clear hr1
      obtain ⟨m0, m1, -, -⟩ := cells2q (two_set HRS.out (.int .i64 s.1) (.int .i64 s.2))
      go_wp2_with fail
      refine bodyPost_ret (by simp [results, Tryz.results57, go_sem, m0, m1]; try rfl) rfl ?_
      exact ⟨rfl, ((HB.out.trans (HBV.out.mono HB.out.size)).setCell (by simp) _).setCell (by simp) _⟩
    · obtain ⟨V, hV⟩ : ∃ V, (w2.setCell ⟨W.heap.size, 0, none⟩ (.int .i64 s.1)).setCell ⟨W.heap.size, 1, none⟩ (.int .i64 s.2) = V := ⟨_, rfl⟩
      have HBV : Hid (Below W.heap.size W V) := Lib.hid (by rw [← hV]; exact (HBB.out.setCell (Nat.le_refl _) _).setCell (Nat.le_refl _) _)
      have hg : V.heap[W.heap.size]? = some (.cells #[.int .i64 s.1, .int .i64 s.2] 69 (0, 0)) := by rw [← hV]; exact two_set ((hb2.block W.heap.size (by simp)).trans (heap_alloc_new W _)) _ _
      rw [hV]
      obtain ⟨g0, g1, -, -⟩ := cells2q hg
      generalize W.heap.size = gz at g0 g1 ⊢
      clear hV hg hb2 n0 n1 n2 n3
      have hr1 := (HBR.out V HBV.out)
      obtain ⟨f0, f1, fr0, fr1⟩ := cells2q hr1
      have HRS := Lib.hid hr1
      clear hr1
      obtain ⟨m0, m1, -, -⟩ := cells2q (two_set HRS.out (.int .i64 s.1) (.int .i64 s.2))
      go_wp2_with fail
      refine bodyPost_ret (by simp [results, Tryz.results57, go_sem, m0, m1]; try rfl) rfl ?_
      exact ⟨rfl, ((HB.out.trans (HBV.out.mono HB.out.size)).setCell (by simp) _).setCell (by simp) _⟩
  | none =>
    have HF := Lib.hid hF
    have HE : Hid (Q.at r = atT Q.L r) := Lib.hid (by unfold PS.at; rw [hF]; rfl)
    rw [HE.out]
    clear hF
    go_enter Tryz.func57, Tryz.ntmps57
    go_upto_region 1 with fail
    go_region_held3 (fun V => V.cell? ⟨p, 8, none⟩ = some (.pointer (some ⟨f, 0, none⟩)) ∧ V.cell? ⟨w.heap.size, 0, none⟩ = some (.int .i64 r.1) ∧ V.cell? ⟨w.heap.size, 1, none⟩ = some (.int .i64 r.2))
      (first | exact ⟨c8, e0, e1⟩ | exact HS.out _ HBB.out | exact HS.out _ (HBB.out.alloc HBB.out.size _) | exact HS.out _ ((Below.refl _ _).alloc (Nat.le_refl _) _).drew | exact HS.out _ ((Below.refl _ _).alloc (Nat.le_refl _) _) | exact HS.out _ ((HBB.out.setCell (Nat.le_refl _) _).setCell (Nat.le_refl _) _))
      (first
        | (go_at_call 92; (with_reducible refine (atT_any r (HP.out.fresh.below (Below.refl _ _).drew) HL.out.2 HR.out).mono ?_); rintro e w2 ⟨rfl, hb2⟩; rw [HF.out]; have HBB : Hid (Below W.heap.size W w2) := Lib.hid ((Below.refl _ _).drew.trans hb2))
        | (go_at_call 92; (with_reducible refine (atT_any r (HP.out.fresh.below ((Below.refl _ _).alloc (Nat.le_refl _) _).drew) HL.out.2 HR.out).mono ?_); rintro e w2 ⟨rfl, hb2⟩; rw [HF.out]; have HBB : Hid (Below W.heap.size W w2) := Lib.hid (((Below.refl _ _).alloc (Nat.le_refl _) _).drew.trans (hb2.mono (by simp))); obtain ⟨n0, n1, n2, n3⟩ := cells2q ((hb2.block W.heap.size (by simp)).trans (heap_alloc_new W _))))
    · obtain ⟨V, hV⟩ : ∃ V, w2.alloc (.cells #[.int .i64 0, .int .i64 0] 69) = V := ⟨_, rfl⟩
      have HBV : Hid (Below W.heap.size W V) := Lib.hid (by rw [← hV]; exact HBB.out.alloc HBB.out.size _)
      have hg : V.heap[w2.heap.size]? = some (.cells #[.int .i64 0, .int .i64 0] 69 (0, 0)) := by rw [← hV]; exact heap_alloc_new w2 _
      rw [hV]
      obtain ⟨g0, g1, -, -⟩ := cells2q hg
      generalize w2.heap.size = gz at *
      clear hV hg hb2
      have hr1 := (HBR.out V HBV.out)
      obtain ⟨f0, f1, fr0, fr1⟩ := cells2q hr1
      have HRS := Lib.hid hr1
      clear hr1
      obtain ⟨c7, e0, e1⟩ := HS7.out V HBV.out
      have HV2 : Hid (∀ v0 v1 : Int, ∀ V2, Below W.heap.size W V2 → ((V2.setCell ⟨w.heap.size + 1, 0, none⟩ (.int .i64 v0)).setCell ⟨w.heap.size + 1, 1, none⟩ (.int .i64 v1)).heap[w.heap.size + 1]? = some (.cells #[.int .i64 v0, .int .i64 v1] 69 (0, 0))) := Lib.hid fun v0 v1 V2 h2 => two_set (HBR.out V2 h2) _ _
      go_upto_region 4 with fail
      go_region_held3 (fun V => V.cell? ⟨p, 7, none⟩ = some (.pointer (some ⟨l, 0, none⟩)) ∧ V.cell? ⟨w.heap.size, 0, none⟩ = some (.int .i64 r.1) ∧ V.cell? ⟨w.heap.size, 1, none⟩ = some (.int .i64 r.2))
        (first | exact ⟨c7, e0, e1⟩ | exact HS7.out _ HB9.out | exact HS7b.out _ _ _ HB9.out)
        (first
          | (go_at_call 92; (with_reducible refine (atT_any r (HP.out.live.below HBV.out.drew) HL.out.1 HR.out).mono ?_); rintro e w9 ⟨rfl, hb9⟩; have HB9 : Hid (Below W.heap.size W w9) := Lib.hid (HBV.out.drew.trans (hb9.mono HBV.out.size)); obtain ⟨q0, q1, q2, q3⟩ := cells2q (HBR.out w9 HB9.out); obtain ⟨m0, m1, -, -⟩ := cells2q (HV2.out ((atT Q.L r).getD (0, 0)).1 ((atT Q.L r).getD (0, 0)).2 w9 HB9.out)))
      go_wp2_with fail
      refine bodyPost_ret (by simp [results, Tryz.results57, go_sem, m0, m1]; try rfl) rfl ?_
      exact ⟨rfl, ((HB.out.trans (HB9.out.mono HB.out.size)).setCell (by simp) _).setCell (by simp) _⟩
    · obtain ⟨V, hV⟩ : ∃ V, (w2.setCell ⟨W.heap.size, 0, none⟩ (.int .i64 0)).setCell ⟨W.heap.size, 1, none⟩ (.int .i64 0) = V := ⟨_, rfl⟩
      have HBV : Hid (Below W.heap.size W V) := Lib.hid (by rw [← hV]; exact (HBB.out.setCell (Nat.le_refl _) _).setCell (Nat.le_refl _) _)
      have hg : V.heap[W.heap.size]? = some (.cells #[.int .i64 0, .int .i64 0] 69 (0, 0)) := by rw [← hV]; exact two_set ((hb2.block W.heap.size (by simp)).trans (heap_alloc_new W _)) _ _
      rw [hV]
      obtain ⟨g0, g1, -, -⟩ := cells2q hg
      generalize W.heap.size = gz at g0 g1 ⊢
      clear hV hg hb2 n0 n1 n2 n3
      have hr1 := (HBR.out V HBV.out)
      obtain ⟨f0, f1, fr0, fr1⟩ := cells2q hr1
      have HRS := Lib.hid hr1
      clear hr1
      obtain ⟨c7, e0, e1⟩ := HS7.out V HBV.out
      have HV2 : Hid (∀ v0 v1 : Int, ∀ V2, Below W.heap.size W V2 → ((V2.setCell ⟨w.heap.size + 1, 0, none⟩ (.int .i64 v0)).setCell ⟨w.heap.size + 1, 1, none⟩ (.int .i64 v1)).heap[w.heap.size + 1]? = some (.cells #[.int .i64 v0, .int .i64 v1] 69 (0, 0))) := Lib.hid fun v0 v1 V2 h2 => two_set (HBR.out V2 h2) _ _
      go_upto_region 4 with fail
      go_region_held3 (fun V => V.cell? ⟨p, 7, none⟩ = some (.pointer (some ⟨l, 0, none⟩)) ∧ V.cell? ⟨w.heap.size, 0, none⟩ = some (.int .i64 r.1) ∧ V.cell? ⟨w.heap.size, 1, none⟩ = some (.int .i64 r.2))
        (first | exact ⟨c7, e0, e1⟩ | exact HS7.out _ HB9.out | exact HS7b.out _ _ _ HB9.out)
        (first
          | (go_at_call 92; (with_reducible refine (atT_any r (HP.out.live.below HBV.out.drew) HL.out.1 HR.out).mono ?_); rintro e w9 ⟨rfl, hb9⟩; have HB9 : Hid (Below W.heap.size W w9) := Lib.hid (HBV.out.drew.trans (hb9.mono HBV.out.size)); obtain ⟨q0, q1, q2, q3⟩ := cells2q (HBR.out w9 HB9.out); obtain ⟨m0, m1, -, -⟩ := cells2q (HV2.out ((atT Q.L r).getD (0, 0)).1 ((atT Q.L r).getD (0, 0)).2 w9 HB9.out)))
      go_wp2_with fail
      refine bodyPost_ret (by simp [results, Tryz.results57, go_sem, m0, m1]; try rfl) rfl ?_
      exact ⟨rfl, ((HB.out.trans (HB9.out.mono HB.out.size)).setCell (by simp) _).setCell (by simp) _⟩
end
end Go.Proofs.YtnadcdgpfopcaaaGreat
