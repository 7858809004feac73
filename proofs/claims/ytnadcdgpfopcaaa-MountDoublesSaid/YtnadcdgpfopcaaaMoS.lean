/- A chip that every program must know: the law's own function awake. -/
import Derived.Lib.SlBytesConst
import Derived.Test.YtnadcdgpfopcaaaMoQ
import Derived.Test.YtnadcdgpfopcaaaGr
namespace Go.Proofs.Ytnadcdgpfopcaaa
open Go.RowKit Go.Maps Go.Shelf

attribute [local go_sem] Oper.semAt_some
theorem rb_lit1 (w : World) (l : List UInt8) (t : TypeId) (fr : Nat × Nat) : RB (w.alloc (.cells (l.map ub).toArray t fr)) (w.heap.size + 1) (some ⟨w.heap.size, 0, none⟩) l := fun _ => ⟨_, rfl, by simp, fun j hj => by
  have := World.cell?_alloc_mark w (l.map ub).toArray t fr j
  have e : (⟨w.heap.size, 0, none⟩ : Addr).add j = ⟨w.heap.size, j, none⟩ := by unfold Addr.add; split <;> simp_all
  rw [e, this]
  simp [hj]⟩
section
set_option maxRecDepth 100000 in
set_option maxHeartbeats 4000000 in
theorem awake_any (w : World) : Calls Try.prog 9 #[] w fun e w' => e = .returned (.bool true) ∧ Below w.heap.size w w' := by
  have kc := fun (w : World) (C : Array Value) (n c : Nat) => Lib.run_convert_bytes_const (P := Try.prog) w 26 5 C n c Try.underlying26 Try.underlying5
  go_enter Try.func9, Try.ntmps9
  go_wp2_with (go_at_call 11; refine (held_new 3 2 none 0 [] (fun h => absurd h (by simp)) (by simp) (by decide) (by decide) (by decide) (by decide)).mono ?_; rintro e w1 ⟨c, rfl, hH, hB⟩)
  have HH := Lib.hid hH
  have HB := Lib.hid hB
  have hs1 := hB.size
  clear hH hB
  have hlit : RB (w1.alloc (.cells #[.int .u8 114] 5 (1, 2))) (w1.heap.size + 1) (some ⟨w1.heap.size, 0, none⟩) [114] := rb_lit1 w1 [114] 5 (1, 2)
  go_wp2_with fail
  refine (refsheet_any (w1.heap.size + 1) 0 4 _ 1 [114] _ hlit (by simp)).mono ?_
  rintro e w2 ⟨A2, c2, L2, er, rfl, hL2, her, hl2, hr2, hf2, hb2⟩
  obtain rfl : L2 = rB := by rw [hL2.out, if_pos rB_may]; exact rB_is
  rw [if_pos rB_may] at her
  subst her
  have hs2 := hb2.size
  have hb12 : Below w1.heap.size w1 w2 := (((Below.refl _ w1).alloc (Nat.le_refl _) (.cells #[.int .u8 114] 5 (1, 2))).trans (hb2.mono (by simp)))
  have hh2 : Held w2 c (fun b => b < w.heap.size ∨ New w1 w2 b) aS0 := HH.out.grow (.of_below hb12)
  have hcb : CB w2 (fun b => b < w.heap.size ∨ New w1 w2 b) A2 rB := fun h0 => by
    obtain ⟨ad, e, k1, k2⟩ := hr2 h0
    exact ⟨ad, e, .inr ⟨by have := hf2 ad e; simp at this; omega, k1⟩, k2⟩
  have HH2 := Lib.hid hh2
  have HCB := Lib.hid hcb
  have hz12 := hb12.size
  have HB2 : Hid (Below w.heap.size w w2) := Lib.hid (HB.out.trans (hb12.mono hs1))
  clear hh2 hcb hb12 hL2 hl2 hr2 hf2 hb2 hlit kc hs2
  go_wp2_with (go_at_call 13; refine (held_prog A2 c2 rB 1 0 HH2.out HCB.out).mono ?_; rintro e w3 ⟨rfl, hh3, hsf3⟩; rw [aS_prog]; have HH3 := Lib.hid hh3; have HS3 := Lib.hid hsf3; have hz3 := hsf3.size; clear hh3 hsf3)
  have good0 : MGood (startM aS1) := ⟨start_ok HH3.out (by rw [show aS1.bl.length = 3 from aM0_good.1]; decide), by simp [startM]⟩
  have good1 : MGood aM1 := by have := good0.stepped 4; rwa [show (startM aS1).stepped 4 = aM1 from aM1_is] at this
  have good2 : MGood aM2 := by have := good1.stepped 4; rwa [aM2_is] at this
  have G0 := Lib.hid good0
  have G1 := Lib.hid good1
  have G2 := Lib.hid good2
  clear good0 good1 good2
  go_wp2_with (go_at_call 14; refine (m_new (S := aS1) HH3.out (by rw [show aS1.bl.length = 3 from aM0_good.1]; decide)).mono ?_; rintro e w4 ⟨s, rfl, hsc, hb4⟩; have HSC := Lib.hid hsc; have HB4 := Lib.hid hb4; have hz4 := hb4.size; clear hsc hb4)
  go_wp2_with (go_at_call 15; refine (m_step 4 HSC.out G0.out (by decide) aM0_good.2.2.1).mono ?_; rintro e w5 ⟨rfl, hsc, hsf⟩; rw [show (startM aS1).stepped 4 = aM1 from aM1_is] at hsc ⊢; rw [aM1_thr]; have HSC5 := Lib.hid hsc; have HS5 := Lib.hid hsf; have hz5 := hsf.size; clear hsc hsf)
  go_wp2_with (go_at_call 15; refine (m_step 4 HSC5.out G1.out (by decide) aM0_good.2.2.2).mono ?_; rintro e w6 ⟨rfl, hsc, hsf⟩; rw [aM2_is] at hsc ⊢; rw [aM2_thr]; have HSC6 := Lib.hid hsc; have HS6 := Lib.hid hsf; have hz6 := hsf.size; clear hsc hsf)
  obtain ⟨Y6, v6, A6, cap6, h6, f6⟩ := HSC6.out
  have H6 := Lib.hid h6
  clear h6 f6
  have HB6 : Hid (Below w.heap.size w w6) := Lib.hid (by
    have a1 : Safe (fun b => b < w.heap.size) w2 w3 := HS3.out.mono' fun b hb k => hb (.inl k)
    have a2 : Below w.heap.size w w3 := HB2.out.trans ⟨a1.os, a1.tape, a1.output, a1.size, fun b hb => a1.block (by omega) hb⟩
    have a3 := a2.trans (HB4.out.mono a2.size)
    have a4 : Below w.heap.size w4 w5 := ⟨HS5.out.os, HS5.out.tape, HS5.out.output, HS5.out.size, fun b hb => HS5.out.block (by omega) (.inl (.inl hb))⟩
    have a5 : Below w.heap.size w5 w6 := ⟨HS6.out.os, HS6.out.tape, HS6.out.output, HS6.out.size, fun b hb => HS6.out.block (by omega) (.inl (.inl hb))⟩
    exact (a3.trans a4).trans a5)
  go_wp2_with (go_at_call 17; refine (m_root H6.out G2.out.ok (by decide)).mono ?_; rintro e w7 ⟨A7, c7, L7, rfl, hL7, hr7, hb7⟩; rw [aM2_tells]; obtain rfl : L7 = [114] := (by rw [hL7.out, aM2_tells]; rfl); have HR7 := Lib.hid hr7; have HB7 := Lib.hid hb7; have hz7 := hb7.size; clear hL7 hr7 hb7)
  obtain ⟨W8, hW8⟩ : ∃ W8, W8 = ((w7.alloc (.cells #[.int .i64 aM2.rp, .int .i64 aM2.rs, .slice A7 1 c7] 28)).alloc (.cells #[.int .i64 0, .int .i64 4] 31)) := ⟨_, rfl⟩
  have hz8 : W8.heap.size = w7.heap.size + 2 := by rw [hW8]; simp
  have hbx : W8.heap[w7.heap.size]? = some (.cells #[.int .i64 aM2.rp, .int .i64 aM2.rs, .slice A7 1 c7] 28 (0, 0)) := by rw [hW8]; exact (heap_alloc_oldX _ _ (by simp)).trans (heap_alloc_new w7 _)
  have hrf : W8.heap[w7.heap.size + 1]? = some (.cells #[.int .i64 0, .int .i64 4] 31 (0, 0)) := by rw [hW8]; have := heap_alloc_new (w7.alloc (.cells #[.int .i64 aM2.rp, .int .i64 aM2.rs, .slice A7 1 c7] 28)) (.cells #[.int .i64 0, .int .i64 4] 31); simpa using this
  have hb78 : Below w7.heap.size w7 W8 := by rw [hW8]; exact ((Below.refl _ _).alloc (Nat.le_refl _) _).alloc (by simp) _
  have hb68 : Below w6.heap.size w6 W8 := HB7.out.trans (hb78.mono hz7)
  have h8 := H6.out.grow (F := fun _ => False) (.of_below hb68) fun _ k => k.elim
  have hlr : RLies W8 (some ⟨w7.heap.size + 1, 0, none⟩) [(0, 4)] := fun _ => ⟨_, 0, rfl, by omega, fun j hj => by
    obtain rfl : j = 0 := by simpa using hj
    simp [World.cell?, hrf]⟩
  have HBX := Lib.hid hbx
  have HB78 := Lib.hid hb78
  have HB68 := Lib.hid hb68
  have H8 := Lib.hid h8
  have HLR := Lib.hid hlr
  have hwf : Hid (∀ f ∈ aM2.fd, WfP f.1 ∧ WfP f.2 ∧ 0 ≤ f.2.1 ∧ f.2.1 < aM2.B) := Lib.hid fun f hf => by
    have e : f = ((0, 4), (1, 0)) := by simpa [aM2, aM1] using hf
    subst e
    exact ⟨⟨rfl, rfl⟩, ⟨rfl, rfl⟩, by decide, by decide⟩
  go_wp2_with fail
  rw [← hW8]
  clear hW8 hbx hrf hb78 hb68 h8 hlr
  refine (m_pick H8.out G2.out.ok hwf.out (by decide) (some ⟨w7.heap.size + 1, 0, none⟩) 1 [(0, 4)] HLR.out (by decide) (by intro r hr; obtain rfl : r = (0, 4) := (by simpa using hr); exact ⟨rfl, rfl⟩)).mono ?_
  rintro e w9 ⟨A9, c9, rfl, fl9, hA9, hN9, hb9⟩
  rw [aM2_pickF] at fl9
  rw [aM2_pickF, aM2_pickE]
  obtain ⟨B9, o9, rfl, hB9, hc9⟩ := fl9 (by simp)
  obtain ⟨-, -, q2, -⟩ := hc9 0 (by simp)
  have k2 : w9.cell? ⟨B9, o9 + 2, none⟩ = some (.int .i64 1) := by simpa using q2
  have HK2 := Lib.hid k2
  have hs9 := hb9.size
  have HC7 : Hid (w9.cell? ⟨w7.heap.size, 2, none⟩ = some (.slice A7 1 c7)) := Lib.hid ((World.cell?_of_block (hb9.block w7.heap.size (by omega))).trans (by simp [World.cell?, HBX.out]))
  have HR9 : Hid (RB w9 w7.heap.size A7 [114]) := Lib.hid ((HR7.out.below HB78.out (Nat.le_refl _)).below hb9 (by omega))
  have H9 := Lib.hid (H8.out.grow (F := fun _ => False) (.of_below hb9) fun _ k => k.elim)
  have HB9 : Hid (Below w.heap.size w w9) := Lib.hid (HB6.out.trans ((HB68.out.trans (hb9.mono (by omega))).mono HB6.out.size))
  clear hA9 hN9 hb9 hc9 q2 k2 fl9 hwf
  have k7 := HC7.out
  have ks : (convert 26 9 (.slice A7 1 c7)).run Try.prog w9 = .ok (.string ⟨#[114]⟩) w9 := run_str HR9.out c7
  go_wp2_with (go_at_call 18; refine (m_seq H9.out G2.out.ok (by decide)).mono ?_; rintro e w10 ⟨rfl, hb10⟩; rw [aM2_seq]; have k2 := (hb10.cell (p := ⟨B9, o9 + 2, none⟩) hB9).trans HK2.out; have HB10 := Lib.hid hb10; clear hb10)
  go_ret
  exact ⟨rfl, HB9.out.trans (HB10.out.mono HB9.out.size)⟩
end
end Go.Proofs.Ytnadcdgpfopcaaa
