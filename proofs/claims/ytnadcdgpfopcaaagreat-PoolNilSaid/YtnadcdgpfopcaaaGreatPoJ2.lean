/- A pool that every program must know: awake of layer 10. -/
import Derived.Lib.SlBytesConst
import Derived.Test.YtnadcdgpfopcaaaGreatPoJ1
namespace Go.Proofs.YtnadcdgpfopcaaaGreat
open Go.RowKit

attribute [local go_sem] Oper.semAt_some
section
theorem rb_at1 {V : World} {q : Nat} (b : UInt8) {t : TypeId} {fr : Nat × Nat} (h : V.heap[q]? = some (.cells #[.int .u8 b.toNat] t fr)) : RB V V.heap.size (some ⟨q, 0, none⟩) [b] := fun _ => ⟨⟨q, 0, none⟩, rfl, (Array.getElem?_eq_some_iff.1 h).1, fun j hj => by
  obtain rfl : j = 0 := by simpa using hj
  simp [World.cell?, Addr.add, h, ub]⟩
theorem rb_lit1 (w : World) (l : List UInt8) (t : TypeId) (fr : Nat × Nat) : RB (w.alloc (.cells (l.map ub).toArray t fr)) (w.heap.size + 1) (some ⟨w.heap.size, 0, none⟩) l := fun _ => ⟨_, rfl, by simp, fun j hj => by
  have := World.cell?_alloc_mark w (l.map ub).toArray t fr j
  have e : (⟨w.heap.size, 0, none⟩ : Addr).add j = ⟨w.heap.size, j, none⟩ := by unfold Addr.add; split <;> simp_all
  rw [e, this]
  simp [hj]⟩
theorem rlies_at1 {V : World} {q : Nat} (r : P2) {t : TypeId} (h : V.heap[q]? = some (.cells #[.int .i64 r.1, .int .i64 r.2] t (0, 0))) : RLies V (some ⟨q, 0, none⟩) [r] := fun _ => ⟨_, 0, rfl, lt_size h, fun j hj => by
  obtain rfl : j = 0 := by simpa using hj
  simp [World.cell?, h]⟩
theorem eql_ref (a b : P2) (w : World) : Sem.run Tryz.prog (binOp BinOp.eql 33 (P2V a) (P2V b)) w = .ok (.bool (decide (a = b))) w := by
  have e : (a = b) ↔ (a.1 = b.1 ∧ a.2 = b.2) := Prod.ext_iff
  by_cases h1 : a.1 = b.1 <;> by_cases h2 : a.2 = b.2 <;> simp [go_sem, e, h1, h2]
theorem aOk0 : Ok aQ0 := ok_new (B := 6) (P := 4) [] (by decide) 0 0 (by decide) (by decide)
theorem aOk1 : Ok aQ1 := aOk0.put aPut
theorem aOk2 : Ok aQ2 := aOk1.sealQ aSeal
theorem aFits : FitsP 6 4 1 4 3 0 := of_decide_eq_true (by kernel_rfl)
set_option maxRecDepth 100000 in
set_option maxHeartbeats 4000000 in
theorem awake_any (w : World) : Calls Tryz.prog 10 #[] w fun e w' => e = .returned (.bool true) ∧ Below w.heap.size w w' := by
  have kc := fun (w : World) (C : Array Value) (n c : Nat) => Lib.run_convert_bytes_const (P := Tryz.prog) w 34 5 C n c Tryz.underlying34 Tryz.underlying5
  have HX0 := Lib.hid (heap_alloc_new w (.cells #[.int .i64 6, .int .i64 4, .int .i64 1, .int .i64 4, .int .i64 3] 23))
  have HB0 := Lib.hid ((Below.refl w.heap.size w).alloc (Nat.le_refl _) (.cells #[.int .i64 6, .int .i64 4, .int .i64 1, .int .i64 4, .int .i64 3] 23))
  go_enter Tryz.func10, Tryz.ntmps10
  go_wp2_with (first
    | (go_at_call 34; refine (held_new 6 4 none 0 [] (fun h => absurd h (by simp)) (by simp) (by decide) (by decide) (by decide) (by decide)).mono ?_; rintro e w1 ⟨c, rfl, hH, hB⟩; have HH := Lib.hid hH; have HB1 := Lib.hid (HB0.out.trans (hB.mono HB0.out.size)); have hx1 := (hB.block w.heap.size (by simp)).trans HX0.out; have k0 : w1.cell? ⟨w.heap.size, 0, none⟩ = some (.int .i64 6) := (by simp [World.cell?, hx1]); have k1 : w1.cell? ⟨w.heap.size, 1, none⟩ = some (.int .i64 4) := (by simp [World.cell?, hx1]); have k2 : w1.cell? ⟨w.heap.size, 2, none⟩ = some (.int .i64 1) := (by simp [World.cell?, hx1]); have k3 : w1.cell? ⟨w.heap.size, 3, none⟩ = some (.int .i64 4) := (by simp [World.cell?, hx1]); have k4 : w1.cell? ⟨w.heap.size, 4, none⟩ = some (.int .i64 3) := (by simp [World.cell?, hx1]); clear hH hB hx1)
    | fail)
  have HS0 : Hid (∀ b, b < w.heap.size + 1 → b < (w.alloc (.cells #[.int .i64 6, .int .i64 4, .int .i64 1, .int .i64 4, .int .i64 3] 23)).heap.size) := Lib.hid fun b hb => by simp; omega
  go_wp2_with (first
    | (go_at_call 27; refine (q_open 6 4 1 4 3 0 0 (HH.out.less HS0.out) (by decide) (by decide) rfl aFits rfl rfl (by decide) (by decide) rfl).mono ?_; rintro e w2 ⟨p, rfl, hP, hS⟩; have HP2 : Hid (Pool w2 p c (fun b => b < w.heap.size + 1) aQ0) := Lib.hid hP; have HS2 := Lib.hid hS; clear hP hS)
    | fail)
  obtain ⟨W3, hW3⟩ : ∃ W3, W3 = w2.alloc (.cells #[.int .u8 120] 5 (1, 2)) := ⟨_, rfl⟩
  have hx3 : W3.heap[w2.heap.size]? = some (.cells #[.int .u8 120] 5 (1, 2)) := by rw [hW3]; exact Array.getElem?_push_size
  have HB3 : Hid (Below w2.heap.size w2 W3) := Lib.hid (by rw [hW3]; exact (Below.refl _ _).alloc (Nat.le_refl _) _)
  have HR3 : Hid (RB W3 W3.heap.size (some ⟨w2.heap.size, 0, none⟩) [120]) := Lib.hid (rb_at1 120 hx3)
  have HP3 := Lib.hid (HP2.out.below HB3.out)
  rw [← hW3]
  clear hW3 hx3
  refine (q_put 4 3 (some ⟨w2.heap.size, 0, none⟩) 1 [120] HP3.out aOk0 HR3.out aPut).mono ?_
  rintro e w4 ⟨rfl, hP4, hS4⟩
  have HP4 := Lib.hid hP4
  have HS4 : Hid (Safe (fun b => b < w.heap.size + 1) w2 w4) := Lib.hid ((safe_of_below HB3.out).then hS4)
  obtain ⟨W5, hW5⟩ : ∃ W5, W5 = ((w4.alloc (.cells #[.int .i64 3, .int .i64 1] 33)).alloc (.cells #[.int .u8 114, .int .u8 111, .int .u8 111, .int .u8 116] 5 (4, 5))) := ⟨_, rfl⟩
  obtain ⟨W6, hW6⟩ : ∃ W6, W6 = W5.alloc (.cells #[.int .i64 3, .int .i64 1] 33) := ⟨_, rfl⟩
  have hz5 : W5.heap.size = w4.heap.size + 1 + 1 := by rw [hW5]; simp
  have hx5 : W5.heap[w4.heap.size]? = some (.cells #[.int .i64 3, .int .i64 1] 33 (0, 0)) := by rw [hW5]; exact (heap_alloc_oldX _ _ (by simp)).trans (heap_alloc_new w4 _)
  have hy5 : RB W5 W5.heap.size (some ⟨w4.heap.size + 1, 0, none⟩) [114, 111, 111, 116] := by
    have h := rb_lit1 (w4.alloc (.cells #[.int .i64 3, .int .i64 1] 33)) [114, 111, 111, 116] 5 (4, 5)
    rw [show (w4.alloc (.cells #[.int .i64 3, .int .i64 1] 33)).heap.size = w4.heap.size + 1 by simp] at h
    rw [hz5, hW5]
    exact h
  have hb45 : Below w4.heap.size w4 W5 := by rw [hW5]; exact ((Below.refl _ _).alloc (Nat.le_refl _) _).alloc (by simp) _
  have hb56 : Below W5.heap.size W5 W6 := by rw [hW6]; exact (Below.refl _ _).alloc (Nat.le_refl _) _
  have hx6 : W6.heap[W5.heap.size]? = some (.cells #[.int .i64 3, .int .i64 1] 33 (0, 0)) := by rw [hW6]; exact heap_alloc_new _ _
  have HB46 : Hid (Below w4.heap.size w4 W6) := Lib.hid (hb45.trans (hb56.mono hb45.size))
  have HR6 : Hid (RB W6 W6.heap.size (some ⟨w4.heap.size + 1, 0, none⟩) [114, 111, 111, 116]) := Lib.hid ((hy5.below hb56 (Nat.le_refl _)).mono hb56.size)
  have HL6 : Hid (RLies W6 (some ⟨W5.heap.size, 0, none⟩) [(3, 1)]) := Lib.hid (rlies_at1 (3, 1) hx6)
  have HX6 : Hid (W6.heap[w4.heap.size]? = some (.cells #[.int .i64 3, .int .i64 1] 33 (0, 0))) := Lib.hid ((hb56.block _ (by omega)).trans hx5)
  have HP6 := Lib.hid (HP4.out.more HB46.out)
  have hw6 : W5.heap.size < W6.heap.size := lt_size hx6
  have kc2 := kc (w4.alloc (.cells #[.int .i64 3, .int .i64 1] 33)) #[.int .u8 114, .int .u8 111, .int .u8 111, .int .u8 116] 4 4
  simp only [World.size_alloc] at kc2
  clear kc
  go_wp2_with fail
  rw [← hW5, ← hW6]
  rw [hz5] at HL6 hw6
  clear hW5 hW6 kc2 hx5 hy5 hb45 hb56 hx6
  refine (q_seal 4 (some ⟨w4.heap.size + 1, 0, none⟩) 4 [114, 111, 111, 116] (some ⟨w4.heap.size + 1 + 1, 0, none⟩) 1 [(3, 1)] HP6.out aOk1 HR6.out HL6.out (fun _ ad e => by cases e; exact .inr ⟨by show w4.heap.size ≤ w4.heap.size + 1 + 1; omega, hw6⟩) (by simp) (by intro r hr; obtain rfl : r = (3, 1) := (by simpa using hr); exact ⟨rfl, rfl⟩) aSeal).mono ?_
  rintro e w7 ⟨rfl, hP7, hS7⟩
  have HP7 := Lib.hid hP7
  have HS7 := Lib.hid hS7
  have hx7 := (hS7.block (by omega) (.inr ⟨Nat.le_refl _, by omega⟩)).trans HX6.out
  have hl7 := lt_size hx7
  have HX7 := Lib.hid hx7
  obtain ⟨k0, k1, -, -⟩ := cells2q hx7
  clear hP7 hS7 hx7
  have HQR : Hid (aQ2.readQ (3, 1) = { aQ2 with S := { aQ2.S with rd := 1 } }) := Lib.hid (by
    unfold PS.readQ
    rw [aAt]
    dsimp only
    rw [aGone, aRd, if_neg (by simp)]
    rfl)
  go_wp2_with (first
    | (go_at_call 26; refine (q_read (3, 1) HP7.out aOk2 ⟨rfl, rfl⟩).mono ?_; rintro e w8 ⟨A8, m8, d8, er8, rfl, hr8, ht8, hP8, hS8⟩; obtain ⟨rfl, rfl⟩ := aTells ht8.out; have HR8 := Lib.hid hr8; have HP8 := Lib.hid hP8; have HS8 := Lib.hid hS8; have hx8 := (hS8.block hl7 (.inr ⟨Nat.le_refl _, by omega⟩)).trans HX7.out; obtain ⟨k0, k1, -, -⟩ := cells2q hx8; have ks : (convert 34 9 (.slice A8 1 m8)).run Tryz.prog w8 = .ok (.string ⟨#[120]⟩) w8 := run_str hr8 m8; clear hr8 ht8 hP8 hS8 hx8)
    | fail)
  have ok8 := aOk2.readQ (3, 1)
  have hp8 := HP8.out
  have hl8 : (allT (aQ2.readQ (3, 1)).L).length = 2 := by rw [HQR.out]; kernel_rfl
  have hs8 : (aQ2.readQ (3, 1)).seq = 2 := by rw [HQR.out]; kernel_rfl
  obtain ⟨lp, fp, hpt⟩ := hp8.parts
  have HPT := Lib.hid hpt
  have HOK := Lib.hid ok8
  have HL8 := Lib.hid hl8
  have HQ8 := Lib.hid hs8
  clear hp8 hpt ok8 hl8 hs8 HQR
  go_wp2_with (first
    | (go_at_call 29; refine (q_live HPT.out HOK.out).mono ?_; rintro e w9 ⟨A9, m9, rfl, hv9⟩; rw [HL8.out]; have HV9 := Lib.hid hv9; clear hv9)
    | (go_at_call 31; refine (q_seq (HPT.out.below HV9.out.2.2.2)).mono ?_; rintro e w10 ⟨rfl, hw⟩; obtain rfl := hw; rw [HQ8.out])
    | fail)
  go_ret
  refine ⟨rfl, ?_⟩
  have st : ∀ (x : Nat → Prop) (V V' : World), (∀ b, b < w.heap.size → x b) → Below w.heap.size w V → Safe x V V' → Below w.heap.size w V' := fun x V V' hx hv hs => ⟨hs.os.trans hv.os, hs.tape.trans hv.tape, hs.output.trans hv.output, Nat.le_trans hv.size hs.size, fun b hb => (hs.block (Nat.lt_of_lt_of_le hb hv.size) (hx b hb)).trans (hv.block b hb)⟩
  have a1 := HB1.out
  have a2 := st _ _ _ (fun b hb => by omega) a1 HS2.out
  have a4 := st _ _ _ (fun b hb => by omega) a2 HS4.out
  have a6 := a4.trans (HB46.out.mono a4.size)
  have a7 := st _ _ _ (fun b hb => .inl (by omega)) a6 HS7.out
  have a8 := st _ _ _ (fun b hb => .inl (by omega)) a7 HS8.out
  exact a8.trans (HV9.out.2.2.2.mono a8.size)
end
end Go.Proofs.YtnadcdgpfopcaaaGreat
