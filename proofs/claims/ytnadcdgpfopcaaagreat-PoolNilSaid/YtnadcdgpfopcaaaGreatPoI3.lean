/- A pool: stands, of a chip that has power. -/
import Derived.Test.YtnadcdgpfopcaaaGreatPoI2
namespace Go.Proofs.YtnadcdgpfopcaaaGreat
open Go.RowKit

section
variable {w w' V : World} {p c l f : Nat} {x y X Y Z : Nat → Prop} {Q Q1 : PS} {T : List Fd} {S : LS}
set_option maxRecDepth 100000 in
set_option maxHeartbeats 6000000 in
theorem q_stands (fd : Fd) (h : Held w c x S) (hdk : (rdL S fd.2.1 fd.2.2).2.1 ≠ 2) : Calls Tryz.prog 64 #[.pointer (some ⟨c, 0, none⟩), .agg #[.int .i64 fd.1.1, .int .i64 fd.1.2, .int .i64 fd.2.1, .int .i64 fd.2.2]] w fun e w' => ∃ v, e = .returned (.bool v) ∧ Hid ((∃ pg sq : Int, ∃ d, (rdL S fd.2.1 fd.2.2).1 = sheetL pg.toNat sq.toNat d ∧ MayS pg sq d ∧ v = decide (fd.1 = (pg, sq))) ∨ (NoSheet (rdL S fd.2.1 fd.2.2).1 ∧ v = false)) ∧ Held w' c x (rdL S fd.2.1 fd.2.2).2.2 ∧ Safe x w w' := by
  obtain ⟨⟨r1, r2⟩, s1, s2⟩ := fd
  simp only at hdk ⊢
  obtain ⟨W, hW⟩ : ∃ W, w.alloc (.cells #[.int .i64 r1, .int .i64 r2, .int .i64 s1, .int .i64 s2] 71) = W := ⟨_, rfl⟩
  have HBW : Hid (Below w.heap.size w W) := Lib.hid (by rw [← hW]; exact (Below.refl _ _).alloc (Nat.le_refl _) _)
  have HX : Hid (W.heap[w.heap.size]? = some (.cells #[.int .i64 r1, .int .i64 r2, .int .i64 s1, .int .i64 s2] 71 (0, 0))) := Lib.hid (by rw [← hW]; exact heap_alloc_new _ _)
  have HLT := Lib.hid (lt_size HX.out)
  have HH : Hid (Held W c (fun b => x b ∨ b = w.heap.size) S) := Lib.hid ((h.more HBW.out).less fun b k => k.imp id fun e => (by have := HLT.out; exact ⟨Nat.le_of_eq e.symm, by rw [e]; exact this⟩))
  have HDK := Lib.hid hdk
  have HPL := Lib.hid (h.page_len s1 s2)
  obtain ⟨a0, a1, a2, a3, -⟩ := cells4q HX.out
  obtain ⟨e1, he1⟩ : ∃ e1, (rdL S s1 s2).2.1 = e1 := ⟨_, rfl⟩
  rw [he1] at hdk
  have HE := Lib.hid he1
  have hd2 : (e1 == 2) = false := by simpa using hdk
  clear h hdk he1
  go_enter Tryz.func64, Tryz.ntmps64
  go_upto_region 5 with (first
    | (go_at_call 59; (with_reducible refine (held_read s1 s2 HH.out).mono ?_); rintro e w4 ⟨A4, L4, rfl, hL4, hc4, h4, hs4⟩; rw [HE.out]; have HP4 := Lib.hid h4; have HS4 := Lib.hid hs4; have HC4 : Hid (RB w4 w4.heap.size A4 L4) := (Lib.hid fun h0 => by obtain ⟨ad, e, k, hc⟩ := hc4 h0; exact ⟨ad, e, k.2, hc⟩); have HLL : Hid (L4.length ≤ 2000) := Lib.hid (by rw [hL4.out]; exact HPL.out); clear h4 hs4 hc4)
    | (go_at_call 60; (with_reducible refine (parse_sheet _ A4 _ L4 _ HC4.out (Nat.le_refl _) (by have := HLL.out; omega)).mono ?_); rintro e w5 ⟨hb5, hpp⟩; have HB5 := Lib.hid hb5; clear hb5; rcases hpp with ⟨pg, sq, A5, c5, d5, hl5, hm5, hr5, rfl⟩ | ⟨hn5, rfl⟩))
  · have HS5 : Hid (Safe (fun b => x b ∨ b = w.heap.size) W (w5.alloc (.cells #[.int .i64 pg, .int .i64 sq, .slice A5 d5.length c5] 47))) := Lib.hid (HS4.out.then (safe_of_below (HB5.out.alloc HB5.out.size _)))
    obtain ⟨b0, b1, b2, b3, -⟩ := cells4q ((HS5.out.block HLT.out (.inr rfl)).trans HX.out)
    obtain ⟨q0, q1, q2⟩ := cells3 (heap_alloc_new w5 (.cells #[.int .i64 pg, .int .i64 sq, .slice A5 d5.length c5] 47))
    clear hW
    have HB6 : Hid (Below w4.heap.size w4 (w5.alloc (.cells #[.int .i64 pg, .int .i64 sq, .slice A5 d5.length c5] 47))) := Lib.hid (HB5.out.alloc HB5.out.size _)
    have HEND : Hid (∀ v, v = decide ((r1, r2) = (pg, sq)) → (∃ pg sq : Int, ∃ d, (rdL S s1 s2).1 = sheetL pg.toNat sq.toNat d ∧ MayS pg sq d ∧ v = decide ((r1, r2) = (pg, sq))) ∨ (NoSheet (rdL S s1 s2).1 ∧ v = false)) := Lib.hid fun v hv => .inl ⟨pg, sq, d5, by rw [← hL4.out]; exact hl5.out, hm5.out, hv⟩
    go_wp2_with fail
    all_goals go_ret
    all_goals first
      | exact ⟨_, rfl, Lib.hid (HEND.out _ (by simp [*])), (HP4.out.below HB6.out).less fun b k => .inl (.inl k), ((safe_of_below HBW.out).then' HS5.out fun _ _ k => .inl k)⟩
      | exact ⟨_, rfl, Lib.hid (HEND.out _ (by simp [*])), (HP4.out.below HB6.out.drew).less fun b k => .inl (.inl k), ((safe_of_below HBW.out).then' (HS5.out.then (safe_of_below (Below.refl _ _).drew)) fun _ _ k => .inl k)⟩
      | refine ⟨_, rfl, Lib.hid (HEND.out _ (by simp [*])), ?_, ?_⟩
  · have HB6 : Hid (Below w4.heap.size w4 (w5.alloc (.cells #[.int .i64 0, .int .i64 0, .slice none 0 0] 47))) := Lib.hid (HB5.out.alloc HB5.out.size _)
    have HS5 : Hid (Safe (fun b => x b ∨ b = w.heap.size) W (w5.alloc (.cells #[.int .i64 0, .int .i64 0, .slice none 0 0] 47))) := Lib.hid (HS4.out.then (safe_of_below HB6.out))
    clear hW
    go_wp2_with fail
    go_ret
    exact ⟨_, rfl, Lib.hid (.inr ⟨by rw [← hL4.out]; exact hn5.out, rfl⟩), (HP4.out.below HB6.out).less fun b k => .inl (.inl k), ((safe_of_below HBW.out).then' HS5.out fun _ _ k => .inl k)⟩
end
end Go.Proofs.YtnadcdgpfopcaaaGreat
