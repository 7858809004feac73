/- Open, where a page that is named is empty. -/
import Derived.Test.YtnadcdgpfopcaaaGreatPoJ3
namespace Go.Proofs.YtnadcdgpfopcaaaGreat
open Go.RowKit

theorem no_sheet_nil (p s : Int) (d : List UInt8) : ([] : List UInt8) ≠ sheetL p.toNat s.toNat d := fun e => by
  have := congrArg List.length e
  simp [sheetL] at this
section
variable {w w' : World} {p c : Nat} {x : Nat → Prop} {S : LS}
set_option maxRecDepth 100000 in
set_option maxHeartbeats 4000000 in
theorem open_empty (B P Sp K U seq : Int) (A : Option Addr) (m : Nat) (fd : Fd) (h : Held w c x S) (hsu : ∀ V S', Held V c x S' → S'.bl = S.bl → Calls Tryz.prog 61 #[.pointer (some ⟨c, 0, none⟩), .agg #[.int .i64 B, .int .i64 P, .int .i64 Sp, .int .i64 K, .int .i64 U], .int .i64 0] V fun e w' => e = .returned (.bool true) ∧ Below V.heap.size V w') (hl : FLies w A [fd]) (hA : A = none → False) (hwf : WfP fd.1) (hrd : (rdL S fd.2.1 fd.2.2).1 = []) (hdk : (rdL S fd.2.1 fd.2.2).2.1 ≠ 2) : Calls Tryz.prog 27 #[.pointer (some ⟨c, 0, none⟩), .agg #[.int .i64 B, .int .i64 P, .int .i64 Sp, .int .i64 K, .int .i64 U], .int .i64 0, .slice A 1 m, .int .i64 seq] w fun e w' => e = .returned (.tuple #[.pointer none, .int .i64 1]) ∧ Safe x w w' := by
  obtain ⟨W, hW⟩ : ∃ W, w.alloc (.cells #[.int .i64 B, .int .i64 P, .int .i64 Sp, .int .i64 K, .int .i64 U] 23) = W := ⟨_, rfl⟩
  have HBW : Hid (Below w.heap.size w W) := Lib.hid (by rw [← hW]; exact (Below.refl _ _).alloc (Nat.le_refl _) _)
  have HX : Hid (W.heap[w.heap.size]? = some (.cells #[.int .i64 B, .int .i64 P, .int .i64 Sp, .int .i64 K, .int .i64 U] 23 (0, 0))) := Lib.hid (by rw [← hW]; exact heap_alloc_new _ _)
  have HH := Lib.hid h
  have HSU := Lib.hid hsu
  have HL := Lib.hid hl
  have HRD := Lib.hid hrd
  have HDK := Lib.hid hdk
  have htw : twiceP [fd.1] = false := by unfold twiceP; simp
  have HTW := Lib.hid htw
  obtain ⟨a0, a1, a2, a3, a4⟩ := cfg5 HX.out
  clear h hsu hl hrd hdk htw
  go_enter Tryz.func27, Tryz.ntmps27
  by_cases hs1 : seq < 0
  · go_wp2_with (go_at_call 61; refine (HSU.out _ S (HH.out.below HBW.out) rfl).mono ?_; rintro e w2 ⟨rfl, k2⟩; have HB2 := Lib.hid (HBW.out.trans (k2.mono HBW.out.size)); clear k2)
    go_ret2
    exact ⟨rfl, safe_of_below HB2.out⟩
  · by_cases hs2 : 1099511627776 < seq
    · go_wp2_with (go_at_call 61; refine (HSU.out _ S (HH.out.below HBW.out) rfl).mono ?_; rintro e w2 ⟨rfl, k2⟩; have HB2 := Lib.hid (HBW.out.trans (k2.mono HBW.out.size)); clear k2)
      go_ret2
      exact ⟨rfl, safe_of_below HB2.out⟩
    · go_wp2_with (first
        | (go_at_call 61; refine (HSU.out _ S (HH.out.below HBW.out) rfl).mono ?_; rintro e w2 ⟨rfl, k2⟩; have HB2 := Lib.hid (HBW.out.trans (k2.mono HBW.out.size)); clear k2)
        | (go_at_call 63; refine (q_refs A m [fd] w2 (HL.out.below HB2.out) (by simp)).mono ?_; rintro e w3 ⟨A3, m3, rfl, k1, k3, k4, k5⟩; have HB3 := Lib.hid (HB2.out.trans (k5.mono HB2.out.size)); have HR3 := Lib.hid k1; clear k1 k3 k4 k5)
        | (go_at_call 62; refine (q_twice A3 m3 [fd.1] _ HR3.out (by simp) (by intro r hr; obtain rfl : r = fd.1 := (by simpa using hr); exact hwf)).mono ?_; rintro e w4 ⟨rfl, k2⟩; rw [HTW.out]; have HB4 := Lib.hid (HB3.out.trans (k2.mono HB3.out.size)); clear k2)
        | (go_at_call 43; refine (newT_any _).mono ?_; rintro e w5 ⟨t, rfl, ht, k2⟩; have HB5 := Lib.hid (HB4.out.trans (k2.mono HB4.out.size)); clear ht k2)
        | fail)
      obtain ⟨G, o, rfl, hG, hc⟩ := (HL.out.below HB5.out) (by simp)
      obtain ⟨k0, k1, k2, k3⟩ := hc 0 (by simp)
      simp only [Nat.zero_mul, Nat.add_zero, List.getElem_cons_zero] at k0 k1 k2 k3
      obtain ⟨W6, hW6⟩ : ∃ W6, W6 = w5.alloc (.cells #[.int .i64 fd.1.1, .int .i64 fd.1.2, .int .i64 fd.2.1, .int .i64 fd.2.2] 71) := ⟨_, rfl⟩
      have HB6 : Hid (Below w.heap.size w W6) := Lib.hid (by rw [hW6]; exact HB5.out.alloc HB5.out.size _)
      have HK6 : Hid (W6.heap[w5.heap.size]? = some (.cells #[.int .i64 fd.1.1, .int .i64 fd.1.2, .int .i64 fd.2.1, .int .i64 fd.2.2] 71 (0, 0))) := Lib.hid (by rw [hW6]; exact heap_alloc_new _ _)
      have HH6 := Lib.hid (HH.out.below HB6.out)
      clear hc
      refine wp_loop_rounds 1 ?_
      rw [rounds_succ]
      go_upto_region 7 with fail
      rw [← hW6]
      clear hW6 k0 k1 k2 k3
      obtain ⟨k0, k1, k2, k3, -⟩ := cells4q HK6.out
      go_wp2_with (first
        | (go_at_call 64; refine (q_stands fd HH6.out HDK.out).mono ?_; rintro e w7 ⟨v, rfl, hv, hh7, hs7⟩; have hvf : v = false := (by rcases hv.out with ⟨pg, sq, d, e1, -, -⟩ | ⟨-, e2⟩; rw [HRD.out] at e1; exact absurd e1 (no_sheet_nil _ _ _); exact e2); rw [hvf]; have HS7 := Lib.hid hs7; clear hh7 hs7)
        | fail)
      go_ret2
      exact ⟨rfl, (safe_of_below HB6.out).then HS7.out⟩
end
end Go.Proofs.YtnadcdgpfopcaaaGreat
