/- A pool: root, Seal. -/
import Derived.Test.YtnadcdgpfopcaaaGreatPoG5
namespace Go.Proofs.YtnadcdgpfopcaaaGreat
open Go.RowKit

section
variable {w w' V : World} {p c l f : Nat} {x y X Y Z : Nat → Prop} {Q Q1 : PS} {T : List Fd} {S : LS}
set_option maxRecDepth 100000 in
set_option maxHeartbeats 4000000 in
theorem q_root (n : Nat) (A : Option Addr) (m : Nat) (d : List UInt8) (A0 : Option Addr) (m0 : Nat) (l0 : List P2) {er : Int} {rt : Fd} {Q' : PS} (h : Pool w p c x Q) (ok : Ok Q) (hd : RB w w.heap.size A d) (hl : RLies w A0 l0) (hlen : l0.length ≤ 1000) (hwf : ∀ r ∈ l0, WfP r) (hm : Q.root n d l0 = some (er, rt, Q')) : Calls Tryz.prog 65 #[.pointer (some ⟨p, 0, none⟩), .slice A d.length m, .slice A0 l0.length m0] w fun e w' => e = .returned (.tuple #[FdV rt, .int .i64 er]) ∧ Pool w' p c x Q' ∧ Safe x w w' := by
  obtain ⟨W, hW⟩ : ∃ W, w.alloc (.cells #[.int .i64 0, .int .i64 0, .int .i64 0, .int .i64 0] 71) = W := ⟨_, rfl⟩
  have HBW : Hid (Below w.heap.size w W) := Lib.hid (by rw [← hW]; exact (Below.refl _ _).alloc (Nat.le_refl _) _)
  have HRB : Hid (W.heap[w.heap.size]? = some (.cells #[.int .i64 0, .int .i64 0, .int .i64 0, .int .i64 0] 71 (0, 0))) := Lib.hid (by rw [← hW]; exact heap_alloc_new _ _)
  have hrlt := lt_size HRB.out
  have HPW : Hid (Pool W p c (fun b => x b ∨ b = w.heap.size) Q) := Lib.hid ((h.more HBW.out).less fun b k => k.imp id fun e => ⟨by omega, by omega⟩)
  obtain ⟨lw, fw, hptw⟩ := HPW.out.parts
  have HTW := Lib.hid hptw
  have HDW : Hid (RB W W.heap.size A d) := Lib.hid ((hd.below HBW.out (Nat.le_refl _)).mono HBW.out.size)
  have HLW := Lib.hid (hl.below HBW.out)
  have HO := Lib.hid ok
  have HWF := Lib.hid hwf
  have HRR : Hid (∀ V, Safe (fun b => x b ∨ b = w.heap.size) W V → V.heap[w.heap.size]? = some (.cells #[.int .i64 0, .int .i64 0, .int .i64 0, .int .i64 0] 71 (0, 0))) := Lib.hid fun V hV => (hV.block hrlt (.inr rfl)).trans HRB.out
  unfold PS.root at hm
  clear h ok hd hl hwf hptw
  by_cases hs : Q.sheetE 0 d = 0
  case neg =>
    rw [if_pos (.inl hs)] at hm
    have HE : Hid (er = 1 ∧ rt = ((0, 0), (0, 0)) ∧ Q' = Q) := Lib.hid (by have := Option.some.inj hm; exact ⟨(congrArg (fun z : Int × Fd × PS => z.1) this).symm, (congrArg (fun z : Int × Fd × PS => z.2.1) this).symm, (congrArg (fun z : Int × Fd × PS => z.2.2) this).symm⟩)
    obtain ⟨es, hes⟩ : ∃ es, es = Q.sheetE 0 d := ⟨_, rfl⟩
    rw [← hes] at hs
    have HES := Lib.hid hes
    clear hm hes
    go_enter Tryz.func65, Tryz.ntmps65
    go_upto_region 3 with (go_at_call 53; (with_reducible refine (q_sheet 0 A m d HTW.out HO.out HDW.out).mono ?_); rintro e w2 ⟨A2, c2, L2, rfl, hL2, hc2, hb2⟩; rw [← HES.out]; have HB2 := Lib.hid hb2; clear hc2 hb2 hL2)
    have HS2 : Hid (Safe (fun b => x b ∨ b = w.heap.size) W w2) := Lib.hid (safe_of_below HB2.out)
    obtain ⟨f0, f1, f2, f3, fr0, fr1, fr2, fr3⟩ := cells4q (HRR.out w2 HS2.out)
    obtain ⟨m0', m1, m2, m3, -⟩ := cells4q (four_set (HRR.out w2 HS2.out) (.int .i64 0) (.int .i64 0) (.int .i64 0) (.int .i64 0))
    clear hW
    go_wp2_with fail
    refine bodyPost_ret (by simp [results, Tryz.results65, go_sem, m0', m1, m2, m3]; try rfl) rfl ?_
    rw [HE.out.1, HE.out.2.1, HE.out.2.2]
    exact ⟨rfl, ((HPW.out.below HB2.out).four (.inr rfl) _ _ _ _).less fun b k => .inl k, safe_four ((safe_of_below HBW.out).then' HS2.out fun _ _ k => .inl k) (Nat.le_refl _) _ _ _ _⟩
  case pos =>
    have HES := Lib.hid hs
    have HSQ := Lib.hid (sheetE_seq hs).2.1.2
    cases hy : Q.may l0 with
    | false =>
      rw [if_pos (.inr hy)] at hm
      have HE : Hid (er = 1 ∧ rt = ((0, 0), (0, 0)) ∧ Q' = Q) := Lib.hid (by have := Option.some.inj hm; exact ⟨(congrArg (fun z : Int × Fd × PS => z.1) this).symm, (congrArg (fun z : Int × Fd × PS => z.2.1) this).symm, (congrArg (fun z : Int × Fd × PS => z.2.2) this).symm⟩)
      have HY := Lib.hid hy
      clear hm hy hs
      go_enter Tryz.func65, Tryz.ntmps65
      go_upto_region 3 with (first
        | (go_at_call 53; (with_reducible refine (q_sheet 0 A m d HTW.out HO.out HDW.out).mono ?_); rintro e w2 ⟨A2, c2, L2, rfl, hL2, hc2, hb2⟩; rw [HES.out]; have HB2 := Lib.hid hb2; clear hc2 hb2 hL2)
        | (go_at_call 101; (with_reducible refine (q_may A0 m0 l0 (HTW.out.below HB2.out) HO.out (HLW.out.below HB2.out) hlen HWF.out).mono ?_); rintro e w3 ⟨rfl, hb3⟩; rw [HY.out]; have HB3 := Lib.hid (HB2.out.trans (hb3.mono HB2.out.size)); clear hb3))
      have HS2 : Hid (Safe (fun b => x b ∨ b = w.heap.size) W w3) := Lib.hid (safe_of_below HB3.out)
      obtain ⟨f0, f1, f2, f3, fr0, fr1, fr2, fr3⟩ := cells4q (HRR.out w3 HS2.out)
      obtain ⟨m0', m1, m2, m3, -⟩ := cells4q (four_set (HRR.out w3 HS2.out) (.int .i64 0) (.int .i64 0) (.int .i64 0) (.int .i64 0))
      clear hW
      go_wp2_with fail
      refine bodyPost_ret (by simp [results, Tryz.results65, go_sem, m0', m1, m2, m3]; try rfl) rfl ?_
      rw [HE.out.1, HE.out.2.1, HE.out.2.2]
      exact ⟨rfl, ((HPW.out.below HB3.out).four (.inr rfl) _ _ _ _).less fun b k => .inl k, safe_four ((safe_of_below HBW.out).then' HS2.out fun _ _ k => .inl k) (Nat.le_refl _) _ _ _ _⟩
    | true =>
      rw [if_neg (by rintro (k | k); exact k hs; rw [hy] at k; cases k)] at hm
      have HM := Lib.hid hm
      have HY := Lib.hid hy
      clear hm hy hs
      go_enter Tryz.func65, Tryz.ntmps65
      go_upto_region 4 with (first
        | (go_at_call 53; (with_reducible refine (q_sheet 0 A m d HTW.out HO.out HDW.out).mono ?_); rintro e w2 ⟨A2, c2, L2, rfl, hL2, hc2, hb2⟩; rw [HES.out]; have HB2 := Lib.hid hb2; have HC2 := Lib.hid hc2; clear hc2 hb2)
        | (go_at_call 101; (with_reducible refine (q_may A0 m0 l0 (HTW.out.below HB2.out) HO.out (HLW.out.below HB2.out) hlen HWF.out).mono ?_); rintro e w3 ⟨rfl, hb3⟩; rw [HY.out]; have HB3 := Lib.hid (HB2.out.trans (hb3.mono HB2.out.size)); have HC3 : Hid (CB w3 (fun b => (x b ∨ b = w.heap.size) ∨ New W w3 b) A2 L2) := Lib.hid (HC2.out.keep (fun b k => hb3.block b k.2) fun b k => .inr ⟨k.1, Nat.lt_of_lt_of_le k.2 hb3.size⟩); clear hb3))
      have HS3 : Hid (Safe (fun b => x b ∨ b = w.heap.size) W w3) := Lib.hid (safe_of_below HB3.out)
      have HP3 := Lib.hid (HPW.out.more HB3.out)
      have HG3 : Hid (Q.give n 0 L2 = some (er, rt, Q')) := Lib.hid (by rw [hL2.out]; exact HM.out)
      clear hL2 hW
      go_wp2_with (go_at_call 55; (with_reducible refine (q_give n 0 A2 c2 L2 HP3.out HO.out HSQ.out HC3.out HG3.out).mono ?_); rintro e w4 ⟨rfl, h4, hs4⟩; have HP4 := Lib.hid h4; have HS4 : Hid (Safe (fun b => x b ∨ b = w.heap.size) W w4) := Lib.hid (HS3.out.then' hs4 fun _ _ k => .inl k); obtain ⟨f0, f1, f2, f3, fr0, fr1, fr2, fr3⟩ := cells4q (HRR.out w4 HS4.out); clear h4 hs4)
      obtain ⟨m0', m1, m2, m3, -⟩ := cells4q (four_set (HRR.out w4 HS4.out) (.int .i64 rt.1.1) (.int .i64 rt.1.2) (.int .i64 rt.2.1) (.int .i64 rt.2.2))
      refine bodyPost_ret (by simp [results, Tryz.results65, go_sem, m0', m1, m2, m3]; try rfl) rfl ?_
      exact ⟨rfl, (HP4.out.four (.inl (.inr rfl)) _ _ _ _).less fun b k => .inl (.inl k), safe_four ((safe_of_below HBW.out).then' HS4.out fun _ _ k => .inl k) (Nat.le_refl _) _ _ _ _⟩
def PS.sealQ (n : Nat) (Q : PS) (d : List UInt8) (l : List P2) : Option (Int × PS) :=
  match Q.root n d l with
  | none => none
  | some (er, rt, Q1) =>
    if er = 0 then (if WfP rt.1 ∧ WfP rt.2 ∧ (Q1.named rt l).length ≤ 200 then some (0, ({ Q1 with L := Q1.named rt l } : PS).undo) else none)
    else some (er, Q1.undo)
theorem Ok.sealQ {n : Nat} {d : List UInt8} {l : List P2} {er : Int} {Q' : PS} (h : Ok Q) (hm : Q.sealQ n d l = some (er, Q')) : Ok Q' := by
  unfold PS.sealQ at hm
  split at hm
  · cases hm
  · next h1 =>
    have h2 := h.root h1
    split at hm
    · split at hm
      · next h5 => cases hm; exact { h2 with tabs := ⟨h5.2.2, by simp [PS.undo]⟩ }
      · cases hm
    · cases hm; exact h2.undo
set_option maxRecDepth 100000 in
set_option maxHeartbeats 4000000 in
theorem q_seal (n : Nat) (A : Option Addr) (m : Nat) (d : List UInt8) (A0 : Option Addr) (m0 : Nat) (l0 : List P2) {er : Int} {Q' : PS} (h : Pool w p c x Q) (ok : Ok Q) (hd : RB w w.heap.size A d) (hl : RLies w A0 l0) (hx : 0 < l0.length → ∀ ad, A0 = some ad → x ad.block) (hlen : l0.length ≤ 200) (hwf : ∀ r ∈ l0, WfP r) (hm : Q.sealQ n d l0 = some (er, Q')) : Calls Tryz.prog 28 #[.pointer (some ⟨p, 0, none⟩), .slice A d.length m, .slice A0 l0.length m0] w fun e w' => e = .returned (.int .i64 er) ∧ Pool w' p c x Q' ∧ Safe x w w' := by
  obtain ⟨lw, fw, hptw⟩ := h.parts
  have HTW := Lib.hid hptw
  have HP := Lib.hid h
  have HD := Lib.hid hd
  have HL := Lib.hid hl
  have HX := Lib.hid hx
  have HO := Lib.hid ok
  have HWF := Lib.hid hwf
  unfold PS.sealQ at hm
  cases hr : Q.root n d l0 with
  | none => rw [hr] at hm; cases hm
  | some R =>
    obtain ⟨e1, rt, Q1⟩ := R
    rw [hr] at hm
    simp only at hm
    have HR := Lib.hid hr
    have HO1 := Lib.hid (ok.root hr)
    have HM := Lib.hid hm
    clear h ok hd hl hx hwf hptw hm hr
    go_enter Tryz.func28, Tryz.ntmps28
    go_upto_region 4 with (first
      | (go_at_call 52; (with_reducible refine (q_is HTW.out).mono ?_); rintro e w1 ⟨rfl, hw1⟩; subst hw1)
      | (go_at_call 65; (with_reducible refine (q_root n A m d A0 m0 l0 HP.out HO.out HD.out HL.out (by omega) HWF.out HR.out).mono ?_); rintro e w2 ⟨rfl, h2, hs2⟩; have HP2 := Lib.hid h2; have HS2 := Lib.hid hs2; clear h2 hs2))
    have HB3 : Hid (Below w2.heap.size w2 (w2.alloc (.cells #[.int .i64 rt.1.1, .int .i64 rt.1.2, .int .i64 rt.2.1, .int .i64 rt.2.2] 71))) := Lib.hid ((Below.refl _ _).alloc (Nat.le_refl _) _)
    have hg3 := heap_alloc_new w2 (.cells #[.int .i64 rt.1.1, .int .i64 rt.1.2, .int .i64 rt.2.1, .int .i64 rt.2.2] 71)
    generalize w2.alloc (.cells #[.int .i64 rt.1.1, .int .i64 rt.1.2, .int .i64 rt.2.1, .int .i64 rt.2.2] 71) = w3 at HB3 hg3 ⊢
    have HP3 := Lib.hid (HP2.out.below HB3.out)
    have HS3 : Hid (Safe x w w3) := Lib.hid (HS2.out.then (safe_of_below HB3.out))
    by_cases he : e1 = 0
    · subst he
      have hm := HM.out
      rw [if_pos rfl] at hm
      by_cases hw : WfP rt.1 ∧ WfP rt.2 ∧ (Q1.named rt l0).length ≤ 200
      case neg => rw [if_neg hw] at hm; cases hm
      case pos =>
        rw [if_pos hw] at hm
        have HE : Hid (er = 0 ∧ Q' = ({ Q1 with L := Q1.named rt l0 } : PS).undo) := Lib.hid (by have := Option.some.inj hm; exact ⟨(congrArg (fun z : Int × PS => z.1) this).symm, (congrArg (fun z : Int × PS => z.2) this).symm⟩)
        have HW := Lib.hid hw
        clear hm hw HM
        obtain ⟨l3, f3, hpt3⟩ := HP3.out.parts
        have HT3 := Lib.hid hpt3
        obtain ⟨b0, b1, b2, b3, -⟩ := cells4q hg3
        have HL3 := Lib.hid (HL.out.safe HS3.out HX.out)
        clear hpt3 hg3
        go_upto_region 6 with (go_at_call 66; (with_reducible refine (q_named rt A0 m0 l0 HT3.out HO1.out HL3.out hlen HWF.out ⟨HW.out.1, HW.out.2.1⟩).mono ?_); rintro e w4 ⟨t, rfl, ht4, hb4⟩; have HT4 := Lib.hid ht4; have HB4 := Lib.hid hb4; have c7 := (HT3.out.below hb4).c7; have fr7 := (HT3.out.below hb4).fr 7; clear ht4 hb4)
        obtain ⟨hp5, hs5⟩ := Pool.relive HP3.out HB4.out HT4.out
        have HP5 := Lib.hid hp5
        have HS5 := Lib.hid (HS3.out.then hs5)
        clear hp5 hs5 b0 b1 b2 b3 c7 fr7
        generalize w4.setCell ⟨p, 7, none⟩ (.pointer (some ⟨t, 0, none⟩)) = w5 at HP5 HS5 ⊢
        go_wp2_with (go_at_call 12; (with_reducible refine (q_undo HP5.out).mono ?_); rintro e w6 ⟨rfl, h6, hs6⟩; have HP6 := Lib.hid h6; have HS6 := Lib.hid hs6; clear h6 hs6)
        go_ret
        rw [HE.out.1, HE.out.2]
        exact ⟨rfl, HP6.out, HS5.out.then HS6.out⟩
    · have HE : Hid (er = e1 ∧ Q' = Q1.undo) := Lib.hid (by have hm := HM.out; rw [if_neg he] at hm; have := Option.some.inj hm; exact ⟨(congrArg (fun z : Int × PS => z.1) this).symm, (congrArg (fun z : Int × PS => z.2) this).symm⟩)
      clear HM hg3
      go_wp2_with (go_at_call 12; (with_reducible refine (q_undo HP3.out).mono ?_); rintro e w6 ⟨rfl, h6, hs6⟩; have HP6 := Lib.hid h6; have HS6 := Lib.hid hs6; clear h6 hs6)
      go_ret
      rw [HE.out.1, HE.out.2]
      exact ⟨rfl, HP6.out, HS3.out.then HS6.out⟩
end
end Go.Proofs.YtnadcdgpfopcaaaGreat
