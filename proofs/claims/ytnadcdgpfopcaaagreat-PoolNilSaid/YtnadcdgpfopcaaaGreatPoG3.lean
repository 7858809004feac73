/- A pool: named. -/
import Derived.Test.YtnadcdgpfopcaaaGreatPoG2
namespace Go.Proofs.YtnadcdgpfopcaaaGreat
open Go.RowKit

section
variable {w w' V : World} {p c l f : Nat} {x y X Y Z : Nat → Prop} {Q Q1 : PS} {T : List Fd} {S : LS}
/-- Refs lie at A. -/
def RLies (w : World) (A : Option Addr) (l : List P2) : Prop :=
  0 < l.length → ∃ B o, A = some ⟨B, o, none⟩ ∧ B < w.heap.size ∧ ∀ j (h : j < l.length), w.cell? ⟨B, o + j * 2, none⟩ = some (.int .i64 l[j].1) ∧ w.cell? ⟨B, o + j * 2 + 1, none⟩ = some (.int .i64 l[j].2)
theorem RLies.below {A : Option Addr} {l : List P2} (h : RLies w A l) (hb : Below w.heap.size w w') : RLies w' A l := fun hn => by
  obtain ⟨B, o, e, hB, hc⟩ := h hn
  exact ⟨B, o, e, Nat.lt_of_lt_of_le hB hb.size, fun j hj => ⟨(hb.cell (p := ⟨B, o + j * 2, none⟩) hB).trans (hc j hj).1, (hb.cell (p := ⟨B, o + j * 2 + 1, none⟩) hB).trans (hc j hj).2⟩⟩
def PS.name1 (Q : PS) (T : List Fd) (r : P2) : List Fd := match Q.at r with
  | none => T
  | some s => putT T r s
def PS.nameTo (Q : PS) (l : List P2) : List Fd := l.foldl Q.name1 []
def PS.named (Q : PS) (rt : Fd) (l : List P2) : List Fd := putT (Q.nameTo l) rt.1 rt.2
theorem nameTo_snoc (Q : PS) (l : List P2) {j : Nat} (h : j < l.length) : Q.nameTo (l.take (j + 1)) = Q.name1 (Q.nameTo (l.take j)) l[j] := by
  unfold PS.nameTo
  rw [List.take_succ_eq_append_getElem h, List.foldl_append]; rfl
theorem name1_len (Q : PS) (T : List Fd) (r : P2) : (Q.name1 T r).length ≤ T.length + 1 := by
  unfold PS.name1
  split
  · omega
  · exact putT_len _ _ _
theorem at_wf (h : Parts w p c l f Q) {r s : P2} (e : Q.at r = some s) : WfP s := by
  unfold PS.at at e
  split at e
  · exact (h.fresh.ints _ (at_mem e)).2
  · exact (h.live.ints _ (at_mem e)).2
set_option maxRecDepth 100000 in
set_option maxHeartbeats 6000000 in
theorem q_named (rt : Fd) (A : Option Addr) (m : Nat) (l0 : List P2) (h : Parts w p c l f Q) (ok : Ok Q) (hl : RLies w A l0) (hlen : l0.length ≤ 200) (hwf : ∀ r ∈ l0, WfP r) (hrt : WfP rt.1 ∧ WfP rt.2) : Calls Tryz.prog 66 #[.pointer (some ⟨p, 0, none⟩), FdV rt, .slice A l0.length m] w fun e w' => ∃ t, e = .returned (.pointer (some ⟨t, 0, none⟩)) ∧ Tab w' t (fun b => b < w.heap.size) (Q.named rt l0) ∧ Below w.heap.size w w' := by
  obtain ⟨W, hW⟩ : ∃ W, w.alloc (.cells #[.int .i64 rt.1.1, .int .i64 rt.1.2, .int .i64 rt.2.1, .int .i64 rt.2.2] 71) = W := ⟨_, rfl⟩
  have HBW : Hid (Below w.heap.size w W) := Lib.hid (by rw [← hW]; exact (Below.refl _ _).alloc (Nat.le_refl _) _)
  have HRB : Hid (W.heap[w.heap.size]? = some (.cells #[.int .i64 rt.1.1, .int .i64 rt.1.2, .int .i64 rt.2.1, .int .i64 rt.2.2] 71 (0, 0))) := Lib.hid (by rw [← hW]; exact heap_alloc_new _ _)
  have hrlt := lt_size HRB.out
  have HP := Lib.hid h
  have HO := Lib.hid ok
  have HL := Lib.hid hl
  have HWF := Lib.hid hwf
  have HRT := Lib.hid hrt
  clear h ok hl hwf hrt
  go_enter Tryz.func66, Tryz.ntmps66
  go_wp2_with (go_at_call 43; (with_reducible refine (newT_any _).mono ?_); rintro e w1 ⟨t, rfl, ht, hb1⟩; have HT1 := Lib.hid ht; have HB1 := Lib.hid hb1; clear ht hb1)
  clear hW
  have HS1 := Lib.hid (Turned.refl (fun b => ¬ b < W.heap.size) w1)
  have hs1 := HB1.out.size
  have hsW := HBW.out.size
  go_loopw [11, 15] (fun _ v15 wr => ∃ j : Nat, j ≤ l0.length ∧ v15 = .int .i64 j ∧ Tab wr t (fun b => b < W.heap.size) (Q.nameTo (l0.take j)) ∧ (Q.nameTo (l0.take j)).length ≤ j ∧ Safe (fun b => b < W.heap.size) w1 wr) (fun _ v15 _ => l0.length - (intOf v15).toNat)
  case atStart => exact ⟨0, Nat.zero_le _, rfl, HT1.out, Nat.le_refl _, .refl _ _⟩
  case round =>
    obtain ⟨j, hj, rfl, hT, hn, hS⟩ := hrel
    have HBr : Hid (Below W.heap.size W wr) := Lib.hid ⟨hS.os.trans HB1.out.os, hS.tape.trans HB1.out.tape, hS.output.trans HB1.out.output, Nat.le_trans hs1 hS.size, fun i hi => (hS.block (Nat.lt_of_lt_of_le hi hs1) hi).trans (HB1.out.block i hi)⟩
    have HBw : Hid (Below w.heap.size w wr) := Lib.hid (HBW.out.trans (HBr.out.mono hsW))
    have HTr := Lib.hid hT
    have HSr := Lib.hid hS
    have hwr := HBr.out.size
    clear hT hS
    by_cases hj1 : j < l0.length
    · obtain ⟨B, o, rfl, hB, hc⟩ := (HL.out.below HBw.out) (by omega)
      obtain ⟨k0, k1⟩ := hc j hj1
      have HNX := Lib.hid (nameTo_snoc Q l0 hj1)
      have HWJ := Lib.hid (HWF.out l0[j] (List.getElem_mem hj1))
      clear hc
      generalize l0[j] = r at k0 k1 HNX HWJ
      obtain ⟨W2, hW2⟩ : ∃ W2, wr.alloc (.cells #[.int .i64 r.1, .int .i64 r.2] 33) = W2 := ⟨_, rfl⟩
      have HB2 : Hid (Below wr.heap.size wr W2) := Lib.hid (by rw [← hW2]; exact (Below.refl _ _).alloc (Nat.le_refl _) _)
      have HG2 : Hid (W2.heap[wr.heap.size]? = some (.cells #[.int .i64 r.1, .int .i64 r.2] 33 (0, 0))) := Lib.hid (by rw [← hW2]; exact heap_alloc_new _ _)
      obtain ⟨b0, b1, -, -⟩ := cells2q HG2.out
      have HP2 := Lib.hid (HP.out.below (HBw.out.trans (HB2.out.mono HBw.out.size)))
      have hg2 := lt_size HG2.out
      cases hat : Q.at r with
      | none =>
        have HAT := Lib.hid hat
        have HN : Hid (Q.nameTo (l0.take (j + 1)) = Q.nameTo (l0.take j)) := Lib.hid (by rw [HNX.out]; unfold PS.name1; rw [hat])
        clear hat
        go_wp2_with (go_at_call 57; (with_reducible refine (q_at r HP2.out HO.out HWJ.out).mono ?_); rintro e w3 ⟨rfl, hb3⟩; rw [HAT.out]; have HB3 : Hid (Below wr.heap.size wr (w3.alloc (.cells #[.int .i64 0, .int .i64 0] 69))) := Lib.hid (HB2.out.trans ((hb3.alloc hb3.size _).mono HB2.out.size)); clear hb3)
        clear hW2
        go_roundw
        case rel => exact ⟨j + 1, by omega, by go_num, by rw [HN.out]; exact HTr.out.below HB3.out, by rw [HN.out]; omega, HSr.out.then (safe_of_below HB3.out)⟩
        case measure => simp [intOf]; omega
      | some s =>
        have HAT := Lib.hid hat
        have HN : Hid (Q.nameTo (l0.take (j + 1)) = putT (Q.nameTo (l0.take j)) r s) := Lib.hid (by rw [HNX.out]; unfold PS.name1; rw [hat])
        have HWS := Lib.hid (at_wf HP.out hat)
        have hn10 : (Q.nameTo (l0.take j)).length ≤ 1000 := by omega
        have HLN := Lib.hid (putT_len (Q.nameTo (l0.take j)) r s)
        clear hat
        go_wp2_with (first
          | (go_at_call 57; (with_reducible refine (q_at r HP2.out HO.out HWJ.out).mono ?_); rintro e w3 ⟨rfl, hb3⟩; rw [HAT.out]; have HB3 : Hid (Below wr.heap.size wr (w3.alloc (.cells #[.int .i64 s.1, .int .i64 s.2] 69))) := Lib.hid (HB2.out.trans ((hb3.alloc hb3.size _).mono HB2.out.size)); obtain ⟨d0, d1, -, -⟩ := cells2q ((heap_alloc_oldX w3 (.cells #[.int .i64 s.1, .int .i64 s.2] 69) (Nat.lt_of_lt_of_le hg2 hb3.size)).trans ((hb3.block _ hg2).trans HG2.out)); clear hb3)
          | (go_at_call 56; (with_reducible refine (putT_any r s (HTr.out.below HB3.out) hn10 HWJ.out HWS.out).mono ?_); rintro e w4 ⟨rfl, h4, hs4⟩; have HT4 := Lib.hid h4; have HS4 := Lib.hid hs4; clear h4 hs4))
        clear hW2
        go_roundw
        case rel => exact ⟨j + 1, by omega, by go_num, by rw [HN.out]; exact HT4.out, by rw [HN.out]; have := HLN.out; omega, (HSr.out.then (safe_of_below HB3.out)).then HS4.out⟩
        case measure => simp [intOf]; omega
    · obtain rfl : j = l0.length := by omega
      have hz : l0.take l0.length = l0 := List.take_length
      rw [hz] at HTr hn
      obtain ⟨b0, b1, b2, b3, -⟩ := cells4q ((HBr.out.block _ hrlt).trans HRB.out)
      have hn10 : (Q.nameTo l0).length ≤ 1000 := by omega
      clear hz
      go_wp2_with (go_at_call 56; (with_reducible refine (putT_any rt.1 rt.2 HTr.out hn10 HRT.out.1 HRT.out.2).mono ?_); rintro e w4 ⟨rfl, h4, hs4⟩; have HT4 := Lib.hid h4; have HS4 := Lib.hid hs4; clear h4 hs4)
      go_ret
      refine ⟨t, rfl, HT4.out.less fun b k => by omega, ?_⟩
      have hS : Safe (fun b => b < W.heap.size) w1 w4 := HSr.out.then HS4.out
      exact HBW.out.trans (Below.mono ⟨hS.os.trans HB1.out.os, hS.tape.trans HB1.out.tape, hS.output.trans HB1.out.output, Nat.le_trans hs1 hS.size, fun i hi => (hS.block (Nat.lt_of_lt_of_le hi hs1) hi).trans (HB1.out.block i hi)⟩ hsW)
end
end Go.Proofs.YtnadcdgpfopcaaaGreat
