/- A pool: may, root. -/
import Derived.Test.YtnadcdgpfopcaaaGreatPoG4
namespace Go.Proofs.YtnadcdgpfopcaaaGreat
open Go.RowKit

section
variable {w w' V : World} {p c l f : Nat} {x y X Y Z : Nat → Prop} {Q Q1 : PS} {T : List Fd} {S : LS}
theorem RLies.safe {A : Option Addr} {l : List P2} (h : RLies w A l) (hs : Safe x w w') (hx : 0 < l.length → ∀ ad, A = some ad → x ad.block) : RLies w' A l := fun hn => by
  obtain ⟨B, o, e, hB, hc⟩ := h hn
  have hk := hs.block hB (hx hn _ e)
  exact ⟨B, o, e, Nat.lt_of_lt_of_le hB hs.size, fun j hj => ⟨(World.cell?_of_block (a := ⟨B, o + j * 2, none⟩) hk).trans (hc j hj).1, (World.cell?_of_block (a := ⟨B, o + j * 2 + 1, none⟩) hk).trans (hc j hj).2⟩⟩
def PS.okRef (Q : PS) (r : P2) : Bool := (Q.at r).isSome && r.1 != 0
def PS.may (Q : PS) (l : List P2) : Bool := decide ((l.length : Int) ≤ Q.K) && !twiceP l && l.all Q.okRef
set_option maxRecDepth 100000 in
set_option maxHeartbeats 4000000 in
theorem q_may (A : Option Addr) (m : Nat) (l0 : List P2) (h : Parts w p c l f Q) (ok : Ok Q) (hl : RLies w A l0) (hlen : l0.length ≤ 1000) (hwf : ∀ r ∈ l0, WfP r) : Calls Tryz.prog 101 #[.pointer (some ⟨p, 0, none⟩), .slice A l0.length m] w fun e w' => e = .returned (.bool (Q.may l0)) ∧ Below w.heap.size w w' := by
  have c4 := h.c4
  have HP := Lib.hid h
  have HO := Lib.hid ok
  have HL := Lib.hid hl
  have HWF := Lib.hid hwf
  obtain ⟨K, hK⟩ : ∃ K, K = Q.K := ⟨_, rfl⟩
  rw [← hK] at c4
  have HKK := Lib.hid hK
  clear h ok hl hwf hK
  by_cases h1 : K < (l0.length : Int)
  · have HE : Hid (Q.may l0 = false) := Lib.hid (by unfold PS.may; rw [decide_eq_false (by rw [← HKK.out]; omega)]; rfl)
    go_enter Tryz.func101, Tryz.ntmps101
    go_wp2_with fail
    go_ret
    exact ⟨by rw [HE.out]; rfl, Below.refl _ _⟩
  · have h1f : decide (K < (l0.length : Int)) = false := decide_eq_false h1
    have HK1 : Hid (decide ((l0.length : Int) ≤ Q.K) = true) := Lib.hid (decide_eq_true (by rw [← HKK.out]; omega))
    cases h2 : twiceP l0 with
    | true =>
      have HE : Hid (Q.may l0 = false) := Lib.hid (by unfold PS.may; rw [h2]; simp)
      have HT := Lib.hid h2
      clear h2
      go_enter Tryz.func101, Tryz.ntmps101
      go_wp2_with (go_at_call 62; (with_reducible refine (q_twice A m l0 _ HL.out hlen HWF.out).mono ?_); rintro e w2 ⟨rfl, hb2⟩; rw [HT.out]; have HB2 := Lib.hid hb2; clear hb2)
      go_ret
      exact ⟨by rw [HE.out]; rfl, HB2.out⟩
    | false =>
      have HM : Hid (Q.may l0 = l0.all Q.okRef) := Lib.hid (by unfold PS.may; rw [h2, HK1.out]; rfl)
      have HT := Lib.hid h2
      clear h2
      go_enter Tryz.func101, Tryz.ntmps101
      go_wp2_with (go_at_call 62; (with_reducible refine (q_twice A m l0 _ HL.out hlen HWF.out).mono ?_); rintro e w2 ⟨rfl, hb2⟩; rw [HT.out]; have HB2 := Lib.hid hb2; clear hb2)
      go_loopw [8, 23] (fun _ v23 wr => ∃ j : Nat, j ≤ l0.length ∧ v23 = .int .i64 j ∧ (l0.take j).all Q.okRef = true ∧ Below w.heap.size w wr) (fun _ v23 _ => l0.length - (intOf v23).toNat)
      case atStart => exact ⟨0, Nat.zero_le _, rfl, rfl, HB2.out⟩
      case round =>
        obtain ⟨j, hj, rfl, hA, hB⟩ := hrel
        have HB := Lib.hid hB
        have HAL := Lib.hid hA
        have hs := hB.size
        clear hB hA
        by_cases hj1 : j < l0.length
        · obtain ⟨B, o, rfl, hBs, hc⟩ := (HL.out.below HB.out) (by omega)
          obtain ⟨k0, k1⟩ := hc j hj1
          have HWJ := Lib.hid (HWF.out l0[j] (List.getElem_mem hj1))
          have HMEM := Lib.hid (List.getElem_mem hj1 (l := l0))
          have HTK : Hid ((l0.take (j + 1)).all Q.okRef = ((l0.take j).all Q.okRef && Q.okRef l0[j])) := Lib.hid (by rw [List.take_succ_eq_append_getElem hj1, List.all_append]; simp)
          clear hc
          generalize l0[j] = r at k0 k1 HWJ HTK HMEM
          have HNO : Hid (Q.okRef r = false → Q.may l0 = false) := Lib.hid fun e => by
            rw [HM.out, Bool.eq_false_iff]
            intro k
            have := List.all_eq_true.1 k r HMEM.out
            rw [e] at this; cases this
          obtain ⟨W2, hW2⟩ : ∃ W2, wr.alloc (.cells #[.int .i64 r.1, .int .i64 r.2] 33) = W2 := ⟨_, rfl⟩
          have HBW2 : Hid (Below wr.heap.size wr W2) := Lib.hid (by rw [← hW2]; exact (Below.refl _ _).alloc (Nat.le_refl _) _)
          have HG2 : Hid (W2.heap[wr.heap.size]? = some (.cells #[.int .i64 r.1, .int .i64 r.2] 33 (0, 0))) := Lib.hid (by rw [← hW2]; exact heap_alloc_new _ _)
          obtain ⟨b0, b1, -, -⟩ := cells2q HG2.out
          have HP2 := Lib.hid (HP.out.below (HB.out.trans (HBW2.out.mono hs)))
          have hg2 := lt_size HG2.out
          cases hat : Q.at r with
          | none =>
            have HAT := Lib.hid hat
            have HE : Hid (Q.may l0 = false) := Lib.hid (HNO.out (by unfold PS.okRef; rw [hat]; rfl))
            clear hat
            go_wp2_with (go_at_call 57; (with_reducible refine (q_at r HP2.out HO.out HWJ.out).mono ?_); rintro e w3 ⟨rfl, hb3⟩; rw [HAT.out]; have HB3 : Hid (Below wr.heap.size wr (w3.alloc (.cells #[.int .i64 0, .int .i64 0] 69))) := Lib.hid (HBW2.out.trans ((hb3.alloc hb3.size _).mono HBW2.out.size)); clear hb3)
            go_ret
            exact ⟨by rw [HE.out]; rfl, HB.out.trans (HB3.out.mono hs)⟩
          | some s =>
            have HAT := Lib.hid hat
            by_cases hz : r.1 = 0
            · have HE : Hid (Q.may l0 = false) := Lib.hid (HNO.out (by unfold PS.okRef; rw [hat, hz]; rfl))
              have HZ := Lib.hid hz
              clear hat hz
              go_wp2_with (go_at_call 57; (with_reducible refine (q_at r HP2.out HO.out HWJ.out).mono ?_); rintro e w3 ⟨rfl, hb3⟩; rw [HAT.out]; have HB3 : Hid (Below wr.heap.size wr (w3.alloc (.cells #[.int .i64 s.1, .int .i64 s.2] 69))) := Lib.hid (HBW2.out.trans ((hb3.alloc hb3.size _).mono HBW2.out.size)); obtain ⟨d0, d1, -, -⟩ := cells2q ((heap_alloc_oldX w3 (.cells #[.int .i64 s.1, .int .i64 s.2] 69) (Nat.lt_of_lt_of_le hg2 hb3.size)).trans ((hb3.block _ hg2).trans HG2.out)); rw [HZ.out] at d0; clear hb3)
              go_ret
              exact ⟨by rw [HE.out]; rfl, HB.out.trans (HB3.out.mono hs)⟩
            · have HOK : Hid (Q.okRef r = true) := Lib.hid (by unfold PS.okRef; rw [hat]; simpa using hz)
              obtain ⟨r1, hr1⟩ : ∃ r1, r1 = r.1 := ⟨_, rfl⟩
              rw [← hr1] at hz
              have HR1 := Lib.hid hr1
              clear hat hr1
              have hzf : decide (r1 = 0) = false := decide_eq_false hz
              have hzg : (r1 == 0) = false := by simpa using hz
              go_wp2_with (go_at_call 57; (with_reducible refine (q_at r HP2.out HO.out HWJ.out).mono ?_); rintro e w3 ⟨rfl, hb3⟩; rw [HAT.out]; have HB3 : Hid (Below wr.heap.size wr (w3.alloc (.cells #[.int .i64 s.1, .int .i64 s.2] 69))) := Lib.hid (HBW2.out.trans ((hb3.alloc hb3.size _).mono HBW2.out.size)); obtain ⟨d0, d1, -, -⟩ := cells2q ((heap_alloc_oldX w3 (.cells #[.int .i64 s.1, .int .i64 s.2] 69) (Nat.lt_of_lt_of_le hg2 hb3.size)).trans ((hb3.block _ hg2).trans HG2.out)); rw [← HR1.out] at d0; clear hb3)
              clear hW2
              go_roundw
              case rel => exact ⟨j + 1, by omega, by go_num, by rw [HTK.out, HAL.out, HOK.out]; rfl, HB.out.trans (HB3.out.mono hs)⟩
              case measure => simp [intOf]; omega
        · obtain rfl : j = l0.length := by omega
          have HE : Hid (Q.may l0 = true) := Lib.hid (by rw [HM.out]; have := HAL.out; rwa [List.take_length] at this)
          go_wp2_with fail
          go_ret
          exact ⟨by rw [HE.out]; rfl, HB.out⟩
def PS.root (n : Nat) (Q : PS) (d : List UInt8) (l : List P2) : Option (Int × Fd × PS) :=
  if Q.sheetE 0 d ≠ 0 ∨ Q.may l = false then some (1, ((0, 0), (0, 0)), Q) else Q.give n 0 (Q.sheetB 0 d)
theorem sheetE_seq {d : List UInt8} {pg : Int} (h : Q.sheetE pg d = 0) : MayS pg (Q.seq + 1) d := by
  unfold PS.sheetE at h
  by_cases k : MayS pg (Q.seq + 1) d
  · exact k
  · rw [if_neg k] at h; cases h
theorem Ok.root {n : Nat} {d : List UInt8} {l : List P2} {er : Int} {rt : Fd} {Q' : PS} (h : Ok Q) (hm : Q.root n d l = some (er, rt, Q')) : Ok Q' := by
  unfold PS.root at hm
  split at hm
  · cases hm; exact h
  · next k => exact h.give (sheetE_seq (Classical.not_not.1 fun e => k (.inl e))).2.1.2 hm
end
end Go.Proofs.YtnadcdgpfopcaaaGreat
