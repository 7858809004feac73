/- Layer 16's awake, over the landed contracts. -/
import Derived.Test.YtljlmaddbpihnaaSpP
import Derived.Deep.Cut
namespace Go.Proofs.Ytljlmaddbpihnaa
open Go.RowKit

/-- What a call of Pieces answers, for who reads it. -/
def PcRead (w : World) (l : List P3) (e : Ending) (w' : World) : Prop := ∃ q c, e = .returned (.slice q l.length c) ∧ PcLies w' q l ∧ l.length ≤ c ∧ Below w.heap.size w w'
theorem PcPost.read {w : World} {l : List P3} {e : Ending} {w' : World} (h : PcPost w l e w') : PcRead w l e w' := by
  obtain ⟨q, c, e1, h2, h3⟩ := h
  obtain ⟨k1, _, _, k4⟩ := h2.lies
  exact ⟨q, c, e1, k1, k4, h3⟩
theorem pieces_14 : piecesF 14 4 = [(0, 14, 2), (1, 0, 2)] := by decide
set_option maxHeartbeats 4000000 in
set_option maxRecDepth 100000 in
theorem awake16_any
    (lpc : ∀ (a n : Int) (w : World), Wf6 a → Wf6 n → Calls Try.prog 8 #[.int .i64 a, .int .i64 n] w (PcRead w (piecesF a n)))
    (lft : ∀ (a n : Int) (w : World), Wf6 a → Wf6 n → Calls Try.prog 12 #[.int .i64 a, .int .i64 n] w fun e w' => e = .returned (.bool (fitsF a n)) ∧ Below w.heap.size w w')
    (lcut : ∀ (z a n : Int) (w : World), Wf6 z → Wf6 a → Wf6 n → Calls Try.prog 14 #[.int .i64 z, .int .i64 a, .int .i64 n] w fun e w' => e = .returned (.int .i64 (cutF z a n)) ∧ Below w.heap.size w w')
    (lpg : ∀ (z : Int) (w : World), Wf6 z → Calls Try.prog 10 #[.int .i64 z] w fun e w' => e = .returned (.int .i64 (pagesF z)) ∧ Below w.heap.size w w')
    (w : World) : Calls Try.prog 16 #[] w fun x w' => x = .returned (.bool true) ∧ Below w.heap.size w w' := by
  have H1 : Hid (∀ w1, Calls Try.prog 8 #[.int .i64 14, .int .i64 4] w1 (PcRead w1 [(0, 14, 2), (1, 0, 2)])) := Lib.hid fun w1 => by
    have := lpc 14 4 w1 (by omega) (by omega)
    rwa [pieces_14] at this
  have H2 : Hid (∀ w1, Calls Try.prog 10 #[.int .i64 17] w1 fun e w' => e = .returned (.int .i64 2) ∧ Below w1.heap.size w1 w') := Lib.hid fun w1 => lpg 17 w1 (by omega)
  have H3 : Hid (∀ w1, Calls Try.prog 14 #[.int .i64 5, .int .i64 3, .int .i64 9] w1 fun e w' => e = .returned (.int .i64 2) ∧ Below w1.heap.size w1 w') := Lib.hid fun w1 => lcut 5 3 9 w1 (by omega) (by omega) (by omega)
  have H4 : Hid (∀ w1, Calls Try.prog 12 #[.int .i64 80, .int .i64 0] w1 fun e w' => e = .returned (.bool true) ∧ Below w1.heap.size w1 w') := Lib.hid fun w1 => lft 80 0 w1 (by omega) (by omega)
  clear lpc lft lcut lpg
  go_enter Try.func16, Try.ntmps16
  go_upto_region 2 with (first
    | (go_at_call 8; (with_reducible refine (H1.out _).mono ?_); rintro e w1 ⟨q, c, rfl, hz, hc, hb1⟩; have HZ := Lib.hid hz; have HB1 := Lib.hid hb1; clear hz hb1)
    | fail)
  obtain ⟨B, o, rfl, hB, hcc⟩ := HZ.out (by decide)
  obtain ⟨k0, k1, k2⟩ := hcc 0 (by decide)
  obtain ⟨j0, j1, j2⟩ := hcc 1 (by decide)
  simp only [List.getElem_cons_zero, List.getElem_cons_succ, Nat.zero_mul, Nat.add_zero, Nat.one_mul] at k0 k1 k2 j0 j1 j2
  clear hcc
  go_wp2_with (first
    | (go_at_call 10; (with_reducible refine (H2.out _).mono ?_); rintro e w2 ⟨rfl, hb2⟩; have HB2 := Lib.hid (HB1.out.trans (hb2.mono HB1.out.size)); clear hb2)
    | (go_at_call 14; (with_reducible refine (H3.out _).mono ?_); rintro e w3 ⟨rfl, hb2⟩; have HB3 := Lib.hid (HB2.out.trans (hb2.mono HB2.out.size)); clear hb2)
    | (go_at_call 12; (with_reducible refine (H4.out _).mono ?_); rintro e w4 ⟨rfl, hb2⟩; have HB4 := Lib.hid (HB3.out.trans (hb2.mono HB3.out.size)); clear hb2)
    | fail)
  go_ret
  exact ⟨rfl, HB4.out⟩
end Go.Proofs.Ytljlmaddbpihnaa
