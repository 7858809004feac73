/- The reference's chip: Program where there is such a spot: no power, a bad block, out of order. -/
import Derived.Test.YtchghdpfgamfpaaRefProg
namespace Go.Proofs.Ytchghdpfgamfpaa
open Go.RowKit
section
variable {p q cap : Nat} {g : Nat → Nat} {C E : Nat → Prop} {S : CS} {w : World}
theorem prog_in {S : CS} {i j : Nat} {l : List UInt8} (hh : hasS S i j = true) (h1 : 1 ≤ l.length) (h2 : l.length ≤ 2000) : ¬ (hasS S i j = false ∨ l.length < 1 ∨ 2000 < l.length) := by
  rintro (e | e | e)
  · rw [hh] at e; cases e
  · omega
  · omega
theorem blkS_at {S : CS} {i : Nat} (hi : i < S.bl.length) : blkS S i = S.bl[i] := by simp [blkS, hi]
set_option maxRecDepth 100000 in
set_option maxHeartbeats 1000000 in
theorem prog_dark (A : Option Addr) (c : Nat) (l : List UInt8) (i j : Nat) (h : ChipAt w p q cap g C S) (hh : hasS S i j = true) (h1 : 1 ≤ l.length) (h2 : l.length ≤ 2000) (hd : S.dark = true) :
    Calls Try.prog 27 #[.pointer (some ⟨p, 0, none⟩), .agg #[.int .i64 i, .int .i64 j], .slice A l.length c] w (ProgPost p q cap g C S i j l w) := by
  have e1 : progS S i j l = (2, S) := by unfold progS; rw [if_neg (prog_in hh h1 h2), if_pos hd]
  have H1 := Lib.hid e1
  clear e1
  go_enter Try.func27, Try.ntmps27
  go_wp2_with (go_at_call 41; refine (has_ref i j (h.alloc _)).mono ?_; rintro e w1 ⟨rfl, hb1⟩; rw [hh]; obtain ⟨_, _, _, _, _, _, c6, _, _, _⟩ := cells10 ((h.alloc _).below hb1).self; rw [hd] at c6)
  go_ret
  exact prog_no h hb1 H1.out 0
set_option maxRecDepth 100000 in
set_option maxHeartbeats 1000000 in
theorem prog_bad (A : Option Addr) (c : Nat) (l : List UInt8) (i j : Nat) (h : ChipAt w p q cap g C S) (hh : hasS S i j = true) (h1 : 1 ≤ l.length) (h2 : l.length ≤ 2000) (hd : S.dark = false) (hi : i < S.bl.length) (hbad : S.bl[i].bad = true) :
    Calls Try.prog 27 #[.pointer (some ⟨p, 0, none⟩), .agg #[.int .i64 i, .int .i64 j], .slice A l.length c] w (ProgPost p q cap g C S i j l w) := by
  have e1 : progS S i j l = (3, S) := by unfold progS; rw [if_neg (prog_in hh h1 h2), if_neg (by rw [hd]; simp), blkS_at hi, if_pos hbad]
  have H1 := Lib.hid e1
  clear e1
  go_enter Try.func27, Try.ntmps27
  go_wp2_with (go_at_call 41; refine (has_ref i j (h.alloc _)).mono ?_; rintro e w1 ⟨rfl, hb1⟩; rw [hh]; obtain ⟨c0, _, _, _, _, _, c6, _, _, _⟩ := cells10 ((h.alloc _).below hb1).self; rw [hd] at c6; have r0 := (((h.alloc _).below hb1).blocks i hi).bad; rw [hbad] at r0; obtain ⟨d0, d1, _, _⟩ := cells2' (box2 hb1))
  go_quiet (fail)
  go_wp2
  go_ret
  exact prog_no h hb1 H1.out _
set_option maxRecDepth 100000 in
set_option maxHeartbeats 1000000 in
theorem prog_order (A : Option Addr) (c : Nat) (l : List UInt8) (i j : Nat) (h : ChipAt w p q cap g C S) (hh : hasS S i j = true) (h1 : 1 ≤ l.length) (h2 : l.length ≤ 2000) (hd : S.dark = false) (hi : i < S.bl.length) (hbad : S.bl[i].bad = false) (hn : (j : Int) ≠ S.bl[i].next) :
    Calls Try.prog 27 #[.pointer (some ⟨p, 0, none⟩), .agg #[.int .i64 i, .int .i64 j], .slice A l.length c] w (ProgPost p q cap g C S i j l w) := by
  have e1 : progS S i j l = (4, S) := by unfold progS; rw [if_neg (prog_in hh h1 h2), if_neg (by rw [hd]; simp), blkS_at hi, if_neg (by rw [hbad]; simp), if_pos hn]
  have H1 := Lib.hid e1
  have hne : ((j : Int) != S.bl[i].next) = true := by simpa using hn
  clear e1 hn
  go_enter Try.func27, Try.ntmps27
  go_wp2_with (go_at_call 41; refine (has_ref i j (h.alloc _)).mono ?_; rintro e w1 ⟨rfl, hb1⟩; rw [hh]; obtain ⟨c0, _, _, _, _, _, c6, _, _, _⟩ := cells10 ((h.alloc _).below hb1).self; rw [hd] at c6; have r0 := (((h.alloc _).below hb1).blocks i hi).bad; have r1 := (((h.alloc _).below hb1).blocks i hi).next; rw [hbad] at r0; obtain ⟨d0, d1, _, _⟩ := cells2' (box2 hb1))
  go_quiet (fail)
  go_wp2
  go_quiet (fail)
  go_wp2
  go_ret
  exact prog_no h (drewN_below hb1 _) H1.out _
end
end Go.Proofs.Ytchghdpfgamfpaa
