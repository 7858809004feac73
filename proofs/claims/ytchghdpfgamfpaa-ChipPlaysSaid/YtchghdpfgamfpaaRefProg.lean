/- The reference's chip: Program. -/
import Derived.Deep.Cut
import Derived.Deep.CutBlock
import Derived.Deep.CutRange
import Derived.Test.YtchghdpfgamfpaaRefSet
namespace Go.Proofs.Ytchghdpfgamfpaa
open Go.RowKit

def blkS (S : CS) (b : Int) : Bk := S.bl.getD b.toNat ⟨false, 0, 0, []⟩
def putS (S : CS) (b pg : Int) (bad : Bool) (l : List UInt8) : List Bk :=
  S.bl.set b.toNat { blkS S b with bad := bad, next := (blkS S b).next + 1, pages := (blkS S b).pages.set pg.toNat l }
def progS (S : CS) (b pg : Int) (l : List UInt8) : Int × CS :=
  if hasS S b pg = false ∨ l.length < 1 ∨ 2000 < l.length then (1, S)
  else if S.dark = true then (2, S)
  else if (blkS S b).bad = true then (3, S)
  else if pg ≠ (blkS S b).next then (4, S)
  else if comesS S.cuts = true then (2, { S with pr := wrap64 (S.pr + 1), cuts := leftS S.cuts, fails := leftS S.fails, dark := true, bl := putS S b pg false (l.take (min S.keep.toNat l.length)) })
  else if comesS S.fails = true then (3, { S with pr := wrap64 (S.pr + 1), cuts := leftS S.cuts, fails := leftS S.fails, bl := putS S b pg true (l.take (l.length / 2)) })
  else (0, { S with pr := wrap64 (S.pr + 1), cuts := leftS S.cuts, fails := leftS S.fails, bl := putS S b pg false l })
def ProgPost (p q cap : Nat) (g : Nat → Nat) (C : Nat → Prop) (S : CS) (b pg : Int) (l : List UInt8) (w : World) (e : Ending) (w' : World) : Prop :=
  e = .returned (.int .i64 (progS S b pg l).1) ∧ ∃ D, ChipAt w' p q cap g D (progS S b pg l).2 ∧ (∀ k, D k → C k ∨ (w.heap.size ≤ k ∧ k < w'.heap.size)) ∧ Turned (Own p q g C S.bl.length) w w'
section
variable {p q cap : Nat} {g : Nat → Nat} {C E : Nat → Prop} {S : CS} {w : World}
/-- A call that is refused. -/
theorem prog_no {b pg : Int} {l : List UInt8} {w1 : World} {x y : Value} {t : TypeId} {r : Int} (h : ChipAt w p q cap g C S) (hb1 : Below (w.alloc (.cells #[x, y] t)).heap.size (w.alloc (.cells #[x, y] t)) w1) (e : progS S b pg l = (r, S)) (n : Nat) :
    ProgPost p q cap g C S b pg l w (.returned (.int .i64 r)) (w1.drewN n) := by
  unfold ProgPost
  rw [e]
  have hb : Below w.heap.size w w1 := ((Below.refl _ _).alloc (Nat.le_refl _) _).trans (hb1.mono (by simp))
  exact ⟨rfl, C, h.below (drewN_below hb n), fun _ h => .inl h, .of_below (drewN_below hb n)⟩
set_option maxRecDepth 100000 in
set_option maxHeartbeats 1000000 in
theorem prog_arg (A : Option Addr) (c : Nat) (l : List UInt8) (b pg : Int) (h : ChipAt w p q cap g C S) (hl : hasS S b pg = false ∨ l.length < 1 ∨ 2000 < l.length) :
    Calls Try.prog 27 #[.pointer (some ⟨p, 0, none⟩), .agg #[.int .i64 b, .int .i64 pg], .slice A l.length c] w (ProgPost p q cap g C S b pg l w) := by
  have e1 : progS S b pg l = (1, S) := by unfold progS; rw [if_pos hl]
  have H1 := Lib.hid e1
  clear e1
  cases hh : hasS S b pg with
  | false =>
    clear hl
    go_enter Try.func27, Try.ntmps27
    go_wp2_with (go_at_call 41; refine (has_ref b pg (h.alloc _)).mono ?_; rintro e w1 ⟨rfl, hb1⟩; rw [hh])
    go_ret
    exact prog_no h hb1 H1.out 0
  | true =>
    by_cases h1 : l.length < 1
    · have d1 : decide ((l.length : Int) < 1) = true := by simp; omega
      clear hl
      go_enter Try.func27, Try.ntmps27
      go_wp2_with (go_at_call 41; refine (has_ref b pg (h.alloc _)).mono ?_; rintro e w1 ⟨rfl, hb1⟩; rw [hh])
      go_ret
      exact prog_no h hb1 H1.out 0
    · have h2 : 2000 < l.length := by
        rcases hl with h | h | h
        · rw [hh] at h; cases h
        · exact absurd h h1
        · exact h
      clear hl
      go_enter Try.func27, Try.ntmps27
      go_wp2_with (go_at_call 41; refine (has_ref b pg (h.alloc _)).mono ?_; rintro e w1 ⟨rfl, hb1⟩; rw [hh])
      go_ret
      exact prog_no h hb1 H1.out 0
end
end Go.Proofs.Ytchghdpfgamfpaa
