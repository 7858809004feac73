/- The reference's chip: Erase. -/
import Derived.Deep.RegionWith
import Derived.Test.YtchghdpfgamfpaaRefProg3
import Derived.Test.YtchghdpfgamfpaaLErase
namespace Go.Proofs.Ytchghdpfgamfpaa
open Go.RowKit

def barE (S : CS) (b : Int) : Int := if ¬ (0 ≤ b ∧ b < (S.bl.length : Int)) then 1 else if S.dark = true then 2 else if (blkS S b).bad = true then 3 else 0
def eraseS (S : CS) (b : Int) : Int × CS :=
  if barE S b ≠ 0 then (barE S b, S)
  else if comesS S.cuts = true then (2, { S with er := wrap64 (S.er + 1), worns := leftS S.worns, cuts := leftS S.cuts, dark := true, bl := S.bl.set b.toNat (emptyB (cntB (blkS S b)) S.keep.toNat S.np) })
  else if comesS S.worns = true then (3, { S with er := wrap64 (S.er + 1), worns := leftS S.worns, cuts := leftS S.cuts, bl := S.bl.set b.toNat { cntB (blkS S b) with bad := true } })
  else (0, { S with er := wrap64 (S.er + 1), worns := leftS S.worns, cuts := leftS S.cuts, bl := S.bl.set b.toNat (emptyB (cntB (blkS S b)) S.np S.np) })
def ErasePost (p q cap : Nat) (g : Nat → Nat) (C : Nat → Prop) (S : CS) (b : Int) (w : World) (e : Ending) (w' : World) : Prop :=
  e = .returned (.int .i64 (eraseS S b).1) ∧ ChipAt w' p q cap g C (eraseS S b).2 ∧ Turned (Own p q g C S.bl.length) w w'
theorem clr_min (l : List (List UInt8)) (k : Nat) : clr l (min k l.length) = clr l k := by
  rcases Nat.le_total k l.length with h | h
  · rw [Nat.min_eq_left h]
  · rw [Nat.min_eq_right h]; exact clr_over l k h
section
variable {p q cap : Nat} {g : Nat → Nat} {C : Nat → Prop} {S : CS} {w : World}
theorem erase_no (b : Int) (h : ChipAt w p q cap g C S) (hr : barE S b ≠ 0) : Calls Try.prog 17 #[.pointer (some ⟨p, 0, none⟩), .int .i64 b] w (ErasePost p q cap g C S b w) := by
  have e1 : eraseS S b = (barE S b, S) := by unfold eraseS; rw [if_pos hr]
  have E1 := Lib.hid e1
  have H := Lib.hid h
  obtain ⟨c0, _, _, _, _, _, c6, _, _, _⟩ := cells10 h.self
  by_cases hin : 0 ≤ b ∧ b < (S.bl.length : Int)
  · obtain ⟨i, rfl⟩ : ∃ i : Nat, b = (i : Int) := ⟨b.toNat, by omega⟩
    have hi : i < S.bl.length := by omega
    have r0 := (h.blocks i hi).bad
    have e2 : barE S i = if S.dark = true then 2 else if S.bl[i].bad = true then 3 else 0 := by
      unfold barE; rw [if_neg (by simpa using hin), blkS_at hi]
    rw [e2] at hr
    have E2 := Lib.hid e2
    cases hd : S.dark with
    | true =>
      rw [hd] at c6
      have HD := Lib.hid hd
      clear hr hin e1 e2 hd h
      go_enter Try.func17, Try.ntmps17
      go_wp2
      go_ret
      unfold ErasePost
      rw [E1.out, E2.out, if_pos HD.out]
      exact ⟨rfl, H.out, .refl _ _⟩
    | false =>
      have hbad : S.bl[i].bad = true := by
        rw [hd] at hr
        cases hb : S.bl[i].bad with
        | true => rfl
        | false => rw [hb] at hr; simp at hr
      rw [hd] at c6
      rw [hbad] at r0
      have HD := Lib.hid hd
      have HB := Lib.hid hbad
      clear hr hin e1 e2 hd h hbad
      go_enter Try.func17, Try.ntmps17
      go_wp2
      go_ret
      unfold ErasePost
      rw [E1.out, E2.out, if_neg (by rw [HD.out]; simp), if_pos HB.out]
      exact ⟨rfl, H.out, .refl _ _⟩
  · have e2 : barE S b = 1 := by unfold barE; rw [if_pos hin]
    have E2 := Lib.hid e2
    have hx : b < 0 ∨ (S.bl.length : Int) ≤ b := by omega
    clear hr hin e1 e2 h
    rcases hx with hx | hx
    · go_enter Try.func17, Try.ntmps17
      go_wp2
      go_ret
      unfold ErasePost
      rw [E1.out, E2.out]
      exact ⟨rfl, H.out, .refl _ _⟩
    · have hx0 : (0 : Int) ≤ b := by omega
      go_enter Try.func17, Try.ntmps17
      go_wp2
      go_ret
      unfold ErasePost
      rw [E1.out, E2.out]
      exact ⟨rfl, H.out, .refl _ _⟩
end
end Go.Proofs.Ytchghdpfgamfpaa
