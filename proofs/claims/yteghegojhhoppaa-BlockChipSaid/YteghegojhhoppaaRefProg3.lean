/- The reference's chip: Program where nothing refuses it: what its walk keeps. -/
import Derived.Deep.RegionWith
import Derived.Test.YteghegojhhoppaaRefProg2
import Derived.Test.YteghegojhhoppaaLProg3
namespace Go.Proofs.Yteghegojhhoppaa
open Go.RowKit
section
variable {p q cap : Nat} {g : Nat → Nat} {C E : Nat → Prop} {S : CS} {w : World}
/-- The program is counted, the page is taken. -/
def CS.began (S : CS) (i j : Nat) (hi : i < S.bl.length) : CS := { S with pr := wrap64 (S.pr + 1), bl := S.bl.set i { S.bl[i] with next := (j : Int) + 1 } }
def CS.told (S : CS) (i j : Nat) (hi : i < S.bl.length) : CS := { S.began i j hi with cuts := leftS S.cuts, fails := leftS S.fails }
theorem told_at (S : CS) (i j : Nat) (hi : i < S.bl.length) (hi' : i < (S.told i j hi).bl.length) : (S.told i j hi).bl[i] = { S.bl[i] with next := (j : Int) + 1 } := by simp [CS.told, CS.began]
theorem told_len (S : CS) (i j : Nat) (hi : i < S.bl.length) : (S.told i j hi).bl.length = S.bl.length := by simp [CS.told, CS.began]
theorem told_put (S : CS) (i j : Nat) (hi : i < S.bl.length) (hi' : i < (S.told i j hi).bl.length) (hbad : S.bl[i].bad = false) (hn : S.bl[i].next = (j : Int)) (L : List UInt8) :
    (S.told i j hi).bl.set i { (S.told i j hi).bl[i] with pages := (S.told i j hi).bl[i].pages.set j L } = putS S i j false L := by
  rw [told_at S i j hi hi']
  simp [CS.told, CS.began, putS, blkS, hi, hbad, hn]
theorem progS_told {S : CS} {i j : Nat} {l : List UInt8} (hh : hasS S i j = true) (h1 : 1 ≤ l.length) (h2 : l.length ≤ 2000) (hd : S.dark = false) (hi : i < S.bl.length) (hbad : S.bl[i].bad = false) (hn : S.bl[i].next = (j : Int)) :
    progS S i j l = if comesS S.cuts = true then (2, { S.told i j hi with dark := true, bl := putS S i j false (l.take (min S.keep.toNat l.length)) })
      else if comesS S.fails = true then (3, { S.told i j hi with bl := putS S i j true (l.take (l.length / 2)) }) else (0, { S.told i j hi with bl := putS S i j false l }) := by
  unfold progS
  rw [if_neg (prog_in hh h1 h2), if_neg (by rw [hd]; simp), blkS_at hi, if_neg (by rw [hbad]; simp), if_neg (by rw [hn]; simp)]
  rfl
theorem putS_bad {S : CS} {i j : Nat} (hi : i < S.bl.length) (L : List UInt8) : (putS S i j false L).set i { (putS S i j false L)[i]'(by simpa [putS] using hi) with bad := true } = putS S i j true L := by
  simp [putS]
end
end Go.Proofs.Yteghegojhhoppaa
