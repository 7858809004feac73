/- ChipStands: its chip before anything is done to it, step by step. -/
import Derived.Test.YtdajlmbpjaoelaaLStands
import Derived.Test.YtdajlmbpjaoelaaOpenLdo
namespace Go.Proofs.Ytdajlmbpjaoelaa
open Go.RowKit

/-- Four blocks of four pages, of block 1 the first j pages programmed: nothing to come, power, nothing bad. -/
structure Ready (S : LS) (j : Nat) : Prop where
  len : S.bl.length = 4
  np : S.np = 4
  dark : S.dark = false
  f : S.f.set = false
  c : S.c.set = false
  b1 : ∃ b, S.bl[1]? = some b ∧ b.pages.length = 4 ∧ b.bad = false ∧ b.next = (j : Int) ∧ b.count = 0
theorem ready_new : Ready (madeS 4 4 []) 0 := ⟨rfl, rfl, rfl, rfl, rfl, newBk 4, rfl, rfl, rfl, rfl, rfl⟩
theorem ready_prog {S : LS} {j : Nat} (h : Ready S j) (hj : j < 4) (x : List UInt8) (h1 : 1 ≤ x.length) (h2 : x.length ≤ 2000) :
    (progL S 1 j x).1 = 0 ∧ Ready (progL S 1 j x).2 (j + 1) ∧ Stood (progL S 1 j x).2 j x := by
  obtain ⟨e1, e2, e3, e4, e5, b, e6, e7, e8, e9, e10⟩ := h
  have hh : hasL S 1 j = true := by simp [hasL, e1, e2]; omega
  have hs := hasL_is hh
  have hb : blkL S 1 = b := by
    unfold blkL
    rw [show (1 : Int).toNat = 1 from rfl, List.getD_eq_getElem?_getD, e6]; rfl
  have hr : refS S 1 j x.length = 0 := by
    unfold refS barS
    rw [hh, hs, hb, e8, e9, if_neg (bad3 (by omega) (by omega))]
    simp [e3]
  have hp : progL S 1 j x = (0, { S with pr := wrap64 (S.pr + 1), bl := S.bl.set 1 { b with bad := false, next := (j : Int) + 1, pages := b.pages.set j x } }) := by
    unfold progL
    rw [if_neg (by rw [hr]; decide), (Tm.unset e5).1, (Tm.unset e4).1, (Tm.unset e5).2, (Tm.unset e4).2]
    simp [putL, hb, e9]
  rw [hp]
  have hl : 1 < S.bl.length := by omega
  have hg : ∀ (bk : Bk) (h9 : 1 < (S.bl.set 1 bk).length), (S.bl.set 1 bk)[1] = bk := fun bk h9 => by simp
  refine ⟨rfl, ⟨by simpa using e1, e2, e3, e4, e5, _, List.getElem?_set_self hl, by simpa using e7, rfl, by simp, e10⟩, ⟨by simpa using e1, e2, fun h9 => ?_, fun h9 => ?_, fun h9 => ?_, fun h9 => ?_⟩⟩
  · rw [hg]; simpa using e7
  · rw [hg]
    show (b.pages.set j x).getD j [] = x
    rw [List.getD_eq_getElem?_getD, List.getElem?_set_self (by omega)]; rfl
  · rw [hg]; show (j : Int) < (j : Int) + 1; omega
  · rw [hg]; exact e10
/-- What stands is told, and is read. -/
theorem Stood.tell {S : LS} {k : Nat} {l : List UInt8} (h : Stood S k l) : ∃ bad next P, tellB S 1 = ⟨bad, next, 0, P⟩ ∧ P.length = 4 ∧ P.getD k [] = l ∧ (k : Int) < next := by
  have h1 : 1 < S.bl.length := by rw [h.len]; omega
  have e : tellB S 1 = S.bl[1] := by
    unfold tellB
    rw [if_pos (by simp [isL]; omega)]
    exact blkL_at h1
  refine ⟨S.bl[1].bad, S.bl[1].next, S.bl[1].pages, ?_, h.pages h1, h.page h1, h.next h1⟩
  rw [e]
  exact congrArg (fun z => (⟨S.bl[1].bad, S.bl[1].next, z, S.bl[1].pages⟩ : Bk)) (h.count h1)
theorem Stood.read {S : LS} {k : Nat} {l : List UInt8} (h : Stood S k l) (hk : k < 4) (hd : S.dark = false) : (rdL S 1 k).1 = l ∧ (rdL S 1 k).2.1 = 0 := by
  have h1 : 1 < S.bl.length := by rw [h.len]; omega
  have hh : hasL S 1 k = true := by
    have := h.np
    simp [hasL, this]; omega
  have e : rdL S 1 k = (pageL S 1 k, 0, { S with rd := wrap64 (S.rd + 1) }) := by
    unfold rdL
    rw [if_neg (by rw [hh]; decide), if_neg (by rw [hd]; decide)]
  rw [e]
  refine ⟨?_, rfl⟩
  show pageL S 1 k = l
  unfold pageL
  rw [show (1 : Int).toNat = 1 from rfl, List.getElem?_eq_getElem h1]
  show S.bl[1].pages.getD (k : Int).toNat [] = l
  rw [Int.toNat_natCast]
  exact h.page h1
end Go.Proofs.Ytdajlmbpjaoelaa
