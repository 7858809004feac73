/- ChipStands: what stands in a page stands, whatever is done to others. -/
import Derived.Test.YtdajlmbpjaoelaaLTorn
namespace Go.Proofs.Ytdajlmbpjaoelaa
open Go.RowKit

/-- Block 1's page k is l, and what is programmed there comes behind it. -/
structure Stood (S : LS) (k : Nat) (l : List UInt8) : Prop where
  len : S.bl.length = 4
  np : S.np = 4
  pages : ∀ h : 1 < S.bl.length, S.bl[1].pages.length = 4
  page : ∀ h : 1 < S.bl.length, S.bl[1].pages.getD k [] = l
  next : ∀ h : 1 < S.bl.length, (k : Int) < S.bl[1].next
  count : ∀ h : 1 < S.bl.length, S.bl[1].count = 0
theorem Stood.same {S S' : LS} {k : Nat} {l : List UInt8} (h : Stood S k l) (hb : S'.bl = S.bl) (hn : S'.np = S.np) : Stood S' k l := by
  obtain ⟨bl, np, r1, r2, r3, dk, f1, f2, f3, f4⟩ := S'
  obtain rfl : bl = S.bl := hb
  obtain rfl : np = S.np := hn
  exact ⟨h.len, h.np, h.pages, h.page, h.next, h.count⟩
/-- A block is written that isn't 1, or is 1 with page k as it was. -/
theorem Stood.set {S S' : LS} {k i : Nat} {l : List UInt8} {b : Bk} (h : Stood S k l) (hb : S'.bl = S.bl.set i b) (hn : S'.np = S.np) (h1 : i = 1 → b.pages.length = 4 ∧ b.pages.getD k [] = l ∧ (k : Int) < b.next ∧ b.count = 0) : Stood S' k l := by
  have hg : ∀ h9 : 1 < S'.bl.length, S'.bl[1] = if i = 1 then b else S.bl[1]'(by rw [h.len]; omega) := fun h9 => by
    simp only [hb, List.getElem_set]
  refine ⟨by rw [hb, List.length_set]; exact h.len, hn.trans h.np, fun h9 => ?_, fun h9 => ?_, fun h9 => ?_, fun h9 => ?_⟩ <;> rw [hg h9] <;> split
  · next e => exact (h1 e).1
  · exact h.pages _
  · next e => exact (h1 e).2.1
  · exact h.page _
  · next e => exact (h1 e).2.2.1
  · exact h.next _
  · next e => exact (h1 e).2.2.2
  · exact h.count _
theorem Stood.put {S S' : LS} {k : Nat} {l : List UInt8} {b pg : Int} {n : Nat} {bad : Bool} {x : List UInt8} (h : Stood S k l) (hr : refS S b pg n = 0) (hb : S'.bl = putL S b pg bad x) (hn : S'.np = S.np) : Stood S' k l := by
  refine h.set hb hn fun e => ?_
  have h1 : 1 < S.bl.length := by rw [h.len]; omega
  have hbk : blkL S b = S.bl[1] := by unfold blkL; rw [e]; simp [h1]
  have hpg : pg = S.bl[1].next := by
    unfold refS at hr
    split at hr
    · cases hr
    · split at hr
      · next h9 => exact absurd hr h9
      · split at hr
        · cases hr
        · next h9 => rw [hbk] at h9; exact Classical.not_not.1 h9
  have hk := h.next h1
  rw [hbk]
  refine ⟨by simpa using h.pages h1, ?_, by show (k : Int) < S.bl[1].next + 1; omega, h.count h1⟩
  show (S.bl[1].pages.set pg.toNat x).getD k [] = l
  rw [List.getD_eq_getElem?_getD, List.getElem?_set_ne (by omega), ← List.getD_eq_getElem?_getD]
  exact h.page h1
theorem Stood.prog {S : LS} {k : Nat} {l : List UInt8} (h : Stood S k l) (b pg : Int) (x : List UInt8) : Stood (progL S b pg x).2 k l := by
  unfold progL
  by_cases hr : refS S b pg x.length ≠ 0
  · rw [if_pos hr]; exact h
  · rw [if_neg hr]
    have hr' := Classical.not_not.1 hr
    split
    · exact h.put hr' rfl rfl
    · split
      · exact h.put hr' rfl rfl
      · exact h.put hr' rfl rfl
theorem Stood.erase {S : LS} {k : Nat} {l : List UInt8} (h : Stood S k l) (b : Int) (hb : b ≠ 1) : Stood (eraseL S b).2 k l := by
  unfold eraseL
  by_cases hr : barS S b ≠ 0
  · rw [if_pos hr]; exact h
  · obtain ⟨i, hi, rfl, _, _⟩ := barS_zero (Classical.not_not.1 hr)
    rw [if_neg hr]
    have hi1 : (i : Int).toNat = 1 → False := fun e => hb (by omega)
    split
    · exact h.set rfl rfl fun e => (hi1 e).elim
    · split
      · exact h.set rfl rfl fun e => (hi1 e).elim
      · exact h.set rfl rfl fun e => (hi1 e).elim
end Go.Proofs.Ytdajlmbpjaoelaa
