/- ChipTorn: what its chip is, step by step. -/
import Derived.Test.YtdajlmbpjaoelaaLFails
namespace Go.Proofs.Ytdajlmbpjaoelaa
open Go.RowKit

theorem Tm.now : (behindS 0).hit = true ∧ (behindS 0).tick = ⟨false, 0⟩ := ⟨rfl, rfl⟩
/-- Two blocks, one of which has been torn: nothing to come, nothing bad, power. -/
structure Two (S : LS) (np : Nat) (b0 b1 : Bk) : Prop where
  bl : S.bl = [b0, b1]
  np : S.np = np
  dark : S.dark = false
  f : S.f.set = false
  w : S.w.set = false
  c : S.c.set = false
  bad0 : b0.bad = false
  bad1 : b1.bad = false
def tn0 (np : Nat) : LS := madeS 2 np []
theorem tn0_two (np : Nat) : Two (tn0 np) np (newBk np) (newBk np) := ⟨rfl, rfl, rfl, rfl, rfl, rfl, rfl, rfl⟩
/-- The cut program. -/
theorem torn_prog {S : LS} {np keep : Nat} {b0 b1 : Bk} (h : Two S np b0 b1) (hn : 1 ≤ np) (hx : b0.next = 0) (l : List UInt8) (h1 : 1 ≤ l.length) (h2 : l.length ≤ 2000) (hp : b0.pages.length = np) :
    ∃ S', progL { S with c := behindS 0, keep := (keep : Int) } 0 0 l = (2, S') ∧ S'.dark = true ∧ hasL S' 0 0 = true ∧ Two { S' with dark := false, c := ⟨false, 0⟩ } np { b0 with bad := false, next := 1, pages := b0.pages.set 0 (l.take keep) } b1 := by
  obtain ⟨e1, e2, e3, e4, e5, e6, e7, e8⟩ := h
  have hh : hasL { S with c := behindS 0, keep := (keep : Int) } 0 0 = true := by simp [hasL, e1, e2]; omega
  have hi := hasL_is hh
  have hb : blkL { S with c := behindS 0, keep := (keep : Int) } 0 = b0 := by simp [blkL, e1]
  have hr : refS { S with c := behindS 0, keep := (keep : Int) } 0 0 l.length = 0 := by
    unfold refS barS
    rw [hh, hi, hb, e7, hx, if_neg (bad3 (by omega) (by omega))]
    simp [e3]
  refine ⟨_, by unfold progL; rw [if_neg (by rw [hr]; decide)]; show (if (behindS 0).hit = true then _ else _) = _; rw [if_pos (show (behindS 0).hit = true from rfl)], rfl, ?_, ?_⟩
  · simp [hasL, putL, e1, e2]; omega
  · exact ⟨by simp [putL, blkL, e1, hx], e2, rfl, by simp [(Tm.unset e4).2, e4], e5, rfl, rfl, e8⟩
theorem two_read0 {S : LS} {np : Nat} {b0 b1 : Bk} (h : Two S np b0 b1) (hn : 1 ≤ np) : rdL S 0 0 = (b0.pages.getD 0 [], 0, (rdL S 0 0).2.2) ∧ Two (rdL S 0 0).2.2 np b0 b1 := by
  obtain ⟨e1, e2, e3, e4, e5, e6, e7, e8⟩ := h
  have hh : hasL S 0 0 = true := by simp [hasL, e1, e2]; omega
  have e : rdL S 0 0 = (b0.pages.getD 0 [], 0, { S with rd := wrap64 (S.rd + 1) }) := by
    unfold rdL
    rw [if_neg (by rw [hh]; decide), if_neg (by rw [e3]; decide)]
    simp [pageL, e1]
  rw [e]
  exact ⟨rfl, e1, e2, e3, e4, e5, e6, e7, e8⟩
theorem dark_read {S : LS} (h : S.dark = true) (hh : hasL S 0 0 = true) : rdL S 0 0 = ([], 2, S) := by
  unfold rdL
  rw [if_neg (by rw [hh]; decide), if_pos h]
theorem two_tell0 {S : LS} {np : Nat} {b0 b1 : Bk} (h : Two S np b0 b1) : tellB S 0 = b0 := by simp [tellB, isL, blkL, h.bl]
theorem two_tell1 {S : LS} {np : Nat} {b0 b1 : Bk} (h : Two S np b0 b1) : tellB S 1 = b1 := by simp [tellB, isL, blkL, h.bl]
theorem two_prog {S : LS} {np i : Nat} {b0 b1 : Bk} (h : Two S np b0 b1) (hi : i < np) (hx : b1.next = (i : Int)) : (progL S 1 i [7]).1 = 0 ∧ Two (progL S 1 i [7]).2 np b0 { b1 with bad := false, next := ((i + 1 : Nat) : Int), pages := b1.pages.set i [7] } := by
  obtain ⟨e1, e2, e3, e4, e5, e6, e7, e8⟩ := h
  have hh : hasL S 1 i = true := by simp [hasL, e1, e2]; omega
  have hs := hasL_is hh
  have hb : blkL S 1 = b1 := by simp [blkL, e1]
  have hr : refS S 1 i ([7] : List UInt8).length = 0 := by
    unfold refS barS
    rw [hh, hs, hb, e8, hx, if_neg (bad3 (by decide) (by decide))]
    simp [e3]
  have hp : progL S 1 i [7] = (0, { S with pr := wrap64 (S.pr + 1), bl := [b0, { b1 with bad := false, next := (i : Int) + 1, pages := b1.pages.set i [7] }] }) := by
    unfold progL
    rw [if_neg (by rw [hr]; decide), (Tm.unset e6).1, (Tm.unset e4).1, (Tm.unset e6).2, (Tm.unset e4).2]
    simp [putL, blkL, e1, hx]
  rw [hp]
  exact ⟨rfl, by push_cast; rfl, e2, e3, e4, e5, e6, e7, rfl⟩
/-- Block 1 with its first i pages programmed. -/
def sevens (np i : Nat) : Bk := ⟨false, i, 0, List.replicate i [7] ++ List.replicate (np - i) []⟩
theorem sevens_new (np : Nat) : newBk np = sevens np 0 := by simp [newBk, sevens]
theorem sevens_next {S : LS} {np i : Nat} {b0 : Bk} (h : Two S np b0 (sevens np i)) (hi : i < np) : (progL S 1 i [7]).1 = 0 ∧ Two (progL S 1 i [7]).2 np b0 (sevens np (i + 1)) := by
  have hp : (List.replicate i [(7 : UInt8)] ++ List.replicate (np - i) []).set i [7] = List.replicate (i + 1) [7] ++ List.replicate (np - (i + 1)) [] := by
    rw [List.set_append_right _ _ (by simp)]
    obtain ⟨m, hm⟩ : ∃ m, np - i = m + 1 := ⟨np - i - 1, by omega⟩
    rw [hm, show np - (i + 1) = m by omega]
    rw [List.replicate_succ' (n := i)]
    simp [List.replicate_succ (n := m)]
  obtain ⟨h1, h2⟩ := two_prog h hi rfl
  refine ⟨h1, ?_⟩
  have e : ({ sevens np i with bad := false, next := ((i + 1 : Nat) : Int), pages := (sevens np i).pages.set i [7] } : Bk) = sevens np (i + 1) := by
    simp only [sevens, hp]
  rw [← e]
  exact h2
/-- The cut erase. -/
theorem torn_erase {S : LS} {np keep : Nat} {b0 b1 : Bk} (h : Two S np b0 b1) :
    ∃ S', eraseL { S with c := behindS 0, keep := (keep : Int) } 1 = (2, S') ∧ S'.dark = true ∧ Two { S' with dark := false, c := ⟨false, 0⟩ } np b0 (emptyB (cntB b1) keep np) := by
  obtain ⟨e1, e2, e3, e4, e5, e6, e7, e8⟩ := h
  have hi : isL { S with c := behindS 0, keep := (keep : Int) } 1 = true := by simp [isL, e1]
  have hb : blkL { S with c := behindS 0, keep := (keep : Int) } 1 = b1 := by simp [blkL, e1]
  have e : barS { S with c := behindS 0, keep := (keep : Int) } 1 = 0 := by unfold barS; rw [hi, hb, e8]; simp [e3]
  refine ⟨_, by unfold eraseL; rw [if_neg (by rw [e]; decide)]; show (if (behindS 0).hit = true then _ else _) = _; rw [if_pos (show (behindS 0).hit = true from rfl)], rfl, ?_⟩
  exact ⟨by simp [blkL, e1, e2], e2, rfl, e4, by simp [(Tm.unset e5).2, e5], rfl, e7, e8⟩
/-- What the law asks of the block behind a cut erase. -/
theorem torn_block (np keep i : Nat) (hi : i < np) : (emptyB (cntB (sevens np np)) keep np).count = 1 ∧ (emptyB (cntB (sevens np np)) keep np).pages.length = np ∧ (emptyB (cntB (sevens np np)) keep np).next = (if np ≤ keep then 0 else (np : Int)) ∧ (((emptyB (cntB (sevens np np)) keep np).pages.getD i []).length = if i < keep then 0 else 1) := by
  refine ⟨by show wrap64 1 = 1; exact IntWalk.wrap64_in _ ⟨by omega, by omega⟩, ?_, rfl, ?_⟩
  · simp [emptyB, cntB, sevens, clr_length]
  · show ((clr (List.replicate np [(7 : UInt8)] ++ List.replicate (np - np) []) keep).getD i []).length = _
    rw [List.getD_eq_getElem?_getD, clr_get]
    simp only [Nat.sub_self, List.replicate_zero, List.append_nil, List.length_replicate]
    by_cases hk : i < keep
    · rw [if_pos (by omega), if_pos hk]; rfl
    · rw [if_neg (by omega), if_neg hk]
      simp [hi]
theorem bk_is (b : Bk) {x : Int} (h1 : b.bad = false) (h2 : b.next = x) (h3 : b.count = 1) : b = ⟨false, x, 1, b.pages⟩ := by
  obtain ⟨b1, b2, b3, b4⟩ := b
  subst h1 h2 h3
  rfl
theorem torn_pages (np keep : Nat) (h : 1 ≤ np) (x : Int) (hx : x = if np ≤ keep then 0 else (np : Int)) : ∃ NP : List (List UInt8), emptyB (cntB (sevens np np)) keep np = ⟨false, x, 1, NP⟩ ∧ NP.length = np ∧ ∀ i (hi : i < NP.length), NP[i].length = if i < keep then 0 else 1 := by
  have hl := (torn_block np keep 0 h).2.1
  refine ⟨_, bk_is _ rfl hx.symm (torn_block np keep 0 h).1, hl, fun i hi => ?_⟩
  have h9 := (torn_block np keep i (by omega)).2.2.2
  rw [List.getD_eq_getElem?_getD, List.getElem?_eq_getElem hi] at h9
  exact h9
end Go.Proofs.Ytdajlmbpjaoelaa
