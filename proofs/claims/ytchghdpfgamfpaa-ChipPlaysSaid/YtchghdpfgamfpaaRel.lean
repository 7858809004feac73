/- The landed chip and the reference's: which two are alike, and that each call leaves them so. -/
import Derived.Test.YtchghdpfgamfpaaRefSames
import Derived.Test.YtchghdpfgamfpaaRefAny
import Derived.Test.YtchghdpfgamfpaaRefErase2
import Derived.Test.YtchghdpfgamfpaaLHeld
namespace Go.Proofs.Ytchghdpfgamfpaa
open Go.RowKit

/-- A timer beside the reference's: equal, or never beside unset, or never beside one that is too far off to come in k calls less. -/
def RT (k : Nat) (t : Tm) (n : Int) : Prop := (n = 0 ∧ t.set = false) ∨ (n = 0 ∧ t.set = true ∧ 1099511627776 - (k : Int) ≤ t.left) ∨ (0 < n ∧ t.set = true ∧ t.left = n - 1)
theorem RT.mono {k m : Nat} {t : Tm} {n : Int} (h : RT k t n) (hk : k ≤ m) : RT m t n := by
  rcases h with h | ⟨h1, h2, h3⟩ | h
  · exact .inl h
  · exact .inr (.inl ⟨h1, h2, by omega⟩)
  · exact .inr (.inr h)
theorem RT.hit {k : Nat} {t : Tm} {n : Int} (h : RT k t n) (hk : k < 1000000) : t.hit = comesS n := by
  unfold Tm.hit comesS
  rcases h with ⟨rfl, h2⟩ | ⟨rfl, h2, h3⟩ | ⟨h1, h2, h3⟩
  · simp [h2]
  · have : ¬ t.left ≤ 0 := by omega
    simp [h2, this]
  · rw [h2, h3]
    by_cases hn : n = 1
    · subst hn; rfl
    · have : ¬ n - 1 ≤ 0 := by omega
      simp [hn, this]
theorem RT.tick {k : Nat} {t : Tm} {n : Int} (h : RT k t n) (hk : k < 1000000) : RT (k + 1) t.tick (leftS n) := by
  unfold Tm.tick leftS
  rcases h with ⟨rfl, h2⟩ | ⟨rfl, h2, h3⟩ | ⟨h1, h2, h3⟩
  · simp only [h2]
    exact .inl ⟨rfl, h2⟩
  · have : 0 < t.left := by omega
    rw [if_pos rfl, if_pos h2, if_pos this]
    exact .inr (.inl ⟨rfl, rfl, by show 1099511627776 - ((k + 1 : Nat) : Int) ≤ t.left - 1; omega⟩)
  · rw [if_neg (show ¬ n = 0 by omega), if_pos h2, h3]
    by_cases hn : 0 < n - 1
    · rw [if_pos hn]
      exact .inr (.inr ⟨hn, rfl, rfl⟩)
    · rw [if_neg hn]
      exact .inl ⟨by omega, rfl⟩
theorem RT.set (k : Nat) (n : Int) : RT k (behindS n) (afterS n) := by
  unfold behindS afterS
  by_cases h0 : n < 0
  · rw [if_pos h0, if_pos (.inl h0)]
    exact .inl ⟨rfl, rfl⟩
  · rw [if_neg h0]
    by_cases h1 : 1099511627776 ≤ n
    · rw [if_pos (.inr h1)]
      exact .inr (.inl ⟨rfl, rfl, by show 1099511627776 - (k : Int) ≤ n; omega⟩)
    · rw [if_neg (by omega)]
      exact .inr (.inr ⟨by omega, rfl, by show n = n + 1 - 1; omega⟩)
/-- The two chips, behind k calls. -/
structure Rel (k : Nat) (S : LS) (T : CS) : Prop where
  bl : S.bl = T.bl
  np : S.np = T.np
  rd : S.rd = T.rd
  pr : S.pr = T.pr
  er : S.er = T.er
  dark : S.dark = T.dark
  keep : S.keep = T.keep
  f : RT k S.f T.fails
  w : RT k S.w T.worns
  c : RT k S.c T.cuts
section
variable {k : Nat} {S : LS} {T : CS}
theorem Rel.mono {m : Nat} (h : Rel k S T) (hk : k ≤ m) : Rel m S T := { h with f := h.f.mono hk, w := h.w.mono hk, c := h.c.mono hk }
theorem rel_made (n np : Nat) (l : List Int) : Rel 0 (madeS n np l) (madeR n np l) :=
  ⟨rfl, rfl, rfl, rfl, rfl, rfl, rfl, .inl ⟨rfl, rfl⟩, .inl ⟨rfl, rfl⟩, .inl ⟨rfl, rfl⟩⟩
theorem Rel.fail (h : Rel k S T) (n : Int) : Rel k { S with f := behindS n } { T with fails := afterS n } := { h with f := RT.set k n }
theorem Rel.worn (h : Rel k S T) (n : Int) : Rel k { S with w := behindS n } { T with worns := afterS n } := { h with w := RT.set k n }
theorem Rel.cut (h : Rel k S T) (n m : Int) : Rel k { S with c := behindS n, keep := max 0 m } { T with cuts := afterS n, keep := max 0 m } := { h with c := RT.set k n, keep := rfl }
theorem Rel.power (h : Rel k S T) : Rel k { S with dark := false, c := ⟨false, 0⟩ } { T with dark := false, cuts := 0 } := { h with dark := rfl, c := .inl ⟨rfl, rfl⟩ }
theorem Rel.tell (h : Rel k S T) (i : Int) : tellB S i = tellR T i := by
  unfold tellB tellR isL blkL blkS noB
  rw [h.bl]
  by_cases hi : 0 ≤ i ∧ i < (T.bl.length : Int)
  · rw [if_pos hi, if_pos (by simpa using hi)]
  · rw [if_neg hi, if_neg (by simpa using hi)]
theorem Rel.read (h : Rel k S T) (b pg : Int) : (rdL S b pg).1 = (readS T b pg).1 ∧ (rdL S b pg).2.1 = (readS T b pg).2.1 ∧ Rel k (rdL S b pg).2.2 (readS T b pg).2.2 := by
  have e1 : hasL S b pg = hasS T b pg := by unfold hasL hasS; rw [h.bl, h.np]
  have e2 : pageL S b pg = pageS T b pg := by unfold pageL pageS; rw [h.bl]; cases T.bl[b.toNat]? <;> rfl
  unfold rdL readS
  rw [e1, e2, h.dark]
  split
  · exact ⟨rfl, rfl, h⟩
  · split
    · exact ⟨rfl, rfl, h⟩
    · exact ⟨rfl, rfl, { h with rd := (by rw [h.rd] : wrap64 (S.rd + 1) = wrap64 (T.rd + 1)), dark := rfl }⟩
theorem Rel.prog (h : Rel k S T) (hk : k < 1000000) (b pg : Int) (l : List UInt8) : (progL S b pg l).1 = (progS T b pg l).1 ∧ Rel (k + 1) (progL S b pg l).2 (progS T b pg l).2 := by
  have e1 : hasL S b pg = hasS T b pg := by unfold hasL hasS; rw [h.bl, h.np]
  have e2 : blkL S b = blkS T b := by unfold blkL blkS; rw [h.bl]
  have e3 : ∀ x y, putL S b pg x y = putS T b pg x y := fun x y => by unfold putL putS; rw [e2, h.bl]
  have e4 : hasS T b pg = true → isL S b = true := fun e => by
    obtain ⟨i, j, rfl, rfl, hi, _⟩ := has_nats e
    unfold isL
    rw [h.bl]
    simp
    omega
  have hp : wrap64 (S.pr + 1) = wrap64 (T.pr + 1) := by rw [h.pr]
  have hm := h.mono (Nat.le_succ k)
  unfold progL progS refS
  rw [e1, e2]
  by_cases h0 : hasS T b pg = false ∨ l.length < 1 ∨ 2000 < l.length
  · simp only [if_pos h0]
    exact ⟨by simp, by simpa using hm⟩
  · have hi := e4 (by cases e : hasS T b pg with | true => rfl | false => exact absurd (.inl e) h0)
    simp only [if_neg h0]
    unfold barS
    rw [hi, e2, h.dark]
    by_cases h1 : T.dark = true
    · simp [h1]; exact hm
    · by_cases h2 : (blkS T b).bad = true
      · simp [h1, h2]; exact hm
      · by_cases h3 : pg = (blkS T b).next
        · rw [h.c.hit hk, h.f.hit hk]
          simp only [Bool.not_eq_true] at h1 h2
          simp only [h1, h2, if_neg (show ¬ pg ≠ (blkS T b).next from fun hne => hne h3), Bool.true_eq_false, Bool.false_eq_true, if_false, ne_eq, not_true_eq_false]
          split
          · have e5 : putL S b pg false (l.take S.keep.toNat) = putS T b pg false (l.take (min T.keep.toNat l.length)) := by
              rw [e3, h.keep]
              congr 1
              rw [List.take_eq_take_iff]; omega
            exact ⟨rfl, { h with pr := hp, f := h.f.tick hk, c := h.c.tick hk, w := hm.w, dark := rfl, bl := e5 }⟩
          · split
            · exact ⟨rfl, { h with pr := hp, f := h.f.tick hk, c := h.c.tick hk, w := hm.w, dark := rfl, bl := e3 _ _ }⟩
            · exact ⟨rfl, { h with pr := hp, f := h.f.tick hk, c := h.c.tick hk, w := hm.w, dark := rfl, bl := e3 _ _ }⟩
        · simp only [Bool.not_eq_true] at h1 h2
          simp [h1, h2, h3]; exact hm
theorem Rel.erase (h : Rel k S T) (hk : k < 1000000) (b : Int) : (eraseL S b).1 = (eraseS T b).1 ∧ Rel (k + 1) (eraseL S b).2 (eraseS T b).2 := by
  have e2 : blkL S b = blkS T b := by unfold blkL blkS; rw [h.bl]
  have e1 : barS S b = barE T b := by
    unfold barS barE isL
    rw [e2, h.bl, h.dark]
    by_cases hi : 0 ≤ b ∧ b < (T.bl.length : Int)
    · rw [if_neg (by simpa using hi), if_neg (show ¬ ¬ (0 ≤ b ∧ b < (T.bl.length : Int)) from fun hn => hn hi)]
    · rw [if_pos (by simpa using hi), if_pos hi]
  have hp : wrap64 (S.er + 1) = wrap64 (T.er + 1) := by rw [h.er]
  have hm := h.mono (Nat.le_succ k)
  unfold eraseL eraseS
  rw [e1, h.c.hit hk, h.w.hit hk, e2, h.np, h.keep, h.bl]
  split
  · exact ⟨rfl, hm⟩
  · split
    · exact ⟨rfl, { h with er := hp, w := h.w.tick hk, c := h.c.tick hk, f := hm.f, dark := rfl, bl := rfl, np := rfl, keep := rfl }⟩
    · split
      · exact ⟨rfl, { h with er := hp, w := h.w.tick hk, c := h.c.tick hk, f := hm.f, bl := rfl, np := rfl, keep := rfl }⟩
      · exact ⟨rfl, { h with er := hp, w := h.w.tick hk, c := h.c.tick hk, f := hm.f, bl := rfl, np := rfl, keep := rfl }⟩
end
end Go.Proofs.Ytchghdpfgamfpaa
