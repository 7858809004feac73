/- MountTorn: its chip and its scan, reckoned. -/
import Derived.Test.YtnadcdgpfopcaaaMoT
namespace Go.Proofs.Ytnadcdgpfopcaaa
open Go.RowKit

/-- No sheet's bytes begin another's. -/
theorem sheet_prefix {p s p' s' : Int} {d d' r : List UInt8} (h : MayS p s d) (h' : MayS p' s' d') (e : sheetL p.toNat s.toNat d = sheetL p'.toNat s'.toNat d' ++ r) : r = [] := by
  obtain ⟨⟨a1, a2⟩, ⟨b1, b2⟩, c1, _⟩ := id h
  obtain ⟨⟨a1', a2'⟩, ⟨b1', b2'⟩, c1', _⟩ := id h'
  obtain ⟨x1, x2, x3⟩ := steps_sheet p.toNat s.toNat d [90] (by omega) (by omega) c1
  obtain ⟨y1, y2, y3⟩ := steps_sheet p'.toNat s'.toNat d' ([90] ++ r) (by omega) (by omega) c1'
  unfold sheetL at e
  rw [e, List.append_assoc _ [90] r, y1] at x1
  injection x1 with e1 e2
  rw [← e2, y2] at x2
  injection x2 with e3 e4
  rw [← e4, y3] at x3
  injection x3 with e5 e6
  injection e6 with e7
  simpa using e7
theorem torn_none {p s : Int} {d : List UInt8} {k : Nat} (h : MayS p s d) (hk : k < (sheetL p.toNat s.toNat d).length) : NoSheet ((sheetL p.toNat s.toNat d).take k) := fun p' s' d' h' e => by
  have := sheet_prefix h h' (r := (sheetL p.toNat s.toNat d).drop k) (by rw [← e, List.take_append_drop])
  have h2 := congrArg List.length this
  simp at h2; omega
theorem empty_none : NoSheet [] := fun p s d _ e => by
  have := congrArg List.length e
  simp [sheetL] at this
def uS1 (k : Nat) : LS := { madeS 2 2 [] with c := behindS 0, keep := max 0 (k : Int) }
def uS2 (T : List UInt8) (k : Nat) : LS := { madeS 2 2 [] with pr := wrap64 1, f := (madeS 2 2 []).f.tick, bl := [newBk 2, ⟨false, 1, 0, [T, []]⟩], c := ⟨false, 0⟩, keep := max 0 (k : Int) }
theorem u_prog (k : Nat) (L : List UInt8) (h1 : 1 ≤ L.length) (h2 : L.length ≤ 2000) : ∃ S', progL (uS1 k) 1 0 L = (2, S') ∧ ({ S' with dark := false, c := ⟨false, 0⟩ } : LS) = uS2 (L.take k) k := by
  have hk : (max 0 (k : Int)).toNat = k := by omega
  have hh : hasL (uS1 k) 1 0 = true := rfl
  have hi := hasL_is hh
  have hb : blkL (uS1 k) 1 = newBk 2 := rfl
  have hr : refS (uS1 k) 1 0 L.length = 0 := by
    unfold refS barS
    rw [hh, hi, hb, if_neg (bad3 (by omega) (by omega))]
    rfl
  refine ⟨_, by unfold progL; rw [if_neg (by rw [hr]; decide)]; show (if (behindS 0).hit = true then _ else _) = _; rw [if_pos (show (behindS 0).hit = true from rfl)], ?_⟩
  show ({ uS1 k with pr := _, f := _, c := _, dark := _, bl := putL (uS1 k) 1 0 false (L.take (max 0 (k : Int)).toNat) } : LS) = _
  rw [hk]
  rfl
def uS3 (T : List UInt8) (k : Nat) : LS := { uS2 T k with rd := wrap64 1 }
def uS4 (T : List UInt8) (k : Nat) : LS := { uS2 T k with rd := wrap64 (wrap64 1 + 1) }
/-- The scan behind its step: something was found, or not. -/
def uM (T : List UInt8) (k : Nat) (P : MS → Prop) : Prop := ∃ M, (startM (uS2 T k)).stepped 10 = M ∧ P M
theorem u_step (T : List UInt8) (k : Nat) : (startM (uS2 T k)).stepped 10 = { (({ startM (uS2 T k) with S := uS3 T k } : MS).note (1, 0) T).visit (1, 1) with k := 4 } := by
  have e0 : wrTo (startM (uS2 T k)).S (startM (uS2 T k)).P (startM (uS2 T k)).k ((startM (uS2 T k)).end_ 10) (startM (uS2 T k)).B = [(1, 0), (1, 1)] := rfl
  have e1 : (startM (uS2 T k)).end_ 10 = 4 := rfl
  unfold MS.stepped
  rw [e0, e1]
  rfl
theorem u_none (T : List UInt8) (k : Nat) (h : NoSheet T) : (startM (uS2 T k)).stepped 10 = { startM (uS2 T k) with S := uS4 T k, k := 4 } := by
  rw [u_step, note_none h]
  unfold MS.visit
  have r1 : (rdL ({ startM (uS2 T k) with S := uS3 T k } : MS).S (1, 1).1 (1, 1).2).1 = [] := rfl
  rw [r1, note_none empty_none]
  rfl
theorem u_some (k : Nat) {p q : Int} {d : List UInt8} (h : MayS p q d) : (startM (uS2 (sheetL p.toNat q.toNat d) k)).stepped 10 = { startM (uS2 (sheetL p.toNat q.toNat d) k) with S := uS4 (sheetL p.toNat q.toNat d) k, k := 4, fd := [((p, q), (1, 0))], rp := 0, rs := if p = 0 then q else 0, rd := if p = 0 then d else [] } := by
  obtain ⟨T, hT⟩ : ∃ T, sheetL p.toNat q.toNat d = T := ⟨_, rfl⟩
  have hq := h.2.1.1
  have hn := note_some (M := ({ startM (uS2 T k) with S := uS3 T k } : MS)) (sp := (1, 0)) h
  rw [hT] at hn ⊢
  rw [u_step, hn]
  have hrs : ({ startM (uS2 T k) with S := uS3 T k } : MS).rs = 0 := rfl
  rw [hrs]
  unfold MS.visit
  by_cases hp : p = 0
  · rw [if_pos ⟨hp, by omega⟩, if_pos hp, if_pos hp, hp]
    have r1 : ∀ M : MS, M.S = uS3 T k → (rdL M.S (1, 1).1 (1, 1).2).1 = [] := fun M e => by rw [e]; rfl
    rw [r1 _ rfl, note_none empty_none]
    rfl
  · rw [if_neg (fun e => hp e.1), if_neg hp, if_neg hp]
    have r1 : ∀ M : MS, M.S = uS3 T k → (rdL M.S (1, 1).1 (1, 1).2).1 = [] := fun M e => by rw [e]; rfl
    rw [r1 _ rfl, note_none empty_none]
    rfl
end Go.Proofs.Ytnadcdgpfopcaaa
