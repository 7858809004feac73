/- A chip that every program must know: what is found on it, reckoned. -/
import Derived.Test.YtnadcdgpfopcaaaMoP
namespace Go.Proofs.Ytnadcdgpfopcaaa
open Go.RowKit

def rB : List UInt8 := [0, 4, 1, 114, 90]
theorem rB_is : sheetL 0 4 [114] = rB := by
  simp [sheetL, numL, hiL_zero, byteOf, rB]
theorem rB_may : MayS 0 4 [114] := ⟨by omega, by omega, by simp, by rw [show (Int.toNat 0) = 0 from rfl, show (Int.toNat 4) = 4 from rfl, rB_is]; simp [rB]⟩
theorem rB_parse : parseL rB = some (0, 4, [114]) := by
  have h1 : numStep (rB, 0) 60 = (0, ([4, 1, 114, 90], 0)) := by kernel_rfl
  have h2 : numStep ([4, 1, 114, 90], 0) 1099511627776 = (4, ([1, 114, 90], 0)) := by kernel_rfl
  have h3 : textStep ([1, 114, 90], 0) 2000 = ([114], ([90], 0)) := by kernel_rfl
  rw [parseL_steps h1 h2 h3, if_pos ⟨rfl, rfl, rB_may⟩]
def aS0 : LS := madeS 3 2 []
def aS1 : LS := (progL aS0 1 0 rB).2
def aS2 : LS := (rdL aS1 1 0).2.2
def aS3 : LS := (rdL aS2 1 1).2.2
def aM0 : MS := startM aS1
def aM1 : MS := { S := aS3, B := 3, P := 2, k := 4, fd := [((0, 4), (1, 0))], rp := 0, rs := 4, rd := [114] }
def aM2 : MS := { aM1 with k := 6 }
theorem aM1_is : aM0.stepped 4 = aM1 := by
  have e0 : wrTo aM0.S aM0.P aM0.k (aM0.end_ 4) aM0.B = [(1, 0), (1, 1)] := by kernel_rfl
  have e1 : aM0.end_ 4 = 4 := by kernel_rfl
  have r1 : (rdL aS1 1 0).1 = rB := by kernel_rfl
  have r2 : (rdL aS2 1 1).1 = [] := by kernel_rfl
  have p2 : parseL [] = none := by kernel_rfl
  have v1 : aM0.visit (1, 0) = { aM0 with S := aS2, fd := [((0, 4), (1, 0))], rp := 0, rs := 4, rd := [114] } := by
    unfold MS.visit
    have : rdL aM0.S (1, 0).1 (1, 0).2 = rdL aS1 1 0 := rfl
    rw [this, r1]
    unfold MS.note
    rw [rB_parse]
    rfl
  have v2 : ({ aM0 with S := aS2, fd := [((0, 4), (1, 0))], rp := 0, rs := 4, rd := [114] } : MS).visit (1, 1) = { aM0 with S := aS3, fd := [((0, 4), (1, 0))], rp := 0, rs := 4, rd := [114] } := by
    unfold MS.visit
    have : rdL ({ aM0 with S := aS2, fd := [((0, 4), (1, 0))], rp := 0, rs := 4, rd := [114] } : MS).S (1, 1).1 (1, 1).2 = rdL aS2 1 1 := rfl
    rw [this, r2]
    unfold MS.note
    rw [p2]
    rfl
  unfold MS.stepped
  rw [e0, e1]
  simp only [MS.visits, List.foldl]
  rw [v1, v2]
  rfl
theorem aM2_is : aM1.stepped 4 = aM2 := by kernel_rfl
theorem aM1_thr : aM1.thr = false := by kernel_rfl
theorem aM2_thr : aM2.thr = true := by kernel_rfl
theorem aM2_tells : aM2.tells = true := by kernel_rfl
theorem aM2_seq : seqL aM2.tell = 4 := by kernel_rfl
theorem aM2_pickE : aM2.pickE [(0, 4)] = 0 := by kernel_rfl
theorem aM2_pickF : aM2.pickF [(0, 4)] = [((0, 4), (1, 0))] := by kernel_rfl
theorem aS_prog : (progL aS0 1 0 rB).1 = 0 := by kernel_rfl
theorem aM0_good : aM0.S.bl.length = 3 ∧ aM0.S.np = 2 ∧ aM0.S.dark = false ∧ aM1.S.dark = false := ⟨by kernel_rfl, by kernel_rfl, by kernel_rfl, by kernel_rfl⟩
end Go.Proofs.Ytnadcdgpfopcaaa
