/- A pool: Open of a row that is empty; awake's pool, reckoned. -/
import Derived.Test.YtnadcdgpfopcaaaGreatPoI5
import Derived.Test.YtnadcdgpfopcaaaGreatPoG6
namespace Go.Proofs.YtnadcdgpfopcaaaGreat
open Go.RowKit

/-- The pool that Open makes of nothing. -/
def newQ (S : LS) (B P Sp K U bad seq : Int) : PS := { S := S, B := B, P := P, Sp := Sp, K := K, U := U, bad := bad, L := [], F := [], seq := seq, op := -1, down := false }
section
variable {w w' : World} {p c : Nat} {x : Nat → Prop} {S : LS}
theorem q_open (B P Sp K U bad seq : Int) (h : Held w c x S) (h1 : 1 ≤ S.bl.length) (h2 : S.bl.length ≤ 1000) (hbd : (Lit.int .i64 bad).wf = true) (hf : FitsP B P Sp K U bad) (hB : (S.bl.length : Int) = B) (hP : ((S.bl[0]'h1).pages.length : Int) = P) (hb : bad ≤ (badB S.bl : Int)) (hs : 0 ≤ seq ∧ seq ≤ 1099511627776) (hdk : S.dark = false) : Calls Tryz.prog 27 #[.pointer (some ⟨c, 0, none⟩), .agg #[.int .i64 B, .int .i64 P, .int .i64 Sp, .int .i64 K, .int .i64 U], .int .i64 bad, .slice none 0 0, .int .i64 seq] w fun e w' => ∃ p, e = .returned (.tuple #[.pointer (some ⟨p, 0, none⟩), .int .i64 0]) ∧ Pool w' p c x (newQ S B P Sp K U bad seq) ∧ Safe x w w' := by
  refine (q_open0 B P Sp K U bad seq h h1 h2 hbd hf hB hP hb hs hdk).mono ?_
  rintro e w' ⟨p, l, f, w5, w6, rfl, b5, t5, b6, t6, b7, hp, hc⟩
  exact ⟨p, rfl, pool_new h b5 t5 b6 t6 b7 hp (newQ S B P Sp K U bad seq) rfl rfl rfl hc⟩
theorem ok_new {B P : Nat} {Sp K U : Int} (l : List Int) (hm : MayP B P Sp K U) (bad seq : Int) (hb : 0 ≤ bad ∧ bad ≤ 64) (hs : 0 ≤ seq ∧ seq ≤ 1099511627776) : Ok (newQ (madeS B P l) B P Sp K U bad seq) := by
  have hl : (madeS B P l).bl.length = B := by simp [madeS, badL_length, newS]
  have key : ∀ b ∈ (madeS B P l).bl, b.count = 0 ∧ b.next = 0 := by
    have h1 : ∀ (l : List Int) (bl : List Bk), (∀ b ∈ bl, b.count = 0 ∧ b.next = 0) → ∀ b ∈ badL bl l, b.count = 0 ∧ b.next = 0 := by
      intro l
      induction l with
      | nil => exact fun bl h b hb => h b hb
      | cons a l ih =>
        intro bl h
        refine ih (badOne bl a) fun b hb => ?_
        unfold badOne at hb
        split at hb
        · next hr =>
          rcases List.mem_or_eq_of_mem_set hb with k | rfl
          · exact h b k
          · have : bl.getD a.toNat noB ∈ bl := by
              rw [List.getD_eq_getElem?_getD, List.getElem?_eq_getElem (by omega)]
              exact List.getElem_mem _
            have h9 := h _ this
            exact h9
        · exact h b hb
    refine h1 l _ fun b hb => ?_
    have : b = newBk P := List.eq_of_mem_replicate hb
    rw [this]; exact ⟨rfl, rfl⟩
  refine ⟨hm, by rw [show (newQ (madeS B P l) B P Sp K U bad seq).S = madeS B P l from rfl, hl]; rfl, rfl, hb, ⟨Int.le_refl _, ?_⟩, hs, ⟨Nat.zero_le _, Nat.zero_le _⟩, fun b h => by rw [(key b h).1]; rfl, fun b h => by rw [(key b h).2]; exact ⟨Int.le_refl _, by have := hm.2.1; show (0 : Int) ≤ P; omega⟩⟩
  have := hm.1
  show (-1 : Int) < B
  omega
end
def aQ0 : PS := newQ (madeS 6 4 []) 6 4 1 4 3 0 0
def fst3 (o : Option (Int × P2 × PS)) (d : PS) : PS := match o with | some x => x.2.2 | none => d
def fst2 (o : Option (Int × PS)) (d : PS) : PS := match o with | some x => x.2 | none => d
theorem sh1 : sheetL 3 1 [120] = [3, 1, 1, 120, 90] := by simp [sheetL, numL, hiL_zero, byteOf]
theorem sh2 : sheetL 0 2 [114, 111, 111, 116] = [0, 2, 4, 114, 111, 111, 116, 90] := by simp [sheetL, numL, hiL_zero, byteOf]
theorem sh1_may : MayS 3 1 [120] := ⟨by omega, by omega, by simp, by rw [show (Int.toNat 3) = 3 from rfl, show (Int.toNat 1) = 1 from rfl, sh1]; simp⟩
theorem sh2_may : MayS 0 2 [114, 111, 111, 116] := ⟨by omega, by omega, by simp, by rw [show (Int.toNat 0) = 0 from rfl, show (Int.toNat 2) = 2 from rfl, sh2]; simp⟩
def gv (o : Option (Int × Fd × PS)) (d : PS) : PS := match o with | some x => x.2.2 | none => d
def aG1 : PS := gv (aQ0.give 4 3 [3, 1, 1, 120, 90]) aQ0
theorem aGive1 : aQ0.give 4 3 [3, 1, 1, 120, 90] = some (0, ((3, 1), (0, 0)), aG1) := by kernel_rfl
def aQ1 : PS := { aG1 with F := [((3, 1), (0, 0))] }
theorem aF1 : putT aG1.F (3, 1) (0, 0) = [((3, 1), (0, 0))] := by kernel_rfl
theorem aPut : aQ0.put 4 3 [120] = some (0, (3, 1), aQ1) := by
  have e : sheetL (3 : Int).toNat (aQ0.seq + 1).toNat [120] = [3, 1, 1, 120, 90] := sh1
  unfold PS.put
  rw [if_neg (by decide), if_neg (by rw [show aQ0.seq + 1 = 1 from rfl]; exact fun h => h sh1_may), if_neg (by decide), e, aGive1]
  dsimp only
  rw [if_pos rfl, aF1, if_pos ⟨⟨rfl, rfl⟩, ⟨rfl, rfl⟩, by decide⟩]
  rfl
def aG2 : PS := gv (aQ1.give 4 0 [0, 2, 4, 114, 111, 111, 116, 90]) aQ1
theorem aGive2 : aQ1.give 4 0 [0, 2, 4, 114, 111, 111, 116, 90] = some (0, ((0, 2), (0, 1)), aG2) := by kernel_rfl
def aQ2 : PS := { aG2 with L := [((3, 1), (0, 0)), ((0, 2), (0, 1))], F := [] }
theorem aMay : aQ1.may [(3, 1)] = true := by kernel_rfl
theorem aNamed : aG2.named ((0, 2), (0, 1)) [(3, 1)] = [((3, 1), (0, 0)), ((0, 2), (0, 1))] := by kernel_rfl
theorem aSeal : aQ1.sealQ 4 [114, 111, 111, 116] [(3, 1)] = some (0, aQ2) := by
  have hE : aQ1.sheetE 0 [114, 111, 111, 116] = 0 := by unfold PS.sheetE; rw [show aQ1.seq + 1 = 2 from rfl, if_pos sh2_may]
  have hB : aQ1.sheetB 0 [114, 111, 111, 116] = [0, 2, 4, 114, 111, 111, 116, 90] := by unfold PS.sheetB; rw [show aQ1.seq + 1 = 2 from rfl, if_pos sh2_may]; exact sh2
  unfold PS.sealQ PS.root
  rw [hE, aMay, if_neg (by decide), hB, aGive2]
  dsimp only
  rw [if_pos rfl, aNamed, if_pos ⟨⟨rfl, rfl⟩, ⟨rfl, rfl⟩, by decide⟩]
  rfl
theorem aAt : aQ2.at (3, 1) = some (0, 0) := by kernel_rfl
theorem aRd : rdL aQ2.S 0 0 = ([3, 1, 1, 120, 90], 0, { aQ2.S with rd := 1 }) := by kernel_rfl
theorem aGone : aQ2.gone.down = false := by kernel_rfl
theorem aTells {er : Int} {d : List UInt8} (h : aQ2.tells (3, 1) er d) : er = 0 ∧ d = [120] := by
  unfold PS.tells at h
  rw [aAt] at h
  dsimp only at h
  rw [aGone, aRd] at h
  dsimp only at h
  rw [if_neg (by simp), if_neg (by simp)] at h
  rcases h with ⟨h1, pg, sq, h2, h3⟩ | ⟨-, -, h3⟩
  · rw [← sh1] at h2
    have := sheet_inj sh1_may h3 h2
    exact ⟨h1, this.2.2.symm⟩
  · exact absurd sh1.symm (h3 3 1 [120] sh1_may)
end Go.Proofs.YtnadcdgpfopcaaaGreat
