/- Pieces of a file's bytes, as data. -/
import Derived.Test.YtljlmaddbpihnaaPBase
namespace Go.Proofs.Ytljlmaddbpihnaa
open Go.RowKit

theorem u64_nat (x : Int) (m : Nat) (hm : 0 < m) (h : m ≤ 9223372036854775807) : ∃ N : Nat, IntKind.u64.wrap x % (m : Int) = (N : Int) ∧ N < m := by
  have e : IntKind.u64.wrap x = x % 18446744073709551616 := by unfold IntKind.wrap; rfl
  have h0 : 0 ≤ IntKind.u64.wrap x := by rw [e]; omega
  have h1 := Int.emod_nonneg (IntKind.u64.wrap x) (show (m : Int) ≠ 0 by omega)
  have h2 := Int.emod_lt_of_pos (IntKind.u64.wrap x) (show (0 : Int) < m by omega)
  exact ⟨(IntKind.u64.wrap x % (m : Int)).toNat, by omega, by omega⟩
theorem u64_tmod (x : Int) (m : Nat) (hm : 0 < m) (h : m ≤ 9223372036854775807) : ∃ N : Nat, (IntKind.u64.wrap x).tmod (m : Int) = (N : Int) ∧ N < m := by
  obtain ⟨N, h1, h2⟩ := u64_nat x m hm h
  have e : IntKind.u64.wrap x = x % 18446744073709551616 := by unfold IntKind.wrap; rfl
  exact ⟨N, by rw [Int.tmod_eq_emod_of_nonneg (by rw [e]; omega)]; exact h1, h2⟩
theorem u64_rng (x : Int) : 0 ≤ IntKind.u64.wrap x ∧ IntKind.u64.wrap x ≤ 18446744073709551615 := by
  have e : IntKind.u64.wrap x = x % 18446744073709551616 := by unfold IntKind.wrap; rfl
  rw [e]; omega
theorem i64w_idS (x : Int) (h : -9223372036854775808 ≤ x ∧ x ≤ 9223372036854775807) : IntKind.i64.wrap x = x := by
  rw [IntKind.wrap_i64]; omega
/-- A piece: page, from, bytes. -/
abbrev P3 := Int × Int × Int
def fitsF (a n : Int) : Bool := decide (0 ≤ a) && (decide (0 ≤ n) && (decide (a ≤ 80) && decide (n ≤ 80 - a)))
theorem fitsF_iff {a n : Int} : fitsF a n = true ↔ 0 ≤ a ∧ 0 ≤ n ∧ a + n ≤ 80 := by
  unfold fitsF
  simp only [Bool.and_eq_true, decide_eq_true_eq]
  omega
theorem fitsF_nat {a n : Nat} : fitsF (a : Int) (n : Int) = decide (a + n ≤ 80) := by
  rw [Bool.eq_iff_iff, fitsF_iff, decide_eq_true_eq]; omega
/-- How many pieces. -/
def cntP (a n : Nat) : Nat := if n = 0 then 0 else (a + n - 1) / 16 - a / 16 + 1
/-- Where the i-th begins. -/
def begP (a i : Nat) : Nat := if i = 0 then a else (a / 16 + i) * 16
/-- Where it ends. -/
def endP (a n i : Nat) : Nat := min (a + n) ((a / 16 + i + 1) * 16)
def pieceP (a n i : Nat) : P3 := (((a / 16 + i : Nat) : Int), ((begP a i - (a / 16 + i) * 16 : Nat) : Int), ((endP a n i - begP a i : Nat) : Int))
def piecesP (a n : Nat) : List P3 := (List.range (cntP a n)).map (pieceP a n)
def piecesF (a n : Int) : List P3 := if fitsF a n = true then piecesP a.toNat n.toNat else []
theorem piecesP_len (a n : Nat) : (piecesP a n).length = cntP a n := by simp [piecesP]
theorem piecesP_at {a n i : Nat} (h : i < (piecesP a n).length) : (piecesP a n)[i] = pieceP a n i := by
  simp only [piecesP, List.getElem_map, List.getElem_range]
theorem cntP_le {a n : Nat} (h : a + n ≤ 80) : cntP a n ≤ 5 := by
  unfold cntP
  split <;> omega
/-- What the i-th piece is, in bounds. -/
theorem piece_facts {a n i : Nat} (h : i < cntP a n) : (a / 16 + i) * 16 ≤ begP a i ∧ begP a i < endP a n i ∧ endP a n i ≤ (a / 16 + i + 1) * 16 ∧ endP a n i ≤ a + n ∧ (i + 1 < cntP a n → endP a n i = begP a (i + 1)) ∧ (i + 1 = cntP a n → endP a n i = a + n) ∧ a ≤ begP a i := by
  unfold cntP at h ⊢
  unfold endP begP
  by_cases hn : n = 0
  · rw [if_pos hn] at h; omega
  · rw [if_neg hn] at h ⊢
    by_cases hi : i = 0
    · subst hi
      rw [if_pos rfl, if_neg (show ¬ (0 + 1 = 0) by omega)]
      omega
    · rw [if_neg hi, if_neg (show ¬ (i + 1 = 0) by omega)]
      omega
theorem cnt_zero {a : Nat} : cntP a 0 = 0 := rfl
theorem cnt_pos {a n : Nat} (h : 0 < n) : 0 < cntP a n := by
  unfold cntP
  rw [if_neg (by omega)]; omega
/-- How many pages have a byte below. -/
def pagesF (z : Int) : Int := if z ≤ 0 then 0 else if 80 ≤ z then 5 else (z + 15) / 16
def cutF (z a n : Int) : Int := if a < 0 ∨ n < 0 ∨ z ≤ a then 0 else min n (z - a)
end Go.Proofs.Ytljlmaddbpihnaa
