/- The reference's NewChip: its blocks, one behind the other. -/
import Derived.Deep.RegionLaw
import Derived.Test.YteghegojhhoppaaSame
namespace Go.Proofs.Yteghegojhhoppaa
open Go.RowKit

/-- append of elements that stand, onto a slice of the call's own, as one step of a region that draws. -/
theorem step_append_at {P : Program} {w : World} {ops : Array Oper} {o : Oper} {a : Act} {K : Act → World → Prop} {Q : Exit → Act → World → Prop} {E : Prop} (hgd : o.guard = none) (s x : Operand) (t : TypeId)
    (ho : o.op = .call { callee := .builtin .append, args := #[s, x], argTypes := #[t, t] })
    (base : Nat) (e : TypeId) (i : TypeInfo) (z : Value) (size bytes : Nat) (ht : P.underlying t = some (.slice e)) (hi : P.info? e = some i) (hz : i.zero = some z)
    (hsize : i.size = size) (hby : i.bytes = bytes) (hzs : z.cells.size = size) (hsz : 0 < size)
    (v : Value) (n : Nat) (xs : List Value) (hs : a.eval s = v) (hown : w.ownsRow base e size v n xs)
    (ad : Addr) (m c : Nat) (news : List Value) (hx : a.eval x = .slice (some ad) m c) (hl : news.length = m * size) (hnews : ∀ j u, news[j]? = some u → w.cell? (ad.add j) = some u) (h1 : ∀ u ∈ news, u.oneCell' = true)
    (h63 : n + m ≤ maxLen) (hbytes : (n + m) * bytes ≤ 140737488355328) (hbase : base ≤ w.heap.size)
    (h : ∀ q cap w', w'.ownsRow base e size (.slice q (n + m) cap) (n + m) (xs ++ news) → w.grownBy w' v.ownBlock → ((Value.slice q (n + m) cap).ownBlock = v.ownBlock ∨ (Value.slice q (n + m) cap).ownBlock = some w.heap.size) → K (a.put o.dst (.slice q (n + m) cap)) w') :
    if Region.wanted o (yielded ops a.tmps) = true then Oper.wp P o a w K Q else E := by
  have hw : Region.wanted o (yielded ops a.tmps) = true := by simp [Region.wanted, hgd]
  rw [if_pos hw]
  obtain ⟨v', w', hr, h2, h3, _, h5⟩ := run_append_own_at (P := P) (w := w) base t o.type e i z size bytes ht hi hz hsize hby hzs hsz v n xs hown ad m c news hl hnews h1 h63 hbytes hbase
  obtain ⟨q, cap, rfl, _⟩ := own_slice h2
  unfold Oper.wp execOp
  simp only [ho, resolve, invoke, builtin, Sem.run_bind, Sem.run_pure, Result.andThen_ok, List.map_toArray, List.map_cons, List.map_nil, hs, hx, hr]
  exact h q cap w' h2 h3 h5
/-- The cells of j new blocks, their pages at g. -/
def rowV (np : Nat) (g : Nat → Nat) : Nat → List Value
  | 0 => []
  | j + 1 => rowV np g j ++ [.bool false, .int .i64 0, .int .i64 0, .slice (some ⟨g j, 0, none⟩) np np]
theorem rowV_length (np : Nat) (g : Nat → Nat) (j : Nat) : (rowV np g j).length = j * 4 := by
  induction j with
  | zero => rfl
  | succ j ih => simp only [rowV, List.length_append, ih, List.length_cons, List.length_nil]; omega
theorem rowV_congr (np : Nat) {g g' : Nat → Nat} (j : Nat) (h : ∀ i, i < j → g' i = g i) : rowV np g' j = rowV np g j := by
  induction j with
  | zero => rfl
  | succ j ih => simp only [rowV]; rw [ih fun i hi => h i (by omega), h j (by omega)]
theorem rowV_at (np : Nat) (g : Nat → Nat) (j i : Nat) (hi : i < j) : (rowV np g j)[i * 4]? = some (.bool false) ∧ (rowV np g j)[i * 4 + 1]? = some (.int .i64 0) ∧ (rowV np g j)[i * 4 + 2]? = some (.int .i64 0) ∧ (rowV np g j)[i * 4 + 3]? = some (.slice (some ⟨g i, 0, none⟩) np np) := by
  induction j with
  | zero => omega
  | succ j ih =>
    have hl := rowV_length np g j
    simp only [rowV]
    by_cases hj : i < j
    · obtain ⟨h0, h1, h2, h3⟩ := ih hj
      rw [List.getElem?_append_left (by omega), List.getElem?_append_left (by omega), List.getElem?_append_left (by omega), List.getElem?_append_left (by omega)]
      exact ⟨h0, h1, h2, h3⟩
    · obtain rfl : i = j := by omega
      rw [List.getElem?_append_right (by omega), List.getElem?_append_right (by omega), List.getElem?_append_right (by omega), List.getElem?_append_right (by omega), hl]
      simp
def newR (n np : Nat) : CS := ⟨List.replicate n (newBk np), np, 0, 0, 0, 0, false, 0, 0, 0⟩
def madeR (n np : Nat) (l : List Int) : CS := { newR n np with bl := badL (newR n np).bl l }
theorem madeR_skip {n np : Nat} {l : List Int} {b : Int} (hi : ¬ (0 ≤ b ∧ b < (n : Int))) : madeR n np (l ++ [b]) = madeR n np l := by
  unfold madeR
  rw [badL_snoc]
  have : badOne (badL (newR n np).bl l) b = badL (newR n np).bl l := by
    unfold badOne
    rw [if_neg (by rw [badL_length]; simpa [newR] using hi)]
  rw [this]
theorem madeR_len (n np : Nat) (l : List Int) : (madeR n np l).bl.length = n := by simp [madeR, badL_length, newR]
theorem madeR_mark {n np : Nat} {l : List Int} {i : Nat} (hi : i < (madeR n np l).bl.length) : madeR n np (l ++ [(i : Int)]) = { madeR n np l with bl := (madeR n np l).bl.set i { (madeR n np l).bl[i] with bad := true } } := by
  unfold madeR
  rw [badL_snoc]
  have hi' : i < (badL (newR n np).bl l).length := hi
  unfold badOne
  rw [if_pos (by omega)]
  simp [hi']
  rfl
end Go.Proofs.Yteghegojhhoppaa
