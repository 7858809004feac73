/- Contracts of the packages below: BlkTurns, BlkChip. -/
import Derived.Laws.AppendOwn
import Derived.Deep.SlicePairs
import Derived.Deep.DeepCutAuto
import Derived.Test.YtnadcdgpfopcaaaGreatGk
namespace Go.Proofs.YtnadcdgpfopcaaaGreat
open Go.RowKit

/-- The cells of blocks, their pages as values. -/
def c4 (L : List (Bk × Value)) : List Value := L.flatMap fun x => [.bool x.1.bad, .int .i64 x.1.next, .int .i64 x.1.count, x.2]
theorem c4_cons (x : Bk × Value) (L : List (Bk × Value)) : c4 (x :: L) = .bool x.1.bad :: .int .i64 x.1.next :: .int .i64 x.1.count :: x.2 :: c4 L := by simp [c4]
theorem c4_len (L : List (Bk × Value)) : (c4 L).length = L.length * 4 := by
  induction L with
  | nil => rfl
  | cons x L ih => rw [c4_cons]; simp [ih]; omega
theorem c4_get (L : List (Bk × Value)) (j : Nat) (h : j < L.length) : (c4 L)[j * 4]? = some (.bool L[j].1.bad) ∧ (c4 L)[j * 4 + 1]? = some (.int .i64 L[j].1.next) ∧ (c4 L)[j * 4 + 2]? = some (.int .i64 L[j].1.count) ∧ (c4 L)[j * 4 + 3]? = some L[j].2 := by
  induction L generalizing j with
  | nil => simp at h
  | cons x L ih =>
    rw [c4_cons]
    cases j with
    | zero => simp
    | succ j =>
      have := ih j (by simpa using h)
      rw [show (j + 1) * 4 = j * 4 + 1 + 1 + 1 + 1 by omega]
      simpa using this
theorem c4_set (L : List (Bk × Value)) (j : Nat) (h : j < L.length) (v : Bool) : (c4 L).set (j * 4) (.bool v) = c4 (L.set j ({ L[j].1 with bad := v }, L[j].2)) := by
  induction L generalizing j with
  | nil => simp at h
  | cons x L ih =>
    cases j with
    | zero => simp [c4_cons]
    | succ j =>
      have := ih j (by simpa using h)
      rw [c4_cons, show (j + 1) * 4 = j * 4 + 1 + 1 + 1 + 1 by omega]
      simp [c4_cons, this]
/-- A row of the call's own, as blocks that lie somewhere. -/
theorem own_lies {W : World} {B g n cap : Nat} {L : List (Bk × Value)} (hn : n = L.length) (h : W.ownsRow B 101 4 (.slice (some ⟨g, 0, none⟩) n cap) n (c4 L)) (hp : ∀ x ∈ L, ∃ A n c, x.2 = .slice A n c) : BLies W (some ⟨g, 0, none⟩) (L.map (·.1)) := fun _ => by
  subst hn
  refine ⟨g, 0, rfl, (h.lt g rfl).2, fun j hj => ?_⟩
  have hj' : j < L.length := by simpa using hj
  obtain ⟨g0, g1, g2, g3⟩ := c4_get L j hj'
  obtain ⟨A, n, c, hv⟩ := hp L[j] (List.getElem_mem hj')
  have k := fun i (hi : i < 4) => World.ownsRow.cellAt h (j * 4 + i) (by omega)
  have k0 := k 0 (by omega)
  have k1 := k 1 (by omega)
  have k2 := k 2 (by omega)
  have k3 := k 3 (by omega)
  rw [Nat.add_zero, g0] at k0
  rw [g1] at k1
  rw [g2] at k2
  rw [g3, hv] at k3
  rw [Nat.zero_add]
  exact ⟨by simpa using k0, by simpa using k1, by simpa using k2, A, n, c, k3⟩
instance : Inhabited Value := ⟨.slice none 0 0⟩
/-- Blocks that lie somewhere, cell by cell. -/
theorem lies_cells {w : World} {A : Option Addr} {l : List Bk} (h : BLies w A l) : ∃ L : List (Bk × Value), L.map (·.1) = l ∧ (∀ x ∈ L, ∃ A n c, x.2 = .slice A n c) ∧ ∀ ad, A = some ad → ∀ i u, (c4 L)[i]? = some u → w.cell? (ad.add i) = some u := by
  by_cases hn : 0 < l.length
  · obtain ⟨B, o, rfl, _, hc⟩ := h hn
    have each : ∀ j, j < l.length → ∃ v : Value, (∃ A n c, v = .slice A n c) ∧ w.cell? ⟨B, o + j * 4 + 3, none⟩ = some v := fun j hj => by
      obtain ⟨_, _, _, A, n, c, h3⟩ := hc j hj
      exact ⟨_, ⟨A, n, c, rfl⟩, h3⟩
    obtain ⟨pv, hpv⟩ := Deep.choose_lt each
    have hl : ((List.range l.length).map fun j => (l.getD j ⟨false, 0, 0, []⟩, pv j)).length = l.length := by simp
    refine ⟨(List.range l.length).map fun j => (l.getD j ⟨false, 0, 0, []⟩, pv j), ?_, fun x hx => ?_, fun ad e i u hu => ?_⟩
    · apply List.ext_getElem
      · simp
      · intro i h1 h2
        simp [h2]
    · obtain ⟨j, hj, rfl⟩ := List.mem_map.1 hx
      exact (hpv j (by simpa using hj)).1
    · cases e
      have hi : i < (c4 ((List.range l.length).map fun j => (l.getD j ⟨false, 0, 0, []⟩, pv j))).length := (List.getElem?_eq_some_iff.1 hu).1
      rw [c4_len, hl] at hi
      have hj : i / 4 < l.length := by omega
      obtain ⟨g0, g1, g2, g3⟩ := c4_get ((List.range l.length).map fun j => (l.getD j ⟨false, 0, 0, []⟩, pv j)) (i / 4) (by rw [hl]; exact hj)
      obtain ⟨b0, b1, b2, _⟩ := hc (i / 4) hj
      have b3 := (hpv (i / 4) hj).2
      rw [addr_at]
      have hr : i = i / 4 * 4 + i % 4 := by omega
      have h4 : i % 4 = 0 ∨ i % 4 = 1 ∨ i % 4 = 2 ∨ i % 4 = 3 := by omega
      rcases h4 with e | e | e | e <;> rw [hr, e] at hu ⊢
      · rw [Nat.add_zero, g0] at hu; cases hu
        rw [Nat.add_zero]; simpa [hj] using b0
      · rw [g1] at hu; cases hu
        rw [← Nat.add_assoc]; simpa [hj] using b1
      · rw [g2] at hu; cases hu
        rw [← Nat.add_assoc]; simpa [hj] using b2
      · rw [g3] at hu; cases hu
        rw [← Nat.add_assoc]; simpa [hj] using b3
  · have : l = [] := List.eq_nil_of_length_eq_zero (by omega)
    subst this
    exact ⟨[], rfl, (fun _ h => by cases h), fun _ _ i u hu => by simp [c4] at hu⟩
theorem cleansFrom_ge (k : Nat) (l : List Bk) : ∀ x ∈ cleansFrom k l, (k : Int) ≤ x := by
  induction l generalizing k with
  | nil => intro x hx; cases hx
  | cons q r ih =>
    intro x hx
    simp only [cleansFrom] at hx
    split at hx
    · rcases List.mem_cons.1 hx with e | e
      · omega
      · have := ih (k + 1) x e; omega
    · have := ih (k + 1) x hx; omega
theorem cleansFrom_bad (k : Nat) (l : List Bk) (i : Nat) (hi : i < l.length) (b : Bk) (hb : cleanB b = false) : cleansFrom k (l.set i b) = (cleansFrom k l).filter fun x => decide (x ≠ ((k + i : Nat) : Int)) := by
  induction l generalizing k i with
  | nil => simp at hi
  | cons q r ih =>
    cases i with
    | zero =>
      have hf : (cleansFrom (k + 1) r).filter (fun x => decide (x ≠ ((k + 0 : Nat) : Int))) = cleansFrom (k + 1) r := by
        rw [List.filter_eq_self]
        intro x hx
        have := cleansFrom_ge (k + 1) r x hx
        simp; omega
      simp only [List.set_cons_zero, cleansFrom, hb]
      rw [if_neg (by decide)]
      split
      · rw [List.filter_cons, if_neg (by simp), hf]
      · rw [hf]
    | succ i =>
      have := ih (k + 1) i (by simpa using hi)
      rw [show k + 1 + i = k + (i + 1) by omega] at this
      simp only [List.set_cons_succ, cleansFrom]
      split
      · rw [List.filter_cons, if_pos (by simp; omega), this]
      · exact this
/-- Without k. -/
def dropK (xs : List Int) (k : Nat) : List Int := xs.filter fun x => decide (x ≠ (k : Int))
theorem dropK_le (xs : List Int) (k : Nat) : (dropK xs k).length ≤ xs.length := List.length_filter_le _ _
theorem cleansB_bad (l : List Bk) (i : Nat) (hi : i < l.length) : cleansB (l.set i { l[i] with bad := true }) = dropK (cleansB l) i := by
  have := cleansFrom_bad 0 l i hi { l[i] with bad := true } (by simp [cleanB])
  rwa [Nat.zero_add] at this
theorem badB_bad (l : List Bk) (i : Nat) (hi : i < l.length) : badB (l.set i { l[i] with bad := true }) = badB l + if l[i].bad = true then 0 else 1 := by
  unfold badB
  rw [List.countP_set hi]
  have : l[i].bad = true → 0 < l.countP (·.bad) := fun h => List.countP_pos_iff.2 ⟨l[i], List.getElem_mem hi, h⟩
  cases h : l[i].bad with
  | true => have := this h; simp; omega
  | false => simp
theorem blk_info : (Tryz.prog.info? 101).map (fun i => (i.zero, i.size, i.bytes)) = some (some (.agg #[.bool false, .int .i64 0, .int .i64 0, .slice none 0 0]), 4, 48) := by kernel_rfl
theorem filter_take (xs : List Int) (k : Nat) (j : Nat) (h : j < xs.length) : dropK (xs.take (j + 1)) k = dropK (xs.take j) k ++ if xs[j] = (k : Int) then [] else [xs[j]] := by
  unfold dropK
  rw [List.take_succ_eq_append_getElem h, List.filter_append]
  congr 1
  by_cases e : xs[j] = (k : Int)
  · rw [if_pos e]; simp [e]
  · rw [if_neg e]; simp [e]
theorem u64_at (x : Int) (n : Nat) (h : 0 < n) (h2 : n ≤ 100000) : ∃ i : Nat, i < n ∧ wrap64 (IntKind.u64.wrap x % (n : Int)) = (i : Int) := by
  have h1 := Int.emod_nonneg (IntKind.u64.wrap x) (show (n : Int) ≠ 0 by omega)
  have h3 := Int.emod_lt_of_pos (IntKind.u64.wrap x) (show 0 < (n : Int) by omega)
  refine ⟨(IntKind.u64.wrap x % (n : Int)).toNat, by omega, ?_⟩
  rw [show wrap64 (IntKind.u64.wrap x % (n : Int)) = IntKind.u64.wrap x % (n : Int) by unfold wrap64; omega]
  omega
end Go.Proofs.YtnadcdgpfopcaaaGreat

namespace Go.Proofs.YtnadcdgpfopcaaaGreat
open Go.RowKit

theorem Tm.unset {t : Tm} (h : t.set = false) : t.hit = false ∧ t.tick = t := by
  unfold Tm.hit Tm.tick
  rw [h]
  exact ⟨rfl, rfl⟩
/-- A chip of four blocks, with nothing to come; so many pages of each are programmed. -/
structure Four (S : LS) (np : Nat) (U : List Nat) : Prop where
  n : S.bl.length = 4
  u : U.length = 4
  npe : S.np = np
  dark : S.dark = false
  f : S.f.set = false
  c : S.c.set = false
  w : S.w.set = false
  bk : ∀ i (h : i < S.bl.length) (h' : i < U.length), S.bl[i].bad = false ∧ S.bl[i].next = (U[i] : Int) ∧ U[i] ≤ np
theorem four_new (np : Nat) : Four (madeS 4 np []) np [0, 0, 0, 0] where
  n := by simp [madeS, badL, newS]
  u := rfl
  npe := rfl
  dark := rfl
  f := rfl
  c := rfl
  w := rfl
  bk := fun i h h' => by
    have e : (madeS 4 np []).bl = List.replicate 4 (newBk np) := rfl
    have hi : i < 4 := by simpa using h'
    have e2 : (madeS 4 np []).bl[i] = newBk np := List.eq_of_mem_replicate (n := 4) (by rw [← e]; exact List.getElem_mem h)
    have e3 : ([0, 0, 0, 0] : List Nat)[i] = 0 := by
      match i, hi with
      | 0, _ => rfl
      | 1, _ => rfl
      | 2, _ => rfl
      | 3, _ => rfl
    exact ⟨congrArg Bk.bad e2, (congrArg Bk.next e2).trans (by rw [e3]; rfl), by rw [e3]; exact Nat.zero_le _⟩
section
variable {S : LS} {np : Nat} {U : List Nat}
theorem Four.set (h : Four S np U) {i : Nat} (_hi : i < 4) {b : Bk} {x : Nat} (S' : LS) (hb : S'.bl = S.bl.set i b) (h1 : S'.np = S.np) (h2 : S'.dark = S.dark) (h3 : S'.f = S.f) (h4 : S'.c = S.c) (h5 : S'.w = S.w) (hx : b.bad = false ∧ b.next = (x : Int) ∧ x ≤ np) : Four S' np (U.set i x) where
  n := by rw [hb, List.length_set]; exact h.n
  u := by rw [List.length_set]; exact h.u
  npe := h1.trans h.npe
  dark := h2.trans h.dark
  f := by rw [h3]; exact h.f
  c := by rw [h4]; exact h.c
  w := by rw [h5]; exact h.w
  bk := fun j hj hj' => by
    have hl : j < S.bl.length := by rw [hb] at hj; simpa using hj
    have hl' : j < U.length := by simpa using hj'
    have e : S'.bl[j] = (S.bl.set i b)[j]'(by simpa using hl) := by simp [hb]
    rw [e, List.getElem_set, List.getElem_set]
    by_cases hij : i = j
    · subst hij
      simp only [if_true]
      exact hx
    · simp only [if_neg hij]
      exact h.bk j hl hl'
theorem Four.at (h : Four S np U) {i : Nat} (hi : i < 4) : hasL S i (U.getD i 0) = decide (U.getD i 0 < np) ∧ isL S i = true ∧ (blkL S i).bad = false ∧ (blkL S i).next = (U.getD i 0 : Int) ∧ U.getD i 0 ≤ np := by
  have h1 : i < S.bl.length := by rw [h.n]; exact hi
  have h2 : i < U.length := by rw [h.u]; exact hi
  have e : U.getD i 0 = U[i] := by simp [h2]
  have e2 : blkL S i = S.bl[i] := blkL_at h1
  obtain ⟨a, b, c⟩ := h.bk i h1 h2
  rw [e, e2]
  refine ⟨?_, ?_, a, b, c⟩
  · simp [hasL, h.n, h.npe]; omega
  · simp [isL, h.n]; omega
theorem four_prog (h : Four S np U) {i : Nat} (hi : i < 4) {y : UInt8} (hlt : U.getD i 0 < np) : (progL S i (U.getD i 0) [y]).1 = 0 ∧ Four (progL S i (U.getD i 0) [y]).2 np (U.set i (U.getD i 0 + 1)) := by
  obtain ⟨a1, a2, a3, a4, a5⟩ := h.at hi
  have hr : refS S i (U.getD i 0) [y].length = 0 := by
    unfold refS barS
    have hd : decide (U.getD i 0 < np) = true := by simpa using hlt
    rw [a1, hd, if_neg (bad3 (by simp) (by simp)), a2, a3, a4, h.dark]
    simp
  have e : progL S i (U.getD i 0) [y] = (0, { S with pr := wrap64 (S.pr + 1), f := S.f.tick, c := S.c.tick, bl := putL S i (U.getD i 0) false [y] }) := by
    unfold progL
    rw [if_neg (by rw [hr]; decide), (Tm.unset h.c).1, (Tm.unset h.f).1]
    rfl
  rw [e]
  refine ⟨rfl, h.set hi (b := { blkL S i with bad := false, next := (blkL S i).next + 1, pages := (blkL S i).pages.set (U.getD i 0) [y] }) (x := U.getD i 0 + 1) _ ?_ rfl rfl (Tm.unset h.f).2 (Tm.unset h.c).2 rfl ⟨rfl, ?_, ?_⟩⟩
  · simp [putL]
  · show (blkL S i).next + 1 = _
    rw [a4]; push_cast; rfl
  · omega
theorem four_full (h : Four S np U) {i : Nat} (hi : i < 4) (l : List UInt8) (hlt : ¬ U.getD i 0 < np) : progL S i (U.getD i 0) l = (1, S) := by
  obtain ⟨a1, _⟩ := h.at hi
  have hh : hasL S i (U.getD i 0) = false := by rw [a1]; simpa using hlt
  have e : refS S i (U.getD i 0) l.length = 1 := by unfold refS; rw [if_pos (.inl hh)]
  unfold progL
  rw [if_pos (by rw [e]; decide), e]
theorem four_erase (h : Four S np U) {i : Nat} (hi : i < 4) : (eraseL S i).1 = 0 ∧ Four (eraseL S i).2 np (U.set i 0) := by
  obtain ⟨_, a2, a3, a4, a5⟩ := h.at hi
  have hb : barS S i = 0 := by unfold barS; rw [a2, h.dark, a3]; rfl
  have e : eraseL S i = (0, { S with er := wrap64 (S.er + 1), w := S.w.tick, c := S.c.tick, bl := S.bl.set i (emptyB (cntB (blkL S i)) S.np S.np) }) := by
    unfold eraseL
    rw [if_neg (by rw [hb]; decide), (Tm.unset h.c).1, (Tm.unset h.w).1]
    simp
  rw [e]
  exact ⟨rfl, h.set hi (b := emptyB (cntB (blkL S i)) S.np S.np) (x := 0) _ rfl rfl rfl rfl (Tm.unset h.c).2 (Tm.unset h.w).2 ⟨a3, by simp [emptyB], Nat.zero_le _⟩⟩
theorem countP_pt {α β : Type} (p : α → Bool) (q : β → Bool) : ∀ (l : List α) (m : List β), l.length = m.length → (∀ i (h : i < l.length) (h' : i < m.length), p l[i] = q m[i]) → l.countP p = m.countP q
  | [], [], _, _ => rfl
  | [], _ :: _, h, _ => by simp at h
  | _ :: _, [], h, _ => by simp at h
  | x :: l, y :: m, h, hp => by
    have h0 := hp 0 (by simp) (by simp)
    simp at h0
    rw [List.countP_cons, List.countP_cons, countP_pt p q l m (by simpa using h) (fun i h1 h2 => hp (i + 1) (Nat.succ_lt_succ h1) (Nat.succ_lt_succ h2)), h0]
theorem four_bad (h : Four S np U) : badB S.bl = 0 := by
  unfold badB
  rw [List.countP_eq_zero]
  intro b hb
  obtain ⟨i, hi, rfl⟩ := List.mem_iff_getElem.1 hb
  have := (h.bk i hi (by rw [h.u]; rw [h.n] at hi; exact hi)).1
  simp [this]
theorem four_clean (h : Four S np U) {i : Nat} (h1 : i < S.bl.length) (h2 : i < U.length) : cleanB S.bl[i] = (U[i] == 0) := by
  obtain ⟨a, b, _⟩ := h.bk i h1 h2
  unfold cleanB
  rw [a, b, Bool.eq_iff_iff]
  simp
theorem four_cleans (h : Four S np U) : S.bl.countP cleanB = U.countP (· == 0) := countP_pt _ _ _ _ (by rw [h.n, h.u]) fun _ h1 h2 => four_clean h h1 h2
theorem four_left (h : Four S np U) (hn : np ≤ 100) {i : Nat} (h1 : i < S.bl.length) (h2 : i < U.length) : leftB S.bl[i] np = (np : Int) - (U[i] : Int) := by
  obtain ⟨a, b, c⟩ := h.bk i h1 h2
  unfold leftB
  rw [a, b, if_neg (by decide), if_neg (by omega), if_neg (by omega)]
end
theorem one_cb (w : World) (x : Nat → Prop) : CB (w.alloc (.cells #[.int .u8 1] 5)) (fun b => x b ∨ b = w.heap.size) (some ⟨w.heap.size, 0, none⟩) [1] := fun _ => by
  refine ⟨_, rfl, .inr rfl, fun j hj => ?_⟩
  obtain rfl : j = 0 := by simpa using hj
  exact (cell_one_new _ _ _) 0 _ rfl
theorem held_blocks {w : World} {p : Nat} {x : Nat → Prop} {S : LS} (h : Held w p x S) (h1 : 1 ≤ S.bl.length) : Calls Tryz.prog 21 #[.pointer (some ⟨p, 0, none⟩)] w fun e w' => ∃ g cap, e = .returned (.slice (some ⟨g, 0, none⟩) S.bl.length cap) ∧ BLies w' (some ⟨g, 0, none⟩) S.bl ∧ Below w.heap.size w w' := by
  obtain ⟨q, cap, g, C, h2, _⟩ := h
  refine (blocks_any h2 h1).mono ?_
  rintro e w' ⟨v, rfl, ⟨L, hL, hown, hp⟩, hb⟩
  have hl : L.length = S.bl.length := by rw [← hL]; simp
  rcases hown.2 with ⟨_, h0⟩ | ⟨g', cap', cur, rfl, _⟩
  · omega
  · refine ⟨g', cap', rfl, ?_, hb⟩
    have := own_lies (L := L) hl.symm hown (fun y hy => by
      obtain ⟨A9, c9, e9, _⟩ := hp y hy
      exact ⟨A9, _, c9, e9⟩)
    rwa [hL] at this
theorem held_prog_n {w : World} {p : Nat} {x : Nat → Prop} {S : LS} (A : Option Addr) (m c : Nat) (l : List UInt8) (b pg : Int) (hm : m = l.length) (h : Held w p x S) (hl : CB w x A l) :
    Calls Tryz.prog 119 #[.pointer (some ⟨p, 0, none⟩), .agg #[.int .i64 b, .int .i64 pg], .slice A m c] w fun e w' => e = .returned (.int .i64 (progL S b pg l).1) ∧ Held w' p x (progL S b pg l).2 ∧ Safe x w w' := by
  subst hm
  exact held_prog A c l b pg h hl
theorem zero_take (U : List Nat) (j : Nat) (h : j < U.length) : (U.take (j + 1)).countP (· == 0) = (U.take j).countP (· == 0) + if (U[j] == 0) = true then 1 else 0 := by
  rw [List.take_succ_eq_append_getElem h, List.countP_append, List.countP_singleton]
/-- A safe block is written. -/
theorem Held.wrote {w : World} {p : Nat} {x : Nat → Prop} {S : LS} (h : Held w p x S) {a : Addr} (ha : x a.block) (v : Value) : Held (w.setCell a v) p x S := by
  obtain ⟨q, cap, g, C, h1, h2⟩ := h
  exact ⟨q, cap, g, C, h1.kept (by simp) (fun b hb => Below.heap_setCell w a v b (fun e => (h2 _ ha).2 (e ▸ hb))), fun b hb => ⟨by simpa using (h2 b hb).1, (h2 b hb).2⟩⟩
end Go.Proofs.YtnadcdgpfopcaaaGreat
