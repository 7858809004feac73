/- Trees as data: lists of nodes; how often a node is named; what is come to; which trees may be. -/
import Derived.Test.YtfboilbmehcgoaaDoorMB
import Derived.Maps.OwnSet
import Derived.Maps.RangeWalk
import Derived.Carry
namespace Go.Proofs.YtfboilbmehcgoaaDoor
open Go.Lib

abbrev nd0 : Nd := ⟨0, 0, 0, [], []⟩
/-- The node at a place. -/
def at_ (t : List Nd) (j : Nat) : Nd := t.getD j nd0
theorem at_lt {t : List Nd} {j : Nat} (h : j < t.length) : at_ t j = t[j] := by
  unfold at_
  rw [List.getD_eq_getElem?_getD, List.getElem?_eq_getElem h]; rfl
/-- How many of these entries name i. -/
def cntE (i : Int) : List Ent → Nat
  | [] => 0
  | e :: l => (if e.2 = i then 1 else 0) + cntE i l
theorem cntE_app (i : Int) : ∀ l m : List Ent, cntE i (l ++ m) = cntE i l + cntE i m
  | [], m => by simp [cntE]
  | e :: l, m => by rw [List.cons_append, cntE, cntE, cntE_app i l m]; omega
theorem cntE_take {i : Int} {l : List Ent} {j : Nat} (h : j < l.length) : cntE i (l.take (j + 1)) = cntE i (l.take j) + (if l[j].2 = i then 1 else 0) := by
  rw [List.take_succ_eq_append_getElem h, cntE_app]
  simp [cntE]
theorem cntE_le (i : Int) : ∀ l : List Ent, cntE i l ≤ l.length
  | [] => Nat.le_refl _
  | e :: l => by
    have := cntE_le i l
    rw [cntE, List.length_cons]
    split <;> omega
theorem cntE_pos {i : Int} : ∀ {l : List Ent}, 0 < cntE i l ↔ ∃ e ∈ l, e.2 = i
  | [] => by simp [cntE]
  | e :: l => by
    rw [cntE]
    constructor
    · intro h
      by_cases he : e.2 = i
      · exact ⟨e, by simp, he⟩
      · rw [if_neg he] at h
        obtain ⟨x, hx, hi⟩ := cntE_pos.1 (by omega : 0 < cntE i l)
        exact ⟨x, by simp [hx], hi⟩
    · rintro ⟨x, hx, hi⟩
      rcases List.mem_cons.1 hx with rfl | hx
      · rw [if_pos hi]; omega
      · have := cntE_pos.2 ⟨x, hx, hi⟩
        omega
/-- How many entries of all name i. -/
def namedT (i : Int) : List Nd → Nat
  | [] => 0
  | n :: t => cntE i n.en + namedT i t
theorem namedT_app (i : Int) : ∀ l m : List Nd, namedT i (l ++ m) = namedT i l + namedT i m
  | [], m => by simp [namedT]
  | e :: l, m => by rw [List.cons_append, namedT, namedT, namedT_app i l m]; omega
theorem namedT_take {i : Int} {l : List Nd} {j : Nat} (h : j < l.length) : namedT i (l.take (j + 1)) = namedT i (l.take j) + cntE i l[j].en := by
  rw [List.take_succ_eq_append_getElem h, namedT_app]
  simp [namedT]
theorem namedT_pos {i : Int} : ∀ {t : List Nd}, 0 < namedT i t ↔ ∃ n ∈ t, ∃ e ∈ n.en, e.2 = i
  | [] => by simp [namedT]
  | n :: t => by
    rw [namedT]
    constructor
    · intro h
      by_cases he : 0 < cntE i n.en
      · exact ⟨n, by simp, cntE_pos.1 he⟩
      · obtain ⟨x, hx, hi⟩ := namedT_pos.1 (by omega : 0 < namedT i t)
        exact ⟨x, by simp [hx], hi⟩
    · rintro ⟨x, hx, hi⟩
      rcases List.mem_cons.1 hx with rfl | hx
      · have := cntE_pos.2 hi; omega
      · have := namedT_pos.2 ⟨x, hx, hi⟩
        omega
/-- Two places that name it: at least two entries. -/
theorem namedT_two {i : Int} {t : List Nd} {a b : Nat} (ha : a < t.length) (hb : b < t.length) (hab : a < b) (h1 : 0 < cntE i t[a].en) (h2 : 0 < cntE i t[b].en) : 2 ≤ namedT i t := by
  have e : t = t.take b ++ t[b] :: t.drop (b + 1) := by rw [List.getElem_cons_drop, List.take_append_drop]
  have e2 : namedT i t = namedT i (t.take b) + (cntE i t[b].en + namedT i (t.drop (b + 1))) := by
    conv => lhs; rw [e]
    rw [namedT_app, namedT]
  have h3 : 0 < namedT i (t.take b) := namedT_pos.2 ⟨t[a], by
    rw [List.mem_take_iff_getElem]
    exact ⟨a, by omega, rfl⟩, cntE_pos.1 h1⟩
  omega
/-- From a to b by one entry. -/
def Edge (t : List Nd) (a b : Nat) : Prop := a < t.length ∧ ∃ e ∈ (at_ t a).en, e.2 = (b : Int)
/-- From directory a to directory b, over entries. -/
inductive DR (t : List Nd) (a : Nat) : Nat → Prop
  | refl : a < t.length → (at_ t a).k = 2 → DR t a a
  | step {b c : Nat} : DR t a b → Edge t b c → c < t.length → (at_ t c).k = 2 → DR t a c
theorem DR.lt {t : List Nd} {a b : Nat} (h : DR t a b) : b < t.length := by cases h <;> assumption
theorem DR.dir {t : List Nd} {a b : Nat} (h : DR t a b) : (at_ t b).k = 2 := by cases h <;> assumption
theorem DR.first {t : List Nd} {a b : Nat} (h : DR t a b) : a < t.length ∧ (at_ t a).k = 2 := by
  induction h with
  | refl h1 h2 => exact ⟨h1, h2⟩
  | step _ _ _ _ ih => exact ih
theorem DR.trans {t : List Nd} {a b c : Nat} (h : DR t a b) (k : DR t b c) : DR t a c := by
  induction k with
  | refl _ _ => exact h
  | step _ e hl hd ih => exact ih.step e hl hd
/-- Is it a directory that an entry may mark? -/
def okDir (t : List Nd) (m : Nat) (x : Int) : Bool := decide (0 ≤ x) && (decide (x < (m : Int)) && decide ((at_ t x.toNat).k = 2))
def markE (t : List Nd) (o : List Bool) (e : Ent) : List Bool := if okDir t o.length e.2 = true then o.set e.2.toNat true else o
theorem markE_len (t : List Nd) (o : List Bool) (e : Ent) : (markE t o e).length = o.length := by
  unfold markE; split <;> simp
theorem markEs_len (t : List Nd) : ∀ (l : List Ent) (o : List Bool), (l.foldl (markE t) o).length = o.length
  | [], o => rfl
  | e :: l, o => by rw [List.foldl_cons, markEs_len t l, markE_len]
/-- One going through of all nodes, up to the j-th. -/
def passJ (t : List Nd) (o : List Bool) : Nat → List Bool
  | 0 => o
  | j + 1 => if (passJ t o j).getD j false = true then (at_ t j).en.foldl (markE t) (passJ t o j) else passJ t o j
theorem passJ_len (t : List Nd) (o : List Bool) : ∀ j, (passJ t o j).length = o.length
  | 0 => rfl
  | j + 1 => by
    rw [passJ]
    split
    · rw [markEs_len, passJ_len t o j]
    · exact passJ_len t o j
def roundJ (t : List Nd) (o : List Bool) : Nat → List Bool
  | 0 => o
  | r + 1 => passJ t (roundJ t o r) t.length
theorem roundJ_len (t : List Nd) (o : List Bool) : ∀ r, (roundJ t o r).length = o.length
  | 0 => rfl
  | r + 1 => by rw [roundJ, passJ_len, roundJ_len t o r]
def startR (t : List Nd) (a : Int) : List Bool := (List.replicate t.length false).set a.toNat true
def reachF (t : List Nd) (a : Int) : List Bool :=
  if 0 ≤ a ∧ a < (t.length : Int) ∧ (at_ t a.toNat).k = 2 then roundJ t (startR t a) t.length else List.replicate t.length false
theorem reachF_len (t : List Nd) (a : Int) : (reachF t a).length = t.length := by
  unfold reachF
  split
  · rw [roundJ_len]; simp [startR]
  · simp
/-- More is marked. -/
def Mo (o p : List Bool) : Prop := ∀ j, o.getD j false = true → p.getD j false = true
theorem Mo.refl (o : List Bool) : Mo o o := fun _ h => h
theorem Mo.trans {o p q : List Bool} (h : Mo o p) (k : Mo p q) : Mo o q := fun j hj => k j (h j hj)
theorem getD_set {o : List Bool} {i j : Nat} {v : Bool} : (o.set i v).getD j false = if i = j ∧ j < o.length then v else o.getD j false := by
  simp only [List.getD_eq_getElem?_getD, List.getElem?_set]
  by_cases h : i = j
  · subst h
    by_cases hl : i < o.length
    · simp [hl]
    · simp [hl]
  · simp [h]
theorem mo_markE (t : List Nd) (o : List Bool) (e : Ent) : Mo o (markE t o e) := fun j hj => by
  unfold markE
  split
  · rw [getD_set]; split
    · rfl
    · exact hj
  · exact hj
theorem mo_markEs (t : List Nd) : ∀ (l : List Ent) (o : List Bool), Mo o (l.foldl (markE t) o)
  | [], o => .refl o
  | e :: l, o => (mo_markE t o e).trans (mo_markEs t l _)
theorem mo_passJ (t : List Nd) (o : List Bool) : ∀ j, Mo o (passJ t o j)
  | 0 => .refl o
  | j + 1 => by
    rw [passJ]
    split
    · exact (mo_passJ t o j).trans (mo_markEs t _ _)
    · exact mo_passJ t o j
theorem mo_passJ_le (t : List Nd) (o : List Bool) {i : Nat} : ∀ {j : Nat}, i ≤ j → Mo (passJ t o i) (passJ t o j)
  | 0, h => by
    obtain rfl : i = 0 := by omega
    exact .refl _
  | j + 1, h => by
    by_cases e : i = j + 1
    · subst e; exact .refl _
    · refine (mo_passJ_le t o (by omega : i ≤ j)).trans ?_
      rw [passJ]
      split
      · exact mo_markEs t _ _
      · exact .refl _
theorem mo_roundJ (t : List Nd) (o : List Bool) : ∀ r, Mo o (roundJ t o r)
  | 0 => .refl o
  | r + 1 => (mo_roundJ t o r).trans (mo_passJ t _ _)
theorem mo_roundJ_one (t : List Nd) (o : List Bool) (r : Nat) : Mo (roundJ t o r) (roundJ t o (r + 1)) := mo_passJ t _ _
/-- What is marked satisfies S, if marks are handed on only to S. -/
theorem markEs_ind {t : List Nd} {S : Nat → Prop} : ∀ (l : List Ent) (o : List Bool), (∀ j, o.getD j false = true → S j) → (∀ e ∈ l, okDir t o.length e.2 = true → S e.2.toNat) → ∀ j, (l.foldl (markE t) o).getD j false = true → S j
  | [], o, h, _ => h
  | e :: l, o, h, hl => by
    rw [List.foldl_cons]
    refine markEs_ind l (markE t o e) (fun j hj => ?_) (fun e' he' hk => hl e' (by simp [he']) (by rwa [markE_len] at hk))
    unfold markE at hj
    split at hj
    · next hk =>
      rw [getD_set] at hj
      split at hj
      · next hh => rw [← hh.1]; exact hl e (by simp) hk
      · exact h j hj
    · exact h j hj
theorem passJ_ind {t : List Nd} {o : List Bool} {S : Nat → Prop} (hl : o.length = t.length) (h : ∀ j, o.getD j false = true → S j) (hs : ∀ i, i < t.length → S i → ∀ e ∈ (at_ t i).en, okDir t t.length e.2 = true → S e.2.toNat) : ∀ i, i ≤ t.length → ∀ j, (passJ t o i).getD j false = true → S j
  | 0, _ => h
  | i + 1, hi => by
    have ih := passJ_ind hl h hs i (by omega)
    rw [passJ]
    split
    · next hk => exact markEs_ind _ _ ih (fun e he hk2 => hs i (by omega) (ih i hk) e he (by rwa [passJ_len, hl] at hk2))
    · exact ih
theorem roundJ_ind {t : List Nd} {o : List Bool} {S : Nat → Prop} (hl : o.length = t.length) (h : ∀ j, o.getD j false = true → S j) (hs : ∀ i, i < t.length → S i → ∀ e ∈ (at_ t i).en, okDir t t.length e.2 = true → S e.2.toNat) : ∀ r j, (roundJ t o r).getD j false = true → S j
  | 0 => h
  | r + 1 => passJ_ind (by rw [roundJ_len, hl]) (roundJ_ind hl h hs r) hs t.length (Nat.le_refl _)
/-- An entry of a marked node: its directory is marked behind the pass. -/
theorem markEs_has {t : List Nd} : ∀ (l : List Ent) (o : List Bool) (e : Ent), e ∈ l → okDir t o.length e.2 = true → (l.foldl (markE t) o).getD e.2.toNat false = true
  | [], _, _, h, _ => by cases h
  | x :: l, o, e, h, hk => by
    rw [List.foldl_cons]
    rcases List.mem_cons.1 h with rfl | h
    · refine mo_markEs t l _ _ ?_
      unfold markE
      rw [if_pos hk, getD_set, if_pos]
      refine ⟨rfl, ?_⟩
      unfold okDir at hk
      simp only [Bool.and_eq_true, decide_eq_true_eq] at hk
      omega
    · exact markEs_has l _ e h (by rwa [markE_len])
theorem passJ_has {t : List Nd} {o : List Bool} {i : Nat} (hl : o.length = t.length) (hi : i < t.length) (ho : o.getD i false = true) {e : Ent} (he : e ∈ (at_ t i).en) (hk : okDir t t.length e.2 = true) : (passJ t o t.length).getD e.2.toNat false = true := by
  refine mo_passJ_le t o (show i + 1 ≤ t.length by omega) _ ?_
  rw [passJ, if_pos (mo_passJ t o i i ho)]
  exact markEs_has _ _ e he (by rwa [passJ_len, hl])
def cntB : List Bool → Nat
  | [] => 0
  | b :: l => (if b then 1 else 0) + cntB l
theorem cntB_le : ∀ l : List Bool, cntB l ≤ l.length
  | [] => Nat.le_refl _
  | b :: l => by
    have := cntB_le l
    rw [cntB, List.length_cons]
    split <;> omega
theorem cntB_mo : ∀ {o p : List Bool}, o.length = p.length → Mo o p → cntB o ≤ cntB p ∧ (cntB o = cntB p → o = p)
  | [], [], _, _ => ⟨Nat.le_refl _, fun _ => rfl⟩
  | [], _ :: _, h, _ => by cases h
  | _ :: _, [], h, _ => by cases h
  | a :: o, b :: p, h, k => by
    have hl : o.length = p.length := by simpa using h
    have hm : Mo o p := fun j hj => by have := k (j + 1); simpa using this (by simpa using hj)
    have h0 : a = true → b = true := fun ha => by have := k 0; simpa using this (by simpa using ha)
    obtain ⟨h1, h2⟩ := cntB_mo hl hm
    rw [cntB, cntB]
    cases a <;> cases b
    · exact ⟨by simpa using h1, fun e => by rw [h2 (by simpa using e)]⟩
    · exact ⟨by simp; omega, fun e => by simp at e; omega⟩
    · exact absurd (h0 rfl) (by simp)
    · exact ⟨by simpa using h1, fun e => by rw [h2 (by simpa using e)]⟩
/-- Nothing changes any more: all that is marked hands on to what is marked. -/
def Closed (t : List Nd) (o : List Bool) : Prop := ∀ i, i < t.length → o.getD i false = true → ∀ e ∈ (at_ t i).en, okDir t t.length e.2 = true → o.getD e.2.toNat false = true
theorem closed_of_fix {t : List Nd} {o : List Bool} (hl : o.length = t.length) (h : passJ t o t.length = o) : Closed t o := fun i hi ho e he hk => by
  have := passJ_has hl hi ho he hk
  rwa [h] at this
theorem closed_pass {t : List Nd} {o : List Bool} (hl : o.length = t.length) (h : Closed t o) : passJ t o t.length = o := by
  have h1 : Mo (passJ t o t.length) o := fun j hj => passJ_ind (S := fun j => o.getD j false = true) hl (fun _ h => h) h t.length (Nat.le_refl _) j hj
  have hm := mo_passJ t o t.length
  have hl2 := passJ_len t o t.length
  have := (cntB_mo hl2.symm hm).1
  have := (cntB_mo hl2 h1).1
  exact ((cntB_mo hl2.symm hm).2 (by omega)).symm
/-- Behind as many rounds as there are nodes it is closed. -/
theorem round_closed {t : List Nd} {o : List Bool} (hl : o.length = t.length) (h1 : 0 < cntB o) : ∀ r, Closed t (roundJ t o r) ∨ r + 1 ≤ cntB (roundJ t o r)
  | 0 => .inr (by show 0 + 1 ≤ cntB o; omega)
  | r + 1 => by
    have hlr : (roundJ t o r).length = t.length := by rw [roundJ_len, hl]
    rcases round_closed hl h1 r with h | h
    · left
      show Closed t (passJ t (roundJ t o r) t.length)
      rw [closed_pass hlr h]
      exact h
    · have hm := mo_roundJ_one t o r
      have hle : (roundJ t o r).length = (roundJ t o (r + 1)).length := by rw [roundJ_len, roundJ_len]
      by_cases e : cntB (roundJ t o r) = cntB (roundJ t o (r + 1))
      · have e2 := (cntB_mo hle hm).2 e
        left
        have hc := closed_of_fix hlr e2.symm
        rw [← e2]; exact hc
      · right
        have := (cntB_mo hle hm).1
        omega
theorem round_end {t : List Nd} {o : List Bool} (hl : o.length = t.length) (h1 : 0 < cntB o) : Closed t (roundJ t o t.length) := by
  rcases round_closed hl h1 t.length with h | h
  · exact h
  · have := cntB_le (roundJ t o t.length)
    rw [roundJ_len, hl] at this
    omega
theorem cntB_start {t : List Nd} {a : Int} (h0 : 0 ≤ a) (h1 : a < (t.length : Int)) : 0 < cntB (startR t a) := by
  have key : ∀ (o : List Bool) (j : Nat), o.getD j false = true → 0 < cntB o := by
    intro o
    induction o with
    | nil => intro j h; simp at h
    | cons b o ih =>
      intro j h
      rw [cntB]
      cases j with
      | zero => have : b = true := by simpa using h
                rw [this]; simp; omega
      | succ j =>
        have := ih j (by simpa using h)
        omega
  refine key _ a.toNat ?_
  unfold startR
  rw [getD_set, if_pos ⟨rfl, by simp; omega⟩]
theorem okDir_iff {t : List Nd} {x : Int} : okDir t t.length x = true ↔ 0 ≤ x ∧ x < (t.length : Int) ∧ (at_ t x.toNat).k = 2 := by
  unfold okDir
  simp only [Bool.and_eq_true, decide_eq_true_eq]
/-- WHAT IS MARKED IS JUST WHAT IS COME TO. -/
theorem reach_iff {t : List Nd} {a : Nat} {j : Nat} : (reachF t (a : Int)).getD j false = true ↔ DR t a j := by
  unfold reachF
  by_cases h : 0 ≤ (a : Int) ∧ (a : Int) < (t.length : Int) ∧ (at_ t (a : Int).toNat).k = 2
  · rw [if_pos h]
    obtain ⟨h0, h1, h2⟩ := h
    have hlen : (startR t (a : Int)).length = t.length := by simp [startR]
    constructor
    · intro hj
      refine roundJ_ind (S := DR t a) hlen (fun i hi => ?_) (fun i hi hS e he hk => ?_) t.length j hj
      · unfold startR at hi
        rw [getD_set] at hi
        split at hi
        · next hh =>
          have : a = i := by have := hh.1; omega
          subst this
          exact .refl (by omega) (by simpa using h2)
        · simp [List.getD_eq_getElem?_getD, List.getElem?_replicate] at hi
          split at hi <;> simp at hi
      · obtain ⟨k0, k1, k2⟩ := okDir_iff.1 hk
        exact hS.step ⟨hi, e, he, by omega⟩ (by omega) k2
    · intro hd
      have hcl := round_end hlen (cntB_start h0 h1)
      induction hd with
      | refl hl hk =>
        refine mo_roundJ t _ t.length _ ?_
        unfold startR
        rw [getD_set, if_pos ⟨by simp, by simp; omega⟩]
      | step hd he hl hk ih =>
        obtain ⟨hb, e, hem, hec⟩ := he
        have := hcl _ hb ih e hem (okDir_iff.2 ⟨by omega, by omega, by rw [hec]; simpa using hk⟩)
        rwa [hec, Int.toNat_natCast] at this
  · rw [if_neg h]
    constructor
    · intro hj
      simp [List.getD_eq_getElem?_getD, List.getElem?_replicate] at hj
      split at hj <;> simp at hj
    · intro hd
      obtain ⟨f1, f2⟩ := hd.first
      exact absurd ⟨by omega, by omega, by simpa using f2⟩ h
end Go.Proofs.YtfboilbmehcgoaaDoor

/- Which trees may be; what follows: who is inside whom, how many names. -/
namespace Go.Proofs.YtfboilbmehcgoaaDoor
open Go.Lib

def entsOk (t : List Nd) (l : List Ent) : Bool := l.all fun e => decide ((at_ t e.2.toNat).k ≠ 0)
def nodeOk (t : List Nd) (n : Nd) : Bool := mayNd n && entsOk t n.en
def allSeq (t : List Nd) : List Int := t.flatMap (·.sq)
def noTw (l : List Int) : Bool := decide (l.filter fun s => decide (s ≠ 0)).Nodup
def dirOk (t : List Nd) (i : Nat) : Bool :=
  if (at_ t i).k = 2 then (reachF t 0).getD i false && (decide (i = 0) || decide (namedT i t = 1))
  else if (at_ t i).k = 1 then decide ((at_ t i).l = (namedT i t : Int)) else true
def mayT (t : List Nd) : Bool := decide (t.length = 12) && (decide ((at_ t 0).k = 2) && (t.all (nodeOk t) && (noTw (allSeq t) && (List.range t.length).all (dirOk t))))
structure MayT (t : List Nd) : Prop where
  len : t.length = 12
  root : (at_ t 0).k = 2
  node : ∀ i, i < t.length → mayNd (at_ t i) = true
  ent : ∀ i, i < t.length → ∀ e ∈ (at_ t i).en, (at_ t e.2.toNat).k ≠ 0
  sq : noTw (allSeq t) = true
  dir : ∀ i, i < t.length → (at_ t i).k = 2 → DR t 0 i ∧ (i = 0 ∨ namedT i t = 1)
  file : ∀ i, i < t.length → (at_ t i).k = 1 → (at_ t i).l = (namedT i t : Int)
theorem at_mem {t : List Nd} {i : Nat} (h : i < t.length) : at_ t i ∈ t := by rw [at_lt h]; exact List.getElem_mem h
theorem mem_at {t : List Nd} {n : Nd} (h : n ∈ t) : ∃ i, i < t.length ∧ at_ t i = n := by
  obtain ⟨i, hi, e⟩ := List.getElem_of_mem h
  exact ⟨i, hi, by rw [at_lt hi, e]⟩
theorem mayT_iff {t : List Nd} : mayT t = true ↔ MayT t := by
  unfold mayT
  simp only [Bool.and_eq_true, decide_eq_true_eq, List.all_eq_true, List.mem_range]
  constructor
  · rintro ⟨h1, h2, h3, h4, h5⟩
    have hn : ∀ i, i < t.length → mayNd (at_ t i) = true ∧ entsOk t (at_ t i).en = true := fun i hi => by
      have := h3 _ (at_mem hi)
      unfold nodeOk at this
      simpa using this
    refine ⟨h1, h2, fun i hi => (hn i hi).1, fun i hi e he => ?_, h4, fun i hi hk => ?_, fun i hi hk => ?_⟩
    · have := (hn i hi).2
      unfold entsOk at this
      rw [List.all_eq_true] at this
      exact of_decide_eq_true (this e he)
    · have := h5 i hi
      unfold dirOk at this
      rw [if_pos hk] at this
      simp only [Bool.and_eq_true, Bool.or_eq_true, decide_eq_true_eq] at this
      exact ⟨(reach_iff (a := 0)).1 this.1, this.2⟩
    · have := h5 i hi
      unfold dirOk at this
      rw [if_neg (by omega), if_pos hk] at this
      exact of_decide_eq_true this
  · intro h
    refine ⟨h.len, h.root, fun n hn => ?_, h.sq, fun i hi => ?_⟩
    · obtain ⟨i, hi, rfl⟩ := mem_at hn
      unfold nodeOk entsOk
      rw [Bool.and_eq_true, List.all_eq_true]
      exact ⟨h.node i hi, fun e he => decide_eq_true (h.ent i hi e he)⟩
    · unfold dirOk
      split
      · next hk =>
        obtain ⟨h1, h2⟩ := h.dir i hi hk
        simp only [Bool.and_eq_true, Bool.or_eq_true, decide_eq_true_eq]
        exact ⟨(reach_iff (a := 0)).2 h1, h2⟩
      · split
        · next hk => exact decide_eq_true (h.file i hi hk)
        · rfl
/-- Entries are directories', of nodes 1 to 11. -/
theorem MayT.names {t : List Nd} (h : MayT t) {i : Nat} (hi : i < t.length) {e : Ent} (he : e ∈ (at_ t i).en) : (at_ t i).k = 2 ∧ 1 ≤ e.2 ∧ e.2 ≤ 11 := by
  have hm := h.node i hi
  have hne : (at_ t i).en ≠ [] := fun h0 => by rw [h0] at he; cases he
  unfold mayNd at hm
  split at hm
  · simp only [Bool.and_eq_true, decide_eq_true_eq] at hm
    exact absurd (List.eq_nil_of_length_eq_zero hm.2.2.2) hne
  · split at hm
    · next hk =>
      simp only [Bool.and_eq_true, decide_eq_true_eq] at hm
      have := (mayEs_iff.1 hm.2.2.2).2.1 e he
      unfold mayE at this
      simp only [Bool.and_eq_true, decide_eq_true_eq] at this
      exact ⟨hk, by omega, by omega⟩
    · split at hm
      · exact absurd (List.eq_nil_of_length_eq_zero (mayFl_at hm).2.2.2.2.2.1) hne
      · cases hm
theorem edge_cnt {t : List Nd} {a b : Nat} : Edge t a b ↔ a < t.length ∧ 0 < cntE (b : Int) (at_ t a).en := by
  unfold Edge
  rw [cntE_pos]
theorem edge_named {t : List Nd} {a b : Nat} (h : Edge t a b) : 0 < namedT (b : Int) t := by
  obtain ⟨ha, e, he, hb⟩ := h
  exact namedT_pos.2 ⟨_, at_mem ha, e, he, hb⟩
theorem named_edge {t : List Nd} {b : Nat} (h : 0 < namedT (b : Int) t) : ∃ a, Edge t a b := by
  obtain ⟨n, hn, e, he, hb⟩ := namedT_pos.1 h
  obtain ⟨i, hi, rfl⟩ := mem_at hn
  exact ⟨i, hi, e, he, hb⟩
/-- Who is named once has one parent. -/
theorem edge_one {t : List Nd} {a a' b : Nat} (h : Edge t a b) (h' : Edge t a' b) (hn : namedT (b : Int) t = 1) : a = a' := by
  obtain ⟨h1, h2⟩ := edge_cnt.1 h
  obtain ⟨h3, h4⟩ := edge_cnt.1 h'
  rw [at_lt h1] at h2
  rw [at_lt h3] at h4
  rcases Nat.lt_trichotomy a a' with e | e | e
  · have := namedT_two h1 h3 e h2 h4
    omega
  · exact e
  · have := namedT_two h3 h1 e h4 h2
    omega
theorem MayT.edge {t : List Nd} (h : MayT t) {a b : Nat} (he : Edge t a b) : (at_ t a).k = 2 ∧ 1 ≤ b ∧ b < t.length ∧ (at_ t b).k ≠ 0 := by
  obtain ⟨ha, e, hem, hb⟩ := he
  obtain ⟨h1, h2, h3⟩ := h.names ha hem
  have := h.ent a ha e hem
  rw [hb, Int.toNat_natCast] at this
  have := h.len
  exact ⟨h1, by omega, by omega, by assumption⟩
/-- Does one come to b from a? -/
def Ins (t : List Nd) (a b : Nat) : Prop := DR t a b ∨ ∃ i, DR t a i ∧ Edge t i b
theorem Ins.dir {t : List Nd} {a b : Nat} (h : Ins t a b) : a < t.length ∧ (at_ t a).k = 2 := by
  rcases h with h | ⟨i, h, _⟩
  · exact h.first
  · exact h.first
theorem Ins.to {t : List Nd} (hm : MayT t) {a b : Nat} (h : Ins t a b) (hb : (at_ t b).k = 2) : DR t a b := by
  rcases h with h | ⟨i, h, he⟩
  · exact h
  · exact h.step he (hm.edge he).2.2.1 hb
theorem ins_trans {t : List Nd} (hm : MayT t) {a b c : Nat} (h : Ins t a b) (k : Ins t b c) : Ins t a c := by
  have hd := h.to hm k.dir.2
  rcases k with k | ⟨i, k, he⟩
  · exact .inl (hd.trans k)
  · exact .inr ⟨i, hd.trans k, he⟩
/-- NO DIRECTORY IS INSIDE WHAT IS IN IT. -/
theorem dr_anti {t : List Nd} (hm : MayT t) {a b : Nat} (h : DR t a b) (k : DR t b a) : a = b := by
  by_cases hab : a = b
  · exact hab
  exfalso
  have par : ∀ x, DR t a x → DR t x a → ∃ z, (DR t a z ∧ DR t z a) ∧ Edge t z x := fun x hx hxa => by
    by_cases e : x = a
    · subst e
      cases k with
      | refl _ _ => exact absurd rfl hab
      | step hz he _ _ => exact ⟨_, ⟨h.trans hz, .step (.refl hz.lt hz.dir) he h.first.1 h.first.2⟩, he⟩
    · cases hx with
      | refl _ _ => exact absurd rfl e
      | step hz he hl hk => exact ⟨_, ⟨hz, .trans (.step (.refl hz.lt hz.dir) he hl hk) hxa⟩, he⟩
  have key : ∀ x, DR t 0 x → ¬ (DR t a x ∧ DR t x a) := fun x hx => by
    induction hx with
    | refl _ _ =>
      rintro ⟨h1, h2⟩
      obtain ⟨z, _, he⟩ := par 0 h1 h2
      have := (hm.edge he).2.1
      omega
    | step hy he hl hk ih =>
      rintro ⟨h1, h2⟩
      obtain ⟨z, hz, he2⟩ := par _ h1 h2
      have h3 := (hm.edge he).2.1
      rcases (hm.dir _ hl hk).2 with h4 | h4
      · omega
      · rw [edge_one he he2 h4] at ih
        exact ih hz
  obtain ⟨f1, f2⟩ := h.first
  exact key a (hm.dir a f1 f2).1 ⟨.refl f1 f2, .refl f1 f2⟩
theorem ins_anti {t : List Nd} (hm : MayT t) {a b : Nat} (h : Ins t a b) (k : Ins t b a) : a = b :=
  dr_anti hm (h.to hm k.dir.2) (k.to hm h.dir.2)
/-- All that has names is inside the root. -/
theorem ins_root {t : List Nd} (hm : MayT t) {c : Nat} : Ins t 0 c ↔ 0 < namedT (c : Int) t ∨ c = 0 := by
  have hl := hm.len
  constructor
  · rintro (h | ⟨i, _, he⟩)
    · cases h with
      | refl _ _ => exact .inr rfl
      | step _ he _ _ => exact .inl (edge_named he)
    · exact .inl (edge_named he)
  · rintro (h | rfl)
    · obtain ⟨a, he⟩ := named_edge h
      exact .inr ⟨a, (hm.dir a he.1 (hm.edge he).1).1, he⟩
    · exact .inl (.refl (by omega) hm.root)
def anyIn (t : List Nd) (o : List Bool) (b : Int) : Bool := (List.range t.length).any fun i => o.getD i false && decide (0 < cntE b (at_ t i).en)
def insF (t : List Nd) (a b : Int) : Bool := mayT t && (decide (0 ≤ b) && (decide (b < (t.length : Int)) && ((reachF t a).getD b.toNat false || anyIn t (reachF t a) b)))
theorem insF_iff {t : List Nd} (hm : MayT t) {a b : Nat} (hb : b < t.length) : insF t (a : Int) (b : Int) = true ↔ Ins t a b := by
  unfold insF anyIn
  rw [mayT_iff.2 hm]
  simp only [Bool.true_and, Bool.and_eq_true, Bool.or_eq_true, decide_eq_true_eq, List.any_eq_true, List.mem_range, Int.toNat_natCast]
  constructor
  · rintro ⟨_, _, h | ⟨i, hi, h1, h2⟩⟩
    · exact .inl (reach_iff.1 h)
    · exact .inr ⟨i, reach_iff.1 h1, edge_cnt.2 ⟨hi, h2⟩⟩
  · rintro (h | ⟨i, h, he⟩)
    · exact ⟨by omega, by omega, .inl (reach_iff.2 h)⟩
    · exact ⟨by omega, by omega, .inr ⟨i, he.1, reach_iff.2 h, (edge_cnt.1 he).2⟩⟩
/-! How many names. -/
def sumN (f : Nat → Int) : Nat → Int
  | 0 => 0
  | n + 1 => sumN f n + f n
theorem sumN_add (f g : Nat → Int) : ∀ n, sumN (fun i => f i + g i) n = sumN f n + sumN g n
  | 0 => rfl
  | n + 1 => by rw [sumN, sumN, sumN, sumN_add f g n]; omega
theorem sumN_congr {f g : Nat → Int} : ∀ {n : Nat}, (∀ i, i < n → f i = g i) → sumN f n = sumN g n
  | 0, _ => rfl
  | n + 1, h => by rw [sumN, sumN, sumN_congr (fun i hi => h i (by omega)), h n (by omega)]
theorem sumN_zero : ∀ n, sumN (fun _ => 0) n = 0
  | 0 => rfl
  | n + 1 => by rw [sumN, sumN_zero n]; rfl
theorem sumN_one (x : Int) (v : Int) : ∀ n : Nat, sumN (fun i => if x = (i : Int) then v else 0) n = if 0 ≤ x ∧ x < (n : Int) then v else 0
  | 0 => by rw [if_neg (by omega)]; rfl
  | n + 1 => by
    rw [sumN, sumN_one x v n]
    by_cases h : x = (n : Int)
    · rw [if_neg (by omega), if_pos h, if_pos (by omega)]; omega
    · rw [if_neg h]
      by_cases h2 : 0 ≤ x ∧ x < (n : Int)
      · rw [if_pos h2, if_pos (by omega)]; omega
      · rw [if_neg h2, if_neg (by omega)]; rfl
theorem sum_cntE (N : Nat) : ∀ l : List Ent, (∀ e ∈ l, 0 ≤ e.2 ∧ e.2 < (N : Int)) → sumN (fun i => (cntE (i : Int) l : Int)) N = (l.length : Int)
  | [], _ => by simp only [cntE]; exact sumN_zero N
  | e :: l, h => by
    have ih := sum_cntE N l (fun x hx => h x (by simp [hx]))
    have e1 : sumN (fun i => (cntE (i : Int) (e :: l) : Int)) N = sumN (fun i => (if e.2 = (i : Int) then 1 else 0) + (cntE (i : Int) l : Int)) N := sumN_congr fun i _ => by
      rw [cntE]; split <;> simp
    rw [e1, sumN_add, ih, sumN_one, if_pos (h e (by simp)), List.length_cons]
    omega
def namesT : List Nd → Nat
  | [] => 0
  | n :: t => n.en.length + namesT t
theorem namesT_app : ∀ l m : List Nd, namesT (l ++ m) = namesT l + namesT m
  | [], m => by simp [namesT]
  | e :: l, m => by rw [List.cons_append, namesT, namesT, namesT_app l m]; omega
theorem namesT_take {l : List Nd} {j : Nat} (h : j < l.length) : namesT (l.take (j + 1)) = namesT (l.take j) + l[j].en.length := by
  rw [List.take_succ_eq_append_getElem h, namesT_app]
  simp [namesT]
theorem sum_namedT (N : Nat) : ∀ t : List Nd, (∀ n ∈ t, ∀ e ∈ n.en, 0 ≤ e.2 ∧ e.2 < (N : Int)) → sumN (fun i => (namedT (i : Int) t : Int)) N = (namesT t : Int)
  | [], _ => by simp only [namedT]; exact sumN_zero N
  | n :: t, h => by
    have ih := sum_namedT N t (fun x hx => h x (by simp [hx]))
    have e1 : sumN (fun i => (namedT (i : Int) (n :: t) : Int)) N = sumN (fun i => (cntE (i : Int) n.en : Int) + (namedT (i : Int) t : Int)) N := sumN_congr fun i _ => by
      rw [namedT]; simp
    rw [e1, sumN_add, ih, sum_cntE N n.en (h n (by simp)), namesT]
    simp
/-- What a node adds to the links. -/
def linkT (t : List Nd) (i : Nat) : Int := (if (at_ t i).k = 1 then (at_ t i).l else 0) + (if (at_ t i).k = 2 ∧ 0 < i then 1 else 0)
theorem links_names {t : List Nd} (hm : MayT t) : sumN (linkT t) t.length = (namesT t : Int) := by
  have hl := hm.len
  rw [← sum_namedT t.length t (fun n hn e he => by
    obtain ⟨i, hi, rfl⟩ := mem_at hn
    obtain ⟨_, h1, h2⟩ := hm.names hi he
    omega)]
  refine sumN_congr fun i hi => ?_
  unfold linkT
  by_cases h1 : (at_ t i).k = 1
  · rw [if_pos h1, if_neg (by omega), hm.file i hi h1]; omega
  · rw [if_neg h1]
    by_cases h2 : (at_ t i).k = 2
    · rcases (hm.dir i hi h2).2 with h3 | h3
      · subst h3
        rw [if_neg (by omega)]
        have : namedT ((0 : Nat) : Int) t = 0 := by
          cases h : namedT ((0 : Nat) : Int) t with
          | zero => rfl
          | succ k =>
            obtain ⟨a, he⟩ := named_edge (show 0 < namedT ((0 : Nat) : Int) t by omega)
            have := (hm.edge he).2.1
            omega
        rw [this]; rfl
      · by_cases h0 : 0 < i
        · rw [if_pos ⟨h2, h0⟩, h3]; rfl
        · have : i = 0 := by omega
          subst this
          obtain ⟨a, he⟩ := named_edge (show 0 < namedT ((0 : Nat) : Int) t by rw [h3]; omega)
          have := (hm.edge he).2.1
          omega
    · rw [if_neg (by omega)]
      have : namedT (i : Int) t = 0 := by
        cases h : namedT (i : Int) t with
        | zero => rfl
        | succ k =>
          obtain ⟨a, he⟩ := named_edge (show 0 < namedT (i : Int) t by omega)
          have h5 := (hm.edge he).2.2.2
          have h6 := hm.node i hi
          exfalso
          unfold mayNd at h6
          rw [if_neg h5, if_neg h2, if_neg h1] at h6
          cases h6
      rw [this]; rfl
end Go.Proofs.YtfboilbmehcgoaaDoor

/- A tree in memory: a row of nodes, five cells each, and the rows of each. -/
namespace Go.Proofs.YtfboilbmehcgoaaDoor
open Go.RowKit

/-- Where a node's rows lie. -/
structure NAddr where
  A : Option Addr
  B : Option Addr
  c : Nat
  d : Nat
instance : Inhabited NAddr := ⟨⟨none, none, 0, 0⟩⟩
/-- A node's five cells. -/
structure NCells (w : World) (B o : Nat) (n : Nd) (a : NAddr) : Prop where
  c0 : w.cell? ⟨B, o, none⟩ = some (.int .i64 n.k)
  c1 : w.cell? ⟨B, o + 1, none⟩ = some (.int .i64 n.l)
  c2 : w.cell? ⟨B, o + 2, none⟩ = some (.int .i64 n.z)
  c3 : w.cell? ⟨B, o + 3, none⟩ = some (.slice a.A n.sq.length a.c)
  c4 : w.cell? ⟨B, o + 4, none⟩ = some (.slice a.B n.en.length a.d)
theorem NCells.below {w w' : World} {B o : Nat} {n : Nd} {a : NAddr} (h : NCells w B o n a) (hB : B < w.heap.size) (hb : Below w.heap.size w w') : NCells w' B o n a :=
  ⟨(hb.cell (p := ⟨B, o, none⟩) hB).trans h.c0, (hb.cell (p := ⟨B, o + 1, none⟩) hB).trans h.c1, (hb.cell (p := ⟨B, o + 2, none⟩) hB).trans h.c2, (hb.cell (p := ⟨B, o + 3, none⟩) hB).trans h.c3, (hb.cell (p := ⟨B, o + 4, none⟩) hB).trans h.c4⟩
abbrev NLiesA (w : World) (n : Nd) (a : NAddr) : Prop := NLies w n a.A a.B a.c a.d
def TrLies (w : World) (A : Option Addr) (t : List Nd) (r : Nat → NAddr) : Prop :=
  0 < t.length → ∃ B o, A = some ⟨B, o, none⟩ ∧ B < w.heap.size ∧ ∀ j (h : j < t.length), NCells w B (o + j * 5) t[j] (r j) ∧ NLiesA w t[j] (r j)
theorem TrLies.below {w w' : World} {A : Option Addr} {t : List Nd} {r : Nat → NAddr} (h : TrLies w A t r) (hb : Below w.heap.size w w') : TrLies w' A t r := fun hn => by
  obtain ⟨B, o, e, hB, hc⟩ := h hn
  exact ⟨B, o, e, Nat.lt_of_lt_of_le hB hb.size, fun j hj => ⟨(hc j hj).1.below hB hb, (hc j hj).2.below hb⟩⟩
theorem TrLies.nil (w : World) (A : Option Addr) (r : Nat → NAddr) : TrLies w A [] r := fun h => absurd h (by simp)
/-- A tree as it stands in memory, with all that a call asks of it. -/
structure TLies (w : World) (A : Option Addr) (c : Nat) (t : List Nd) (r : Nat → NAddr) : Prop where
  lie : TrLies w A t r
  sn : A = none → t = [] ∧ c = 0
  sc : t.length ≤ c
  sm : t.length ≤ maxLen
theorem TLies.below {w w' : World} {A : Option Addr} {c : Nat} {t : List Nd} {r : Nat → NAddr} (h : TLies w A c t r) (hb : Below w.heap.size w w') : TLies w' A c t r := ⟨h.lie.below hb, h.sn, h.sc, h.sm⟩
theorem TLies.node {w : World} {A : Option Addr} {c : Nat} {t : List Nd} {r : Nat → NAddr} (h : TLies w A c t r) {j : Nat} (hj : j < t.length) : ∃ B o, A = some ⟨B, o, none⟩ ∧ B < w.heap.size ∧ NCells w B (o + j * 5) (at_ t j) (r j) ∧ NLiesA w (at_ t j) (r j) := by
  obtain ⟨B, o, e, hB, hc⟩ := h.lie (by omega)
  rw [at_lt hj]
  exact ⟨B, o, e, hB, (hc j hj).1, (hc j hj).2⟩
theorem TLies.rows {w : World} {A : Option Addr} {c : Nat} {t : List Nd} {r : Nat → NAddr} (h : TLies w A c t r) {j : Nat} (hj : j < t.length) : NLiesA w (at_ t j) (r j) := by
  obtain ⟨_, _, _, _, _, h⟩ := h.node hj
  exact h
end Go.Proofs.YtfboilbmehcgoaaDoor

/- A tree as an argument, opened. -/
namespace Go.Proofs.YtfboilbmehcgoaaDoor
open Go.RowKit Go.ChangeShapes Go.WideShapes

instance : Inhabited Nd := ⟨nd0⟩
theorem cells_lnode : Tryd.prog.cellsOf 22 = 1 := by kernel_rfl
theorem cells_tree : Tryd.prog.cellsOf 24 = 1 := by kernel_rfl
set_option maxRecDepth 100000 in
theorem trod_lnode {H : Type} {enc : TypeId × Value → H} {W : World} {fuel : Nat} {cs : List Value} {x : DataW H × List MemPlace} (hf : DataW.trod enc Tryd.prog W 0 (fun _ => true) true fuel 22 cs = some x) :
    ∃ (A : Option Addr) (cap : Nat) (t : List Nd) (r : Nat → NAddr), cs = [.slice A t.length cap] ∧ TLies W A cap t r ∧ ∀ n ∈ t, NWf n := by
  rcases Deep.open_slice Tryd.underlying22 hf with ⟨hcs, _⟩ | ⟨a, len, cap, m, k, D, Pl, hcs, _, hl, hm, hmm, _, hx⟩
  · subst hcs
    exact ⟨none, 0, [], fun _ => ⟨none, none, 0, 0⟩, rfl, ⟨.nil _ _ _, fun _ => ⟨rfl, rfl⟩, Nat.le_refl _, by simp⟩, by simp⟩
  · subst hcs
    have hml : len ≤ m := by simp at hmm; omega
    have hplain : 0 < len → ∃ ab ao, a = ⟨ab, ao, none⟩ ∧ ab < W.heap.size := fun h0 => by
      obtain ⟨cs', h1, _⟩ := hx 0 (by omega)
      rw [cells_node] at h1
      obtain ⟨_, hlen, hcell⟩ := World.cells?_some h1
      have h9 := hcell 0 (by omega)
      rw [Nat.zero_mul, show (a.add 0).add 0 = a from rfl] at h9
      match cs', hlen with
      | [v0, v1, v2, v3, v4], _ =>
        have hp := addr_plainE (w := W) (v := v0) (by simpa using h9)
        exact ⟨a.block, a.off, hp.1, hp.2⟩
    have each : ∀ i, i < len → ∃ q : Nd × NAddr, (W.cell? (a.add (i * 5)) = some (.int .i64 q.1.k) ∧ W.cell? (a.add (i * 5 + 1)) = some (.int .i64 q.1.l) ∧ W.cell? (a.add (i * 5 + 2)) = some (.int .i64 q.1.z) ∧ W.cell? (a.add (i * 5 + 3)) = some (.slice q.2.A q.1.sq.length q.2.c) ∧ W.cell? (a.add (i * 5 + 4)) = some (.slice q.2.B q.1.en.length q.2.d)) ∧ NLiesA W q.1 q.2 ∧ NWf q.1 := fun i hi => by
      obtain ⟨cs', h1, h2⟩ := hx i (by omega)
      rw [cells_node] at h1
      obtain ⟨_, hlen, hcell⟩ := World.cells?_some h1
      obtain ⟨xs, n, _, _, _, hxl, hfl⟩ := DataW.trod_struct Tryd.underlying32 h2
      match cs', hlen with
      | [v0, v1, v2, v3, v4], _ =>
        have get : ∀ i, i < 5 → ∃ y, xs[i]? = some y := fun i hi => ⟨xs[i]'(by rw [hxl]; exact hi), List.getElem?_eq_getElem _⟩
        have h0 := hfl 0 _ rfl
        have h1 := hfl 1 _ rfl
        have h2 := hfl 2 _ rfl
        have h3 := hfl 3 _ rfl
        have h4 := hfl 4 _ rfl
        obtain ⟨y0, g0⟩ := get 0 (by omega)
        obtain ⟨y1, g1⟩ := get 1 (by omega)
        obtain ⟨y2, g2⟩ := get 2 (by omega)
        obtain ⟨y3, g3⟩ := get 3 (by omega)
        obtain ⟨y4, g4⟩ := get 4 (by omega)
        rw [g0] at h0
        rw [g1] at h1
        rw [g2] at h2
        rw [g3] at h3
        rw [g4] at h4
        obtain ⟨x0, e0, _, w0⟩ := DataW.trod_int Tryd.underlying3 h0
        obtain ⟨x1, e1, _, w1⟩ := DataW.trod_int Tryd.underlying3 h1
        obtain ⟨x2, e2, _, w2⟩ := DataW.trod_int Tryd.underlying3 h2
        obtain ⟨A, ca, ls, e3, s1, s2, s3, s4, s5⟩ := trod_lint h3
        obtain ⟨B, cb, le, e4, t1, t2, t3, t4⟩ := trod_lent h4
        simp [cells_int, cells_lint, cells_lent] at e0 e1 e2 e3 e4
        subst e0 e1 e2 e3 e4
        have c0 := hcell 0 (by omega)
        have c1 := hcell 1 (by omega)
        have c2 := hcell 2 (by omega)
        have c3 := hcell 3 (by omega)
        have c4 := hcell 4 (by omega)
        rw [add_add] at c0 c1 c2 c3 c4
        simp only [List.getElem?_cons_zero, List.getElem?_cons_succ, Nat.add_zero] at c0 c1 c2 c3 c4
        exact ⟨(⟨x0, x1, x2, ls, le⟩, ⟨A, B, ca, cb⟩), ⟨c0, c1, c2, c3, c4⟩, ⟨s4, t4, s3, t3, s2, t2, s1, t1⟩, ⟨w0, w1, w2, s5⟩⟩
    obtain ⟨q, hq⟩ := Deep.choose_lt each
    refine ⟨some a, cap, (List.range len).map fun i => (q i).1, fun i => (q i).2, by simp, ⟨fun hn => ?_, fun e => (by cases e), by simp; omega, by simp; omega⟩, fun n hn => ?_⟩
    · simp only [List.length_map, List.length_range] at hn
      obtain ⟨ab, ao, rfl, hab⟩ := hplain hn
      refine ⟨ab, ao, rfl, hab, fun j hj => ?_⟩
      simp only [List.length_map, List.length_range] at hj
      simp only [List.getElem_map, List.getElem_range]
      have hadd : ∀ j, (⟨ab, ao, none⟩ : Addr).add j = ⟨ab, ao + j, none⟩ := fun j => by
        unfold Addr.add; split
        · next e => rw [e]; rfl
        · rfl
      obtain ⟨⟨h0, h1, h2, h3, h4⟩, h5, _⟩ := hq j hj
      rw [hadd] at h0 h1 h2 h3 h4
      exact ⟨⟨h0, h1, h2, h3, h4⟩, h5⟩
    · simp only [List.mem_map, List.mem_range] at hn
      obtain ⟨i, hi, rfl⟩ := hn
      exact (hq i hi).2.2
set_option maxRecDepth 100000 in
theorem open_tree {H : Type} {enc : TypeId × Value → H} {W : World} {r : Reach} {b0 : Nat} {v : Value} {d : DataW H} {p : List MemPlace} (hv : Value.okWide Tryd.prog W r b0 24 v) (h : DataW.Trod enc Tryd.prog W 0 (fun _ => true) true 24 v d p) :
    ∃ (t : List Nd) (A : Option Addr) (c : Nat) (r : Nat → NAddr), v = .agg #[.slice A t.length c] ∧ TLies W A c t r ∧ ∀ n ∈ t, NWf n := by
  obtain ⟨cs, rfl, hsz⟩ := okWide_struct Tryd.underlying24 hv
  rw [cells_tree] at hsz
  obtain ⟨fuel, hf⟩ := h
  obtain ⟨l, rfl⟩ : ∃ l : List Value, cs = l.toArray := ⟨cs.toList, by simp⟩
  match l, hsz with
  | [a], _ =>
    obtain ⟨xs, n, _, _, _, hlen, hx⟩ := DataW.trod_struct Tryd.underlying24 hf
    have h0 := hx 0 _ rfl
    obtain ⟨y0, g0⟩ : ∃ y, xs[0]? = some y := ⟨xs[0]'(by rw [hlen]; decide), List.getElem?_eq_getElem _⟩
    rw [g0] at h0
    obtain ⟨A, ca, t, r, e0, s1, s2⟩ := trod_lnode h0
    simp [cells_lnode, Value.cells] at e0
    subst e0
    exact ⟨t, A, ca, r, rfl, s1, s2⟩
end Go.Proofs.YtfboilbmehcgoaaDoor

/- The landed dir on trees as data: who is come to in so many steps; which trees may be, by steps. -/
namespace Go.Proofs.YtfboilbmehcgoaaDoor
open Go.Lib

/-- Does one come from a to b over n entries at most? -/
def comesF (t : List Nd) (b : Int) : Nat → Int → Bool
  | 0, a => decide (a = b)
  | n + 1, a => decide (a = b) || (at_ t a.toNat).en.any fun e => comesF t b n e.2
theorem comesF_succ {t : List Nd} {b a : Int} {n : Nat} : comesF t b (n + 1) a = true ↔ a = b ∨ ∃ e ∈ (at_ t a.toNat).en, comesF t b n e.2 = true := by
  rw [comesF, Bool.or_eq_true, decide_eq_true_eq, List.any_eq_true]
theorem en_lt {t : List Nd} {a : Nat} {e : Ent} (h : e ∈ (at_ t a).en) : a < t.length := by
  rcases Nat.lt_or_ge a t.length with h1 | h1
  · exact h1
  · unfold at_ at h
    rw [List.getD_eq_getElem?_getD, List.getElem?_eq_none h1] at h
    cases h
/-- All entries name nodes of the tree. -/
def InT (t : List Nd) : Prop := ∀ i, ∀ e ∈ (at_ t i).en, 0 ≤ e.2 ∧ e.2 < (t.length : Int)
theorem comes_mono {t : List Nd} {b : Int} : ∀ {n : Nat} {a : Int}, comesF t b n a = true → comesF t b (n + 1) a = true
  | 0, _, h => comesF_succ.2 (.inl (of_decide_eq_true h))
  | _ + 1, _, h => by
    rcases comesF_succ.1 h with e | ⟨e, he, h1⟩
    · exact comesF_succ.2 (.inl e)
    · exact comesF_succ.2 (.inr ⟨e, he, comes_mono h1⟩)
theorem comes_self {t : List Nd} {b : Int} : ∀ n : Nat, comesF t b n b = true
  | 0 => decide_eq_true rfl
  | _ + 1 => comesF_succ.2 (.inl rfl)
theorem comes_snoc {t : List Nd} {b c : Nat} (he : Edge t b c) : ∀ {n : Nat} {a : Int}, comesF t (b : Int) n a = true → comesF t (c : Int) (n + 1) a = true
  | n, a, h => by
    have key : a = (b : Int) → comesF t (c : Int) (n + 1) a = true := by
      rintro rfl
      obtain ⟨_, e, hem, hc⟩ := he
      exact comesF_succ.2 (.inr ⟨e, by simpa using hem, by rw [hc]; exact comes_self n⟩)
    cases n with
    | zero => exact key (of_decide_eq_true h)
    | succ n =>
      rcases comesF_succ.1 h with e | ⟨e, hem, h1⟩
      · exact key e
      · exact comesF_succ.2 (.inr ⟨e, hem, comes_snoc he h1⟩)
theorem comes_unsnoc {t : List Nd} (hE : InT t) {c : Nat} : ∀ {n : Nat} {a : Nat}, comesF t (c : Int) (n + 1) (a : Int) = true → comesF t (c : Int) n (a : Int) = true ∨ ∃ b, b < t.length ∧ comesF t (b : Int) n (a : Int) = true ∧ Edge t b c
  | 0, a, h => by
    rcases comesF_succ.1 h with e | ⟨e, hem, h1⟩
    · exact .inl (decide_eq_true e)
    · have ha := en_lt hem
      exact .inr ⟨a, by simpa using ha, comes_self 0, by simpa using ha, e, by simpa using hem, of_decide_eq_true h1⟩
  | n + 1, a, h => by
    rcases comesF_succ.1 h with e | ⟨e, hem, h1⟩
    · exact .inl (comesF_succ.2 (.inl e))
    · obtain ⟨h0, hl⟩ := hE _ e hem
      have e2 : ((e.2.toNat : Nat) : Int) = e.2 := by omega
      rw [← e2] at h1
      rcases comes_unsnoc hE h1 with h2 | ⟨b, hb, h2, h3⟩
      · exact .inl (comesF_succ.2 (.inr ⟨e, hem, by rwa [e2] at h2⟩))
      · exact .inr ⟨b, hb, comesF_succ.2 (.inr ⟨e, hem, by rwa [e2] at h2⟩), h3⟩
/-- Over entries, as many as there are. -/
inductive Ch (t : List Nd) (a : Nat) : Nat → Prop
  | refl : Ch t a a
  | step {b c : Nat} : Ch t a b → Edge t b c → Ch t a c
theorem Ch.trans {t : List Nd} {a b c : Nat} (h : Ch t a b) (k : Ch t b c) : Ch t a c := by
  induction k with
  | refl => exact h
  | step _ e ih => exact ih.step e
theorem ch_comes {t : List Nd} (hE : InT t) {c : Nat} : ∀ {n : Nat} {a : Nat}, comesF t (c : Int) n (a : Int) = true → Ch t a c
  | 0, a, h => by
    have : (a : Int) = (c : Int) := of_decide_eq_true h
    obtain rfl : a = c := by omega
    exact .refl
  | n + 1, a, h => by
    rcases comesF_succ.1 h with e | ⟨e, hem, h1⟩
    · obtain rfl : a = c := by omega
      exact .refl
    · obtain ⟨h0, hl⟩ := hE _ e hem
      have e2 : ((e.2.toNat : Nat) : Int) = e.2 := by omega
      rw [← e2] at h1
      have ha := en_lt hem
      exact (Ch.step .refl ⟨by simpa using ha, e, by simpa using hem, e2.symm⟩).trans (ch_comes hE h1)
/-- Who is come to over n entries at most. -/
def levT (t : List Nd) (a n : Nat) : List Bool := (List.range t.length).map fun (j : Nat) => comesF t (j : Int) n (a : Int)
theorem levT_len (t : List Nd) (a n : Nat) : (levT t a n).length = t.length := by simp [levT]
theorem levT_get {t : List Nd} {a n j : Nat} (hj : j < t.length) : (levT t a n).getD j false = comesF t (j : Int) n (a : Int) := by
  unfold levT
  rw [List.getD_eq_getElem?_getD, List.getElem?_map, List.getElem?_eq_getElem (by simpa using hj)]
  simp
theorem levT_out {t : List Nd} {a n j : Nat} (hj : ¬ j < t.length) : (levT t a n).getD j false = false := by
  rw [List.getD_eq_getElem?_getD, List.getElem?_eq_none (by rw [levT_len]; omega)]; rfl
theorem levT_mo {t : List Nd} {a n : Nat} : Mo (levT t a n) (levT t a (n + 1)) := fun j hj => by
  by_cases h : j < t.length
  · rw [levT_get h] at hj ⊢
    exact comes_mono hj
  · rw [levT_out h] at hj; cases hj
/-- What is come to, and named from there, is come to. -/
def StayT (t : List Nd) (a n : Nat) : Prop := ∀ b c : Nat, c < t.length → comesF t (b : Int) n (a : Int) = true → Edge t b c → comesF t (c : Int) n (a : Int) = true
theorem stay_of_eq {t : List Nd} {a n : Nat} (h : levT t a n = levT t a (n + 1)) : StayT t a n := fun b c hc hb he => by
  have h1 := comes_snoc he hb
  rw [← levT_get hc, ← h, levT_get hc] at h1
  exact h1
theorem stay_next {t : List Nd} (hE : InT t) {a n : Nat} (h : StayT t a n) : StayT t a (n + 1) := fun b c hc hb he => by
  rcases comes_unsnoc hE hb with h1 | ⟨d, hd, h1, h2⟩
  · exact comes_mono (h b c hc h1 he)
  · exact comes_mono (h b c hc (h d b he.1 h1 h2) he)
theorem stay_or {t : List Nd} (hE : InT t) {a : Nat} (ha : a < t.length) : ∀ n, StayT t a n ∨ n + 1 ≤ cntB (levT t a n)
  | 0 => by
    right
    have key : ∀ (o : List Bool) (j : Nat), o.getD j false = true → 0 < cntB o := by
      intro o
      induction o with
      | nil => intro j h; simp at h
      | cons b o ih =>
        intro j h
        rw [cntB]
        cases j with
        | zero => have : b = true := by simpa using h
                  rw [this]; simp; omega
        | succ j =>
          have := ih j (by simpa using h)
          omega
    exact key _ a (by rw [levT_get ha]; exact comes_self 0)
  | n + 1 => by
    rcases stay_or hE ha n with h | h
    · exact .inl (stay_next hE h)
    · have hm := cntB_mo (by rw [levT_len, levT_len]) (levT_mo (t := t) (a := a) (n := n))
      by_cases e : cntB (levT t a n) = cntB (levT t a (n + 1))
      · exact .inl (stay_next hE (stay_of_eq (hm.2 e)))
      · right
        have := hm.1
        omega
theorem cntB_full : ∀ {o : List Bool}, cntB o = o.length → ∀ j, j < o.length → o.getD j false = true
  | [], _, j, h => by simp at h
  | b :: o, h, j, hj => by
    have := cntB_le o
    rw [cntB, List.length_cons] at h
    cases b with
    | false => simp at h; omega
    | true =>
      cases j with
      | zero => rfl
      | succ j =>
        have := cntB_full (o := o) (by simp at h; omega) j (by simpa using hj)
        simpa using this
theorem stay_end {t : List Nd} (hE : InT t) {a n : Nat} (ha : a < t.length) (hn : t.length ≤ n + 1) : StayT t a n := by
  rcases stay_or hE ha n with h | h
  · exact h
  · intro b c hc _ _
    have h1 := cntB_le (levT t a n)
    rw [levT_len] at h1
    have := cntB_full (o := levT t a n) (by rw [levT_len]; omega) c (by rwa [levT_len])
    rwa [levT_get hc] at this
/-- WHO IS COME TO AT ALL IS COME TO OVER ONE ENTRY LESS THAN THERE ARE NODES. -/
theorem comes_iff {t : List Nd} (hE : InT t) {a c n : Nat} (ha : a < t.length) (hn : t.length ≤ n + 1) : comesF t (c : Int) n (a : Int) = true ↔ Ch t a c := by
  constructor
  · exact ch_comes hE
  · intro h
    have hs := stay_end hE ha hn
    induction h with
    | refl => exact comes_self n
    | step h he ih =>
      obtain ⟨hb, e, hem, hc⟩ := he
      have := hE _ e hem
      exact hs _ _ (by omega) ih ⟨hb, e, hem, hc⟩
theorem comes_out {t : List Nd} (hE : InT t) {b : Int} (hb : ¬ (0 ≤ b ∧ b < (t.length : Int))) : ∀ {n a : Nat}, a < t.length → comesF t b n (a : Int) = false
  | 0, a, ha => by
    unfold comesF
    exact decide_eq_false (by omega)
  | n + 1, a, ha => by
    cases e : comesF t b (n + 1) (a : Int) with
    | false => rfl
    | true =>
      rcases comesF_succ.1 e with h | ⟨x, hx, h⟩
      · omega
      · have h2 := hE _ x hx
        have h3 := comes_out hE hb (n := n) (a := x.2.toNat) (by omega)
        have e2 : ((x.2.toNat : Nat) : Int) = x.2 := by omega
        rw [e2, h] at h3
        cases h3
/-- Entries stand in directories alone. -/
def EnDir (t : List Nd) : Prop := ∀ i, ∀ e ∈ (at_ t i).en, (at_ t i).k = 2
theorem ch_dr {t : List Nd} (hD : EnDir t) (hE : InT t) {a b : Nat} (ha : a < t.length) (h : Ch t a b) (hb : (at_ t b).k = 2) : DR t a b := by
  induction h with
  | refl => exact .refl ha hb
  | step h he ih =>
    obtain ⟨hl, e, hem, hc⟩ := he
    have := hE _ e hem
    exact (ih (hD _ e hem)).step ⟨hl, e, hem, hc⟩ (by omega) hb
theorem dr_ch {t : List Nd} {a b : Nat} (h : DR t a b) : Ch t a b := by
  induction h with
  | refl _ _ => exact .refl
  | step _ he _ _ ih => exact ih.step he
theorem ch_ins {t : List Nd} (hD : EnDir t) (hE : InT t) {a b : Nat} (ha : a < t.length) (hk : (at_ t a).k = 2) : Ch t a b ↔ Ins t a b := by
  constructor
  · intro h
    cases h with
    | refl => exact .inl (.refl ha hk)
    | step h he =>
      obtain ⟨hl, e, hem, hc⟩ := he
      exact .inr ⟨_, ch_dr hD hE ha h (hD _ e hem), hl, e, hem, hc⟩
  · rintro (h | ⟨i, h, he⟩)
    · exact dr_ch h
    · exact (dr_ch h).step he
/-- Nodes that may be, one by one: their entries. -/
theorem mayNd_en {n : Nd} (h : mayNd n = true) {e : Ent} (he : e ∈ n.en) : n.k = 2 ∧ 1 ≤ e.2 ∧ e.2 ≤ 11 := by
  have hne : n.en ≠ [] := fun h0 => by rw [h0] at he; cases he
  unfold mayNd at h
  split at h
  · simp only [Bool.and_eq_true, decide_eq_true_eq] at h
    exact absurd (List.eq_nil_of_length_eq_zero h.2.2.2) hne
  · split at h
    · next hk =>
      simp only [Bool.and_eq_true, decide_eq_true_eq] at h
      have := (mayEs_iff.1 h.2.2.2).2.1 e he
      unfold mayE at this
      simp only [Bool.and_eq_true, decide_eq_true_eq] at this
      exact ⟨hk, by omega, by omega⟩
    · split at h
      · exact absurd (List.eq_nil_of_length_eq_zero (mayFl_at h).2.2.2.2.2.1) hne
      · cases h
theorem all_inT {t : List Nd} (hl : t.length = 12) (h : t.all mayNd = true) : InT t ∧ EnDir t := by
  rw [List.all_eq_true] at h
  refine ⟨fun i e he => ?_, fun i e he => ?_⟩
  · have := mayNd_en (h _ (at_mem (en_lt he))) he
    omega
  · exact (mayNd_en (h _ (at_mem (en_lt he))) he).1
def linksOk (t : List Nd) : Bool := (List.range t.length).all fun i => decide (i = 0) || decide ((at_ t i).l = (namedT (i : Int) t : Int))
def comesOk (t : List Nd) : Bool := (List.range t.length).all fun i => !decide ((at_ t i).k = 2) || comesF t (i : Int) 11 0
/-- The landed May, in its order. -/
def mayLd (t : List Nd) : Bool := decide (t.length = 12) && (decide ((at_ t 0).k = 2) && (t.all mayNd && (linksOk t && (comesOk t && noTw (allSeq t)))))
theorem mayNd_l {n : Nd} (h : mayNd n = true) : (n.k = 0 → n.l = 0) ∧ (n.k = 2 → n.l = 1) ∧ (n.k = 0 ∨ n.k = 1 ∨ n.k = 2) := by
  unfold mayNd at h
  split at h
  · next hk =>
    simp only [Bool.and_eq_true, decide_eq_true_eq] at h
    exact ⟨fun _ => h.1, fun h2 => by omega, .inl hk⟩
  · split at h
    · next hk =>
      simp only [Bool.and_eq_true, decide_eq_true_eq] at h
      exact ⟨fun h2 => by omega, fun _ => h.1, .inr (.inr hk)⟩
    · split at h
      · next hk => exact ⟨fun h2 => by omega, fun h2 => by omega, .inr (.inl hk)⟩
      · cases h
theorem mayLd_eq (t : List Nd) : mayLd t = mayT t := by
  rw [Bool.eq_iff_iff, mayT_iff]
  unfold mayLd linksOk comesOk
  simp only [Bool.and_eq_true, Bool.or_eq_true, decide_eq_true_eq, List.all_eq_true, List.mem_range, Bool.not_eq_true', decide_eq_false_iff_not]
  constructor
  · rintro ⟨hl, h0, hn, hk, hc, hs⟩
    obtain ⟨hE, hD⟩ := all_inT hl (List.all_eq_true.2 hn)
    refine ⟨hl, h0, fun i hi => hn _ (at_mem hi), fun i hi e he hk0 => ?_, hs, fun i hi h2 => ⟨?_, ?_⟩, fun i hi h1 => ?_⟩
    · have he2 := mayNd_en (hn _ (at_mem hi)) he
      have hi2 : e.2.toNat < t.length := by omega
      have hz := (mayNd_l (hn _ (at_mem hi2))).1 hk0
      rcases hk _ hi2 with h | h
      · omega
      · have hp : 0 < namedT ((e.2.toNat : Nat) : Int) t := namedT_pos.2 ⟨_, at_mem hi, e, he, by omega⟩
        omega
    · rcases hc i hi with h | h
      · exact absurd h2 h
      · exact ch_dr hD hE (by omega) ((comes_iff (a := 0) hE (by omega) (by omega)).1 h) h2
    · rcases hk i hi with h | h
      · exact .inl h
      · have := (mayNd_l (hn _ (at_mem hi))).2.1 h2
        exact .inr (by omega)
    · rcases hk i hi with h | h
      · subst h; omega
      · exact h
  · intro h
    refine ⟨h.len, h.root, fun n hn => ?_, fun i hi => ?_, fun i hi => ?_, h.sq⟩
    · obtain ⟨i, hi, rfl⟩ := mem_at hn
      exact h.node i hi
    · by_cases h0 : i = 0
      · exact .inl h0
      · right
        obtain ⟨l0, l2, l3⟩ := mayNd_l (h.node i hi)
        rcases l3 with k | k | k
        · rw [l0 k]
          by_cases hp : 0 < namedT (i : Int) t
          · obtain ⟨a, he⟩ := named_edge hp
            exact absurd k (h.edge he).2.2.2
          · omega
        · exact h.file i hi k
        · rw [l2 k]
          have := (h.dir i hi k).2
          omega
    · by_cases hk : (at_ t i).k = 2
      · right
        have hall : t.all mayNd = true := List.all_eq_true.2 fun n hn => by
          obtain ⟨i, hi, rfl⟩ := mem_at hn
          exact h.node i hi
        obtain ⟨hE, hD⟩ := all_inT h.len hall
        have hlen := h.len
        exact (comes_iff (a := 0) hE (by omega) (by omega)).2 (dr_ch (h.dir i hi hk).1)
      · exact .inl hk
theorem MayT.inT {t : List Nd} (h : MayT t) : InT t ∧ EnDir t := all_inT h.len (List.all_eq_true.2 fun n hn => by
  obtain ⟨i, hi, rfl⟩ := mem_at hn
  exact h.node i hi)
/-- Inside, by steps. -/
theorem comes_insF {t : List Nd} (h : MayT t) {a : Nat} (ha : a < t.length) (hk : (at_ t a).k = 2) (b : Int) : comesF t b 11 (a : Int) = insF t (a : Int) b := by
  obtain ⟨hE, hD⟩ := h.inT
  have hlen := h.len
  by_cases hb : 0 ≤ b ∧ b < (t.length : Int)
  · obtain ⟨c, rfl⟩ : ∃ c : Nat, b = (c : Int) := ⟨b.toNat, by omega⟩
    rw [Bool.eq_iff_iff, insF_iff h (by omega), comes_iff hE ha (by omega)]
    exact ch_ins hD hE ha hk
  · rw [comes_out hE hb ha]
    unfold insF
    by_cases h1 : 0 ≤ b
    · rw [decide_eq_false (p := b < (t.length : Int)) (by omega)]; simp
    · rw [decide_eq_false h1]; simp
theorem insF_not {t : List Nd} {a b : Int} (h : ¬ (0 ≤ a ∧ a < (t.length : Int) ∧ (at_ t a.toNat).k = 2)) : insF t a b = false := by
  have hr : reachF t a = List.replicate t.length false := by unfold reachF; rw [if_neg h]
  have hf : ∀ j, (reachF t a).getD j false = false := fun j => by
    rw [hr, List.getD_eq_getElem?_getD, List.getElem?_replicate]
    split <;> rfl
  unfold insF anyIn
  rw [hf, Bool.false_or, show ((List.range t.length).any fun i => (reachF t a).getD i false && decide (0 < cntE b (at_ t i).en)) = false from by
    rw [List.any_eq_false]; intro i _; rw [hf]; simp]
  simp
end Go.Proofs.YtfboilbmehcgoaaDoor

/- The law's Light of trees; the reference's Named. -/
namespace Go.Proofs.YtfboilbmehcgoaaDoor
open Go.RowKit Go.Lib

def sumLt : List Nd → Int
  | [] => 0
  | n :: t => lightN n + sumLt t
theorem sumLt_app : ∀ l m : List Nd, sumLt (l ++ m) = sumLt l + sumLt m
  | [], m => by simp [sumLt]
  | e :: l, m => by rw [List.cons_append, sumLt, sumLt, sumLt_app l m]; omega
theorem sumLt_take {l : List Nd} {j : Nat} (h : j < l.length) : sumLt (l.take (j + 1)) = sumLt (l.take j) + lightN l[j] := by
  rw [List.take_succ_eq_append_getElem h, sumLt_app]
  simp [sumLt]
theorem lightN_01 (n : Nd) : 0 ≤ lightN n ∧ lightN n ≤ 1 := by
  rcases lightN_cases n with ⟨h, _⟩ | h <;> omega
theorem sumLt_le : ∀ l : List Nd, 0 ≤ sumLt l ∧ sumLt l ≤ (l.length : Int)
  | [] => by simp [sumLt]
  | n :: l => by
    have h1 := sumLt_le l
    have h2 := lightN_01 n
    rw [sumLt, List.length_cons]
    omega
def lightT (t : List Nd) : Int := if 40 < t.length then 1 else sumLt t
theorem sumLt_zero : ∀ {l : List Nd}, sumLt l = 0 → ∀ n ∈ l, n.sq.length ≤ 60 ∧ n.en.length ≤ 60
  | [], _ => by simp
  | n :: l, h => by
    have h1 := sumLt_le l
    have h2 := lightN_01 n
    rw [sumLt] at h
    intro x hx
    rcases List.mem_cons.1 hx with rfl | hx
    · rcases lightN_cases x with h | h
      · exact h.2
      · omega
    · exact sumLt_zero (by omega) x hx
theorem lightT_cases (t : List Nd) : (lightT t = 0 ∧ t.length ≤ 40 ∧ ∀ n ∈ t, n.sq.length ≤ 60 ∧ n.en.length ≤ 60) ∨ 0 < lightT t := by
  unfold lightT
  split
  · exact .inr (by omega)
  · have := sumLt_le t
    by_cases h : sumLt t = 0
    · exact .inl ⟨h, by omega, sumLt_zero h⟩
    · exact .inr (by omega)
/-- A tree's box. -/
theorem tree_box (w : World) (v : Value) : (w.alloc (.cells #[v] 24)).cell? ⟨w.heap.size, 0, none⟩ = some v := by
  have hn := heap_alloc_new w (.cells #[v] 24)
  generalize w.alloc _ = W at hn ⊢
  simp [World.cell?, hn]
set_option maxRecDepth 100000 in
set_option maxHeartbeats 4000000 in
theorem lightT_any (t : List Nd) (A : Option Addr) (c : Nat) (r : Nat → NAddr) (w : World) (h : TLies w A c t r) : Calls Tryd.prog 9 #[.agg #[.slice A t.length c]] w fun x w' => x = .returned (.int .i64 (lightT t)) ∧ Below w.heap.size w w' := by
  have hmx : maxLen = 9223372036854775807 := rfl
  have hsm := h.sm
  have HH := Lib.hid h
  have HBA := Lib.hid ((Below.refl w.heap.size w).alloc (Nat.le_refl _) (.cells #[.slice A t.length c] 24))
  clear h
  by_cases h40 : 40 < t.length
  · have d1 : decide ((40 : Int) < (t.length : Int)) = true := decide_eq_true (by omega)
    have HL : Hid (lightT t = 1) := Lib.hid (if_pos h40)
    go_enter Tryd.func9, Tryd.ntmps9
    go_wp2_with fail
    go_ret
    exact ⟨by rw [HL.out]; rfl, HBA.out⟩
  have d1 : decide ((40 : Int) < (t.length : Int)) = false := decide_eq_false (by omega)
  have HL : Hid (lightT t = sumLt t) := Lib.hid (if_neg h40)
  go_enter Tryd.func9, Tryd.ntmps9
  go_wp2_with fail
  generalize w.alloc _ = W at HBA ⊢
  go_loopw [3, 5, 13] (fun v3 _ v13 wr => ∃ jx : Nat, jx ≤ t.length ∧ v13 = .int .i64 jx ∧ v3 = .int .i64 (sumLt (t.take jx)) ∧ Hid (Below w.heap.size w wr)) (fun _ _ v13 _ => t.length - (RowKit.intOf v13).toNat)
  case atStart => exact ⟨0, Nat.zero_le _, rfl, by simp [sumLt], HBA⟩
  case round =>
    obtain ⟨jx, hj, rfl, rfl, HB⟩ := hrel
    by_cases hj1 : jx < t.length
    · have d2 : decide ((jx : Int) < (t.length : Int)) = true := decide_eq_true (by omega)
      have HT := Lib.hid (sumLt_take hj1)
      have hle := sumLt_le (t.take jx)
      rw [List.length_take] at hle
      obtain ⟨B, o, rfl, hBs, hc, hn⟩ := (HH.out.below HB.out).node hj1
      rw [at_lt hj1] at hc hn
      generalize sumLt (t.take jx) = S at HT hle ⊢
      generalize t[jx] = n at hc hn HT
      obtain ⟨c0, c1, c2, c3, c4⟩ := hc
      obtain ⟨⟨RA, RB, rc, rd⟩, hr⟩ : ∃ a, a = r jx := ⟨_, rfl⟩
      rw [← hr] at c3 c4 hn
      have hlx := lightN_01 n
      have HBW := Lib.hid (HB.out.alloc HB.out.size (.cells #[.int .i64 n.k, .int .i64 n.l, .int .i64 n.z, .slice RA n.sq.length rc, .slice RB n.en.length rd] 32))
      have HC := Lib.hid (fun w1 (hw : NLies w1 n RA RB rc rd) => lightN_any n RA RB rc rd w1 hw)
      have HN := Lib.hid (hn.below ((Below.refl _ _).alloc (Nat.le_refl _) (.cells #[.int .i64 n.k, .int .i64 n.l, .int .i64 n.z, .slice RA n.sq.length rc, .slice RB n.en.length rd] 32)))
      generalize lightN n = x at HT hlx HC
      have hw : IntKind.i64.wrap (S + x) = S + x := i64w_idE _ (by omega)
      clear hn hr
      go_wp2_with (first
        | (go_at_call 25; (with_reducible refine (HC.out _ HN.out).mono ?_); rintro e w2 ⟨rfl, hb2⟩; have HB2 := Lib.hid (HBW.out.trans (hb2.mono HBW.out.size)); clear hb2)
        | fail)
      go_roundw
      case rel => exact ⟨jx + 1, by omega, by go_num, by rw [HT.out], HB2⟩
      case measure => simp [RowKit.intOf]; omega
    · have d2 : decide ((jx : Int) < (t.length : Int)) = false := decide_eq_false (by omega)
      have HE : Hid (sumLt (t.take jx) = sumLt t) := Lib.hid (by rw [List.take_of_length_le (by omega)])
      go_wp2_with fail
      go_ret
      exact ⟨by rw [HL.out, ← HE.out]; rfl, HB.out⟩
theorem namedT_le (i : Int) : ∀ t : List Nd, namedT i t ≤ namesT t
  | [] => Nat.le_refl _
  | n :: t => by
    have := namedT_le i t
    have := cntE_le i n.en
    rw [namedT, namesT]; omega
theorem namesT_le : ∀ t : List Nd, (∀ n ∈ t, n.en.length ≤ 60) → namesT t ≤ 60 * t.length
  | [], _ => Nat.le_refl _
  | n :: t, h => by
    have := namesT_le t (fun x hx => h x (by simp [hx]))
    have := h n (by simp)
    rw [namesT, List.length_cons]; omega
set_option maxRecDepth 100000 in
set_option maxHeartbeats 4000000 in
theorem namedr_any (t : List Nd) (A : Option Addr) (c : Nat) (r : Nat → NAddr) (i : Int) (w : World) (h : TLies w A c t r) (h40 : t.length ≤ 40) (h60 : ∀ n ∈ t, n.en.length ≤ 60) : Calls Tryd.prog 22 #[.agg #[.slice A t.length c], .int .i64 i] w fun x w' => x = .returned (.int .i64 (namedT i t : Nat)) ∧ Below w.heap.size w w' := by
  have HH := Lib.hid h
  have HBA := Lib.hid ((Below.refl w.heap.size w).alloc (Nat.le_refl _) (.cells #[.slice A t.length c] 24))
  have H60 := Lib.hid h60
  clear h h60
  go_enter Tryd.func22, Tryd.ntmps22
  go_wp2_with fail
  generalize w.alloc _ = W at HBA ⊢
  go_loopw [5, 7, 9, 13] (fun v5 _ _ v13 wr => ∃ jx : Nat, jx ≤ t.length ∧ v13 = .int .i64 jx ∧ v5 = .int .i64 (namedT i (t.take jx) : Nat) ∧ Hid (Below w.heap.size w wr)) (fun _ _ _ v13 _ => t.length - (RowKit.intOf v13).toNat)
  case atStart => exact ⟨0, Nat.zero_le _, rfl, by simp [namedT], HBA⟩
  case round =>
    obtain ⟨jx, hj, rfl, rfl, HB⟩ := hrel
    by_cases hj1 : jx < t.length
    · have d2 : decide ((jx : Int) < (t.length : Int)) = true := decide_eq_true (by omega)
      have HT := Lib.hid (namedT_take (i := i) hj1)
      have hle : namedT i (t.take jx) ≤ 2400 := by
        have h1 := namedT_le i (t.take jx)
        have h2 := namesT_le (t.take jx) (fun n hn => H60.out n (List.mem_of_mem_take hn))
        rw [List.length_take] at h2
        omega
      obtain ⟨B, o, rfl, hBs, hc, hn⟩ := (HH.out.below HB.out).node hj1
      have h6 := H60.out _ (at_mem hj1)
      rw [at_lt hj1] at hc hn h6
      generalize namedT i (t.take jx) = S at HT hle ⊢
      generalize t[jx] = n at hc hn HT h6
      obtain ⟨c0, c1, c2, c3, c4⟩ := hc
      obtain ⟨⟨RA, RB, rc, rd⟩, hr⟩ : ∃ a, a = r jx := ⟨_, rfl⟩
      rw [← hr] at c3 c4 hn
      have HBW := Lib.hid (HB.out.alloc HB.out.size (.cells #[.int .i64 n.k, .int .i64 n.l, .int .i64 n.z, .slice RA n.sq.length rc, .slice RB n.en.length rd] 32))
      have HN := Lib.hid (hn.below ((Below.refl _ _).alloc (Nat.le_refl _) (.cells #[.int .i64 n.k, .int .i64 n.l, .int .i64 n.z, .slice RA n.sq.length rc, .slice RB n.en.length rd] 32)))
      clear hn hr
      go_wp2_with fail
      generalize wr.alloc _ = W2 at HBW HN ⊢
      go_loopw [5, 9, 20] (fun v5 _ v20 wr2 => ∃ jy : Nat, jy ≤ n.en.length ∧ v20 = .int .i64 jy ∧ v5 = .int .i64 ((S + cntE i (n.en.take jy) : Nat) : Int) ∧ Hid (Below w.heap.size w wr2) ∧ Hid (Below W2.heap.size W2 wr2)) (fun _ _ v20 _ => n.en.length - (RowKit.intOf v20).toNat)
      case atStart => exact ⟨0, Nat.zero_le _, rfl, by simp [cntE], HBW, Lib.hid (Below.refl _ _)⟩
      case round =>
        obtain ⟨jy, hjy, rfl, rfl, HB3, HB4⟩ := hrel
        by_cases hj2 : jy < n.en.length
        · have d3 : decide ((jy : Int) < (n.en.length : Int)) = true := decide_eq_true (by omega)
          have HT2 := Lib.hid (cntE_take (i := i) hj2)
          have hl2 := cntE_le i (n.en.take jy)
          rw [List.length_take] at hl2
          obtain ⟨B2, o2, rfl, hB2, hcc⟩ := (HN.out.below HB4.out).en (by omega)
          obtain ⟨k0, k1⟩ := hcc jy hj2
          generalize n.en[jy] = e at k0 k1 HT2
          obtain ⟨s, m⟩ := e
          generalize cntE i (n.en.take jy) = S2 at HT2 hl2 ⊢
          have HB5 := Lib.hid (HB3.out.alloc HB3.out.size (.cells #[.string s, .int .i64 m] 34))
          have HB6 := Lib.hid (HB4.out.alloc HB4.out.size (.cells #[.string s, .int .i64 m] 34))
          clear hcc
          by_cases g : m = i
          · have b1 : (m == i) = true := by simp [g]
            have hw : IntKind.i64.wrap (((S + S2 : Nat) : Int) + 1) = ((S + (S2 + 1) : Nat) : Int) := by rw [i64w_idE _ (by omega)]; omega
            have G := Lib.hid g
            clear g
            go_wp2_with fail
            go_roundw
            case rel => exact ⟨jy + 1, by omega, by go_num, by rw [HT2.out, if_pos G.out]; congr 1, HB5, HB6⟩
            case measure => simp [RowKit.intOf]; omega
          · have b1 : (m == i) = false := by simp [g]
            have G := Lib.hid g
            clear g
            go_wp2_with fail
            go_roundw
            case rel => exact ⟨jy + 1, by omega, by go_num, by rw [HT2.out, if_neg G.out]; rfl, HB5, HB6⟩
            case measure => simp [RowKit.intOf]; omega
        · have d3 : decide ((jy : Int) < (n.en.length : Int)) = false := decide_eq_false (by omega)
          have HE : Hid (cntE i (n.en.take jy) = cntE i n.en) := Lib.hid (by rw [List.take_of_length_le (by omega)])
          go_wp2_with fail
          go_roundw
          case rel => exact ⟨jx + 1, by omega, by go_num, by rw [HT.out, ← HE.out], HB3⟩
          case measure => simp [RowKit.intOf]; omega
    · have d2 : decide ((jx : Int) < (t.length : Int)) = false := decide_eq_false (by omega)
      have HE : Hid (namedT i (t.take jx) = namedT i t) := Lib.hid (by rw [List.take_of_length_le (by omega)])
      go_wp2_with fail
      go_ret
      exact ⟨by rw [← HE.out]; rfl, HB.out⟩
end Go.Proofs.YtfboilbmehcgoaaDoor

/- The reference's reached. -/
namespace Go.Proofs.YtfboilbmehcgoaaDoor
open Go.RowKit Go.Lib

theorem info_bool : (Tryd.prog.info? 4).map (fun i => (i.zero, i.size, i.bytes)) = some (some (.bool false), 1, 1) := by kernel_rfl
theorem made_bools (n : Nat) : madeCells #[Value.bool false] n = ((List.replicate n false).map Value.bool).toArray := by
  apply Array.ext
  · simp [madeCells]
  · intro i h1 h2
    simp [madeCells, Nat.mod_one]
theorem make_bools (n : Nat) (h : n ≤ 1000000) (w : World) : (Instr.makeSlice 57 (.int .i64 n) (.int .i64 n)).run Tryd.prog w = .ok (.slice (some ⟨w.heap.size, 0, none⟩) n n) (w.alloc (.cells (madeCells #[Value.bool false] n) 4)) :=
  run_make_row' 57 4 (.bool false) 1 Tryd.underlying57 info_bool rfl .i64 .i64 n (by omega) (by omega) w
/-- A row of bools, a block of its own. -/
abbrev BRow (w : World) (g : Nat) (o : List Bool) : Prop := w.heap[g]? = some (.cells (o.map Value.bool).toArray 4 (0, 0))
theorem brow_set {w : World} {g : Nat} {o : List Bool} (h : BRow w g o) (k : Nat) (v : Bool) : BRow (w.setCell ⟨g, k, none⟩ (.bool v)) g (o.set k v) := by
  unfold BRow
  rw [heap_setCell_same w g k _ _ _ h]
  simp [List.map_set]
theorem brow_at {w : World} {g : Nat} {o : List Bool} (h : BRow w g o) {k : Nat} (hk : k < o.length) : w.cell? ⟨g, k, none⟩ = some (.bool (o.getD k false)) ∧ w.frozen? ⟨g, k, none⟩ = false := by
  unfold BRow at h
  have e : o.getD k false = o[k] := by rw [List.getD_eq_getElem?_getD, List.getElem?_eq_getElem hk]; rfl
  rw [e]
  exact ⟨by simp [World.cell?, h, hk], by simp [World.frozen?, h]⟩
theorem brow_below {w w' : World} {g : Nat} {o : List Bool} (h : BRow w g o) (hb : Below w.heap.size w w') : BRow w' g o := (hb.block g (lt_size h)).trans h
theorem markEs_take {t : List Nd} {o : List Bool} {l : List Ent} {j : Nat} (h : j < l.length) : (l.take (j + 1)).foldl (markE t) o = markE t ((l.take j).foldl (markE t) o) l[j] := by
  rw [List.take_succ_eq_append_getElem h, List.foldl_append]; rfl
/-- What a call that tells bools answers: a row of its own. -/
def BPost (w : World) (o : List Bool) (e : Ending) (w' : World) : Prop :=
  ∃ g, e = .returned (.slice (some ⟨g, 0, none⟩) o.length o.length) ∧ BRow w' g o ∧ w.heap.size ≤ g ∧ Below w.heap.size w w'
set_option maxRecDepth 100000 in
set_option maxHeartbeats 8000000 in
theorem reached_any (t : List Nd) (A : Option Addr) (c : Nat) (r : Nat → NAddr) (a : Int) (w : World) (h : TLies w A c t r) (h40 : t.length ≤ 40) : Calls Tryd.prog 36 #[.agg #[.slice A t.length c], .int .i64 a] w (BPost w (reachF t a)) := by
  have HH := Lib.hid h
  clear h
  have hmk := fun w1 : World => make_bools t.length (by omega) w1
  go_enter Tryd.func36, Tryd.ntmps36
  go_upto_region 2 with (fail)
  obtain ⟨W, hW⟩ : ∃ X, X = w.alloc (.cells #[.slice A t.length c] 24) := ⟨_, rfl⟩
  obtain ⟨P, hP⟩ : ∃ p, p = w.heap.size := ⟨_, rfl⟩
  have hWz : W.heap.size = P + 1 := by rw [hW, hP]; simp
  rw [← hW, ← hP]
  have HWX : Hid (W.cell? ⟨P, 0, none⟩ = some (.slice A t.length c)) := Lib.hid (by rw [hW, hP]; exact tree_box w _)
  have HBA : Hid (Below w.heap.size w W) := Lib.hid (by rw [hW]; exact (Below.refl _ _).alloc (Nat.le_refl _) _)
  have HPw : Hid (w.heap.size = P) := Lib.hid hP.symm
  clear hW hP
  obtain ⟨V, hV⟩ : ∃ X, X = W.alloc (.cells (madeCells #[Value.bool false] t.length) 4) := ⟨_, rfl⟩
  obtain ⟨g, hg⟩ : ∃ g, g = W.heap.size := ⟨_, rfl⟩
  rw [← hV]
  first | rw [← hWz] | skip
  rw [← hg]
  have hgr : BRow V g (List.replicate t.length false) := by rw [hV, hg, made_bools]; exact heap_alloc_new _ _
  have HGR := Lib.hid hgr
  have HBV : Hid (Below W.heap.size W V) := Lib.hid (by rw [hV]; exact (Below.refl _ _).alloc (Nat.le_refl _) _)
  have HGW : Hid (W.heap.size = g) := Lib.hid hg.symm
  have HPP : Hid (P < W.heap.size) := Lib.hid (by omega)
  have HPX : Hid (∀ w1, Below W.heap.size W w1 → w1.cell? ⟨P, 0, none⟩ = some (.slice A t.length c)) := Lib.hid fun w1 hb => (hb.cell (p := ⟨P, 0, none⟩) HPP.out).trans HWX.out
  have HTL : Hid (∀ w1, Below W.heap.size W w1 → TLies w1 A c t r) := Lib.hid fun w1 hb => (HH.out.below HBA.out).below hb
  have q0 := HPX.out V HBV.out
  clear hV hg hWz hgr hmk
  have HEnd : Hid (∀ w1 o, BRow w1 g o → o.length = t.length → Below W.heap.size W w1 → o = reachF t a → BPost w (reachF t a) (.returned (.slice (some ⟨g, 0, none⟩) t.length t.length)) w1) := Lib.hid fun w1 o h1 h2 h3 h4 => by
    subst h4
    exact ⟨g, by rw [h2], h1, by have := HGW.out; have := HPw.out; have := HPP.out; omega, HBA.out.trans (h3.mono HBA.out.size)⟩
  by_cases ha0 : a < 0
  · have d1 : decide (a < 0) = true := decide_eq_true ha0
    have HF : Hid (reachF t a = List.replicate t.length false) := Lib.hid (by unfold reachF; rw [if_neg (by omega)])
    clear ha0
    go_wp2_with fail
    go_ret
    exact HEnd.out _ _ HGR.out (by simp) HBV.out HF.out.symm
  have d1 : decide (a < 0) = false := decide_eq_false ha0
  by_cases ha1 : (t.length : Int) ≤ a
  · have d2 : decide ((t.length : Int) ≤ a) = true := decide_eq_true ha1
    have HF : Hid (reachF t a = List.replicate t.length false) := Lib.hid (by unfold reachF; rw [if_neg (by omega)])
    clear ha0 ha1
    go_wp2_with fail
    go_ret
    exact HEnd.out _ _ HGR.out (by simp) HBV.out HF.out.symm
  obtain ⟨ka, rfl⟩ : ∃ ka : Nat, a = (ka : Int) := ⟨a.toNat, by omega⟩
  have hka : ka < t.length := by omega
  have d2 : decide ((t.length : Int) ≤ (ka : Int)) = false := decide_eq_false ha1
  have d2' : decide (t.length ≤ ka) = false := decide_eq_false (by omega)
  obtain ⟨B0, o0, hA0, -, ⟨e0, -, -, -, -⟩, -⟩ := (HTL.out V HBV.out).node hka
  have HKA := Lib.hid hka
  rw [hA0] at q0
  by_cases hk : (at_ t ka).k = 2
  case neg =>
    have b1 : ((at_ t ka).k != 2) = true := by simpa using hk
    have HF : Hid (reachF t (ka : Int) = List.replicate t.length false) := Lib.hid (by unfold reachF; rw [if_neg (fun h => hk (by simpa using h.2.2))])
    generalize (at_ t ka).k = kk at e0 b1
    clear hk ha0 ha1
    go_wp2_with fail
    go_ret
    exact HEnd.out _ _ HGR.out (by simp) HBV.out HF.out.symm
  have HF : Hid (reachF t (ka : Int) = roundJ t (startR t (ka : Int)) t.length) := Lib.hid (by unfold reachF; rw [if_pos ⟨by omega, by omega, by simpa using hk⟩])
  have b1 : ((at_ t ka).k != 2) = false := by rw [hk]; rfl
  obtain ⟨g0, f0⟩ := brow_at HGR.out (show ka < (List.replicate t.length false).length by simpa using hka)
  generalize (at_ t ka).k = kk at e0 b1
  clear hk ha0 ha1
  go_upto_region 5 with (fail)
  obtain ⟨V1, hV1⟩ : ∃ X, X = V.setCell ⟨g, ka, none⟩ (.bool true) := ⟨_, rfl⟩
  rw [← hV1]
  have HG1 : Hid (BRow V1 g (startR t (ka : Int))) := Lib.hid (by rw [hV1]; unfold startR; rw [Int.toNat_natCast]; exact brow_set HGR.out ka true)
  have HB1 : Hid (Below W.heap.size W V1) := Lib.hid (by rw [hV1]; exact HBV.out.setCell (by have := HGW.out; show W.heap.size ≤ g; omega) _)
  have HOL : Hid ((startR t (ka : Int)).length = t.length) := Lib.hid (by simp [startR])
  generalize startR t (ka : Int) = O at HF HG1 HOL
  clear hV1 g0 f0 q0 e0 b1 d1 d2 d2' HGR HBV hA0
  go_wp2_with fail
  go_loopw [6, 7, 9, 37] (fun _ _ _ v37 wr => ∃ rx : Nat, rx ≤ t.length ∧ v37 = .int .i64 rx ∧ Hid (BRow wr g (roundJ t O rx)) ∧ Hid (Below W.heap.size W wr)) (fun _ _ _ v37 _ => t.length - (RowKit.intOf v37).toNat)
  case atStart => exact ⟨0, Nat.zero_le _, rfl, HG1, HB1⟩
  case round =>
    obtain ⟨rx, hj, rfl, HR, HB⟩ := hrel
    by_cases hj1 : rx < t.length
    case neg =>
      have d2 : decide ((rx : Int) < (t.length : Int)) = false := decide_eq_false (by omega)
      have HE : Hid (roundJ t O rx = roundJ t O t.length) := Lib.hid (by rw [show rx = t.length by omega])
      go_wp2_with fail
      go_ret
      exact HEnd.out _ _ HR.out (by rw [roundJ_len]; exact HOL.out) HB.out (HE.out.trans HF.out.symm)
    have d2 : decide ((rx : Int) < (t.length : Int)) = true := decide_eq_true (by omega)
    have HRS : Hid (roundJ t O (rx + 1) = passJ t (roundJ t O rx) t.length) := Lib.hid rfl
    have HOR : Hid ((roundJ t O rx).length = t.length) := Lib.hid (by rw [roundJ_len]; exact HOL.out)
    generalize roundJ t O rx = OR at HR HRS HOR
    have q0 := HPX.out wr HB.out
    go_wp2_with fail
    go_loopw [6, 7, 9, 42] (fun _ _ _ v42 wr => ∃ jx : Nat, jx ≤ t.length ∧ v42 = .int .i64 jx ∧ Hid (BRow wr g (passJ t OR jx)) ∧ Hid (Below W.heap.size W wr)) (fun _ _ _ v42 _ => t.length - (RowKit.intOf v42).toNat)
    case atStart => exact ⟨0, Nat.zero_le _, rfl, HR, HB⟩
    case round =>
      clear HR HB q0
      obtain ⟨jx, hjx, rfl, HR, HB⟩ := hrel
      by_cases hj2 : jx < t.length
      case neg =>
        have d3 : decide ((jx : Int) < (t.length : Int)) = false := decide_eq_false (by omega)
        have HE : Hid (passJ t OR jx = passJ t OR t.length) := Lib.hid (by rw [show jx = t.length by omega])
        go_wp2_with fail
        go_roundw
        case rel => exact ⟨rx + 1, by omega, by go_num, by rw [HRS.out, ← HE.out]; exact HR, HB⟩
        case measure => simp [RowKit.intOf]; omega
      have d3 : decide ((jx : Int) < (t.length : Int)) = true := decide_eq_true (by omega)
      have HJ2 := Lib.hid hj2
      have HPS : Hid (passJ t OR (jx + 1) = if (passJ t OR jx).getD jx false = true then (at_ t jx).en.foldl (markE t) (passJ t OR jx) else passJ t OR jx) := Lib.hid rfl
      have HOJ : Hid ((passJ t OR jx).length = t.length) := Lib.hid (by rw [passJ_len]; exact HOR.out)
      generalize passJ t OR jx = OJ at HR HPS HOJ
      obtain ⟨B, o, hA1, hBs, ⟨c0, c1, c2, c3, c4⟩, hn⟩ := (HTL.out wr HB.out).node hj2
      obtain ⟨⟨RA, RB, rc, rd⟩, hr⟩ : ∃ a, a = r jx := ⟨_, rfl⟩
      rw [← hr] at c3 c4 hn
      have HRJ := Lib.hid hr
      have HEM : Hid (∀ w1, Below W.heap.size W w1 → ELies w1 RB (at_ t jx).en) := Lib.hid fun w1 hb => by
        have := (HTL.out w1 hb).rows HJ2.out
        rw [← HRJ.out] at this
        exact this.en
      have HEL : Hid ((at_ t jx).en.length ≤ maxLen) := Lib.hid hn.em
      have HBW := Lib.hid (HB.out.alloc HB.out.size (.cells #[.int .i64 (at_ t jx).k, .int .i64 (at_ t jx).l, .int .i64 (at_ t jx).z, .slice RA (at_ t jx).sq.length rc, .slice RB (at_ t jx).en.length rd] 32))
      have HGW2 := Lib.hid (brow_below HR.out ((Below.refl _ _).alloc (Nat.le_refl _) (.cells #[.int .i64 (at_ t jx).k, .int .i64 (at_ t jx).l, .int .i64 (at_ t jx).z, .slice RA (at_ t jx).sq.length rc, .slice RB (at_ t jx).en.length rd] 32)))
      obtain ⟨g0, f0⟩ := brow_at HGW2.out (show jx < OJ.length by rw [HOJ.out]; exact hj2)
      have q1 := HPX.out _ HBW.out
      obtain ⟨bit, hbit⟩ : ∃ b, OJ.getD jx false = b := ⟨_, rfl⟩
      rw [hbit] at g0 HPS
      rw [hA1] at q1 ⊢
      clear hn hr hbit
      cases bit with
      | false =>
        go_wp2_with fail
        go_roundw
        case rel => exact ⟨jx + 1, by omega, by go_num, by rw [HPS.out]; exact HGW2, HBW⟩
        case measure => simp [RowKit.intOf]; omega
      | true =>
        generalize hL : (at_ t jx).en = L at HEM HEL HPS HBW HGW2 q1 g0 f0 c4
        have hLm := HEL.out
        have hmx : maxLen = 9223372036854775807 := rfl
        clear hL
        go_wp2_with fail
        go_loopw [9, 55] (fun _ v55 wr => ∃ ky : Nat, ky ≤ L.length ∧ v55 = .int .i64 ky ∧ Hid (BRow wr g ((L.take ky).foldl (markE t) OJ)) ∧ Hid (Below W.heap.size W wr)) (fun _ v55 _ => L.length - (RowKit.intOf v55).toNat)
        case atStart => exact ⟨0, Nat.zero_le _, rfl, HGW2, HBW⟩
        case round =>
          clear HR HB HGW2 HBW q1 g0 f0 c0 c1 c2 c3 c4
          obtain ⟨ky, hky, rfl, HR, HB⟩ := hrel
          by_cases hj3 : ky < L.length
          case neg =>
            have d4 : decide ((ky : Int) < (L.length : Int)) = false := decide_eq_false (by omega)
            have HE : Hid ((L.take ky).foldl (markE t) OJ = L.foldl (markE t) OJ) := Lib.hid (by rw [List.take_of_length_le (by omega)])
            go_wp2_with fail
            go_roundw
            case rel => exact ⟨jx + 1, by omega, by go_num, by rw [HPS.out, if_pos (by trivial), ← HE.out]; exact HR, HB⟩
            case measure => simp [RowKit.intOf]; omega
          have d4 : decide ((ky : Int) < (L.length : Int)) = true := decide_eq_true (by omega)
          have HMT := Lib.hid (markEs_take (t := t) (o := OJ) hj3)
          have HOK : Hid (((L.take ky).foldl (markE t) OJ).length = t.length) := Lib.hid (by rw [markEs_len]; exact HOJ.out)
          generalize (L.take ky).foldl (markE t) OJ = OK at HR HMT HOK
          obtain ⟨B2, o2, rfl, hB2, hcc⟩ := (HEM.out wr HB.out) (by omega)
          obtain ⟨k0, k1⟩ := hcc ky hj3
          generalize L[ky] = e at k0 k1 HMT
          obtain ⟨s, m⟩ := e
          have HB5 := Lib.hid (HB.out.alloc HB.out.size (.cells #[.string s, .int .i64 m] 34))
          have HR5 := Lib.hid (brow_below HR.out ((Below.refl _ _).alloc (Nat.le_refl _) (.cells #[.string s, .int .i64 m] 34)))
          have q2 := HPX.out _ HB5.out
          rw [hA1] at q2
          clear hcc
          by_cases m0 : 0 ≤ m
          case neg =>
            have x1 : decide (0 ≤ m) = false := decide_eq_false m0
            have HNO : Hid (markE t OK (s, m) = OK) := Lib.hid (by unfold markE okDir; dsimp only; rw [x1]; rfl)
            clear m0
            go_wp2_with fail
            go_roundw
            case rel => exact ⟨ky + 1, by omega, by go_num, by rw [HMT.out, HNO.out]; exact HR5, HB5⟩
            case measure => simp [RowKit.intOf]; omega
          have x1 : decide (0 ≤ m) = true := decide_eq_true m0
          by_cases m1 : m < (t.length : Int)
          case neg =>
            have x2 : decide (m < (t.length : Int)) = false := decide_eq_false m1
            have HNO : Hid (markE t OK (s, m) = OK) := Lib.hid (by unfold markE okDir; dsimp only; rw [HOK.out, x2]; simp)
            clear m0 m1
            go_wp2_with fail
            go_roundw
            case rel => exact ⟨ky + 1, by omega, by go_num, by rw [HMT.out, HNO.out]; exact HR5, HB5⟩
            case measure => simp [RowKit.intOf]; omega
          obtain ⟨km, rfl⟩ : ∃ km : Nat, m = (km : Int) := ⟨m.toNat, by omega⟩
          have hkm : km < t.length := by omega
          have x2 : decide ((km : Int) < (t.length : Int)) = true := decide_eq_true m1
          obtain ⟨B3, o3, hA3, hB3, ⟨e0, -, -, -, -⟩, -⟩ := (HTL.out _ HB5.out).node hkm
          rw [hA1] at hA3
          obtain ⟨rfl, rfl⟩ : B3 = B ∧ o3 = o := by simpa [eq_comm] using hA3
          clear hA3 m0 m1
          by_cases m2 : (at_ t km).k = 2
          case neg =>
            have x3 : ((at_ t km).k == 2) = false := by simpa using m2
            have HNO : Hid (markE t OK (s, (km : Int)) = OK) := Lib.hid (by unfold markE okDir; dsimp only; rw [Int.toNat_natCast, decide_eq_false m2]; simp)
            generalize (at_ t km).k = kk at e0 x3
            clear m2
            go_wp2_with fail
            go_roundw
            case rel => exact ⟨ky + 1, by omega, by go_num, by rw [HMT.out, HNO.out]; exact HR5, HB5⟩
            case measure => simp [RowKit.intOf]; omega
          · have x3 : ((at_ t km).k == 2) = true := by simpa using m2
            have HYE : Hid (markE t OK (s, (km : Int)) = OK.set km true) := Lib.hid (by unfold markE okDir; dsimp only; rw [Int.toNat_natCast, decide_eq_true m2, HOK.out, x2, x1]; rfl)
            obtain ⟨g5, f5⟩ := brow_at HR5.out (show km < OK.length by rw [HOK.out]; exact hkm)
            generalize (at_ t km).k = kk at e0 x3
            clear m2
            go_wp2_with fail
            go_roundw
            case rel => exact ⟨ky + 1, by omega, by go_num, by rw [HMT.out, HYE.out]; exact Lib.hid (brow_set HR5.out km true), Lib.hid (HB5.out.setCell (by have := HGW.out; show W.heap.size ≤ g; omega) _)⟩
            case measure => simp [RowKit.intOf]; omega
end Go.Proofs.YtfboilbmehcgoaaDoor

/- What the walk of MayTree hands on: which trees may not be, and why; the map of Seqs. -/
namespace Go.Proofs.YtfboilbmehcgoaaDoor
open Go.RowKit Go.Lib Go.Maps

theorem noTw_left {l m : List Int} (h : noTw (l ++ m) = true) : noTw l = true := by
  unfold noTw at *
  have h := of_decide_eq_true h
  rw [List.filter_append] at h
  exact decide_eq_true (List.nodup_append.1 h).1
theorem noTw_zero {l : List Int} {s : Int} (h : s = 0) (hl : noTw l = true) : noTw (l ++ [s]) = true := by
  subst h
  unfold noTw at *
  rw [List.filter_append]
  simpa using hl
theorem noTw_new {l : List Int} {s : Int} (hs : s ∉ l) (hl : noTw l = true) : noTw (l ++ [s]) = true := by
  by_cases h : s = 0
  · exact noTw_zero h hl
  · unfold noTw at *
    have hl := of_decide_eq_true hl
    rw [List.filter_append]
    refine decide_eq_true (List.nodup_append.2 ⟨hl, by simp [h], fun a ha b hb => ?_⟩)
    simp [h] at hb
    subst hb
    exact fun e => hs (by rw [← e]; exact (List.mem_filter.1 ha).1)
theorem noTw_bad {l : List Int} {s : Int} (h : s ≠ 0) (hs : s ∈ l) : noTw (l ++ [s]) = false := by
  cases e : noTw (l ++ [s]) with
  | false => rfl
  | true =>
    unfold noTw at e
    have e := of_decide_eq_true e
    rw [List.filter_append] at e
    exact absurd rfl ((List.nodup_append.1 e).2.2 s (List.mem_filter.2 ⟨hs, by simpa using h⟩) s (by simp [h]))
theorem allSeq_app (l m : List Nd) : allSeq (l ++ m) = allSeq l ++ allSeq m := by
  unfold allSeq; exact List.flatMap_append
theorem allSeq_one (n : Nd) : allSeq [n] = n.sq := by simp [allSeq]
theorem allSeq_take {t : List Nd} {j : Nat} (h : j < t.length) : allSeq (t.take (j + 1)) = allSeq (t.take j) ++ (at_ t j).sq := by
  rw [List.take_succ_eq_append_getElem h, at_lt h, allSeq_app, allSeq_one]
theorem allSeq_pre {t : List Nd} {j k : Nat} (h : j < t.length) : ∃ m, allSeq t = (allSeq (t.take j) ++ (at_ t j).sq.take k) ++ m := by
  refine ⟨(at_ t j).sq.drop k ++ allSeq (t.drop (j + 1)), ?_⟩
  have e : allSeq t = allSeq (t.take (j + 1)) ++ allSeq (t.drop (j + 1)) := by rw [← allSeq_app, List.take_append_drop]
  rw [e, allSeq_take h, List.append_assoc, List.append_assoc, ← List.append_assoc ((at_ t j).sq.take k), List.take_append_drop]
theorem may_not {t : List Nd} (h : MayT t → False) : mayT t = false := by
  cases e : mayT t with
  | false => rfl
  | true => exact absurd (mayT_iff.1 e) h
theorem may_len5 {n : Nd} (h : mayNd n = true) : n.sq.length ≤ 5 := by
  unfold mayNd at h
  split at h
  · simp only [Bool.and_eq_true, decide_eq_true_eq] at h
    omega
  · split at h
    · simp only [Bool.and_eq_true, decide_eq_true_eq] at h
      omega
    · split at h
      · have := (mayFl_at h).2.2.2.2.1
        omega
      · cases h
theorem may_ents {n : Nd} (h : mayNd n = true) : n.en.length ≤ 10 ∧ ∀ e ∈ n.en, 1 ≤ e.2 ∧ e.2 ≤ 11 := by
  unfold mayNd at h
  split at h
  · simp only [Bool.and_eq_true, decide_eq_true_eq] at h
    have : n.en = [] := List.eq_nil_of_length_eq_zero h.2.2.2
    rw [this]; simp
  · split at h
    · simp only [Bool.and_eq_true, decide_eq_true_eq] at h
      obtain ⟨h1, h2, _⟩ := mayEs_iff.1 h.2.2.2
      refine ⟨h1, fun e he => ?_⟩
      have := h2 e he
      unfold mayE at this
      simp only [Bool.and_eq_true, decide_eq_true_eq] at this
      omega
    · split at h
      · have := (mayFl_at h).2.2.2.2.2.1
        have : n.en = [] := List.eq_nil_of_length_eq_zero this
        rw [this]; simp
      · cases h
theorem may_seqs {n : Nd} (h : mayNd n = true) {s : Int} (hs : s ∈ n.sq) : 0 ≤ s ∧ s ≤ 1099511627776 := by
  unfold mayNd at h
  split at h
  · simp only [Bool.and_eq_true, decide_eq_true_eq] at h
    rw [List.eq_nil_of_length_eq_zero h.2.2.1] at hs; cases hs
  · split at h
    · simp only [Bool.and_eq_true, decide_eq_true_eq] at h
      rw [List.eq_nil_of_length_eq_zero h.2.2.1] at hs; cases hs
    · split at h
      · obtain ⟨i, hi, rfl⟩ := List.getElem_of_mem hs
        have := maySq_at ((mayFl_at h).2.2.2.2.2.2 i hi)
        exact ⟨this.1, this.2.1⟩
      · cases h
theorem mayT_mk {t : List Nd} (h1 : t.length = 12) (h2 : (at_ t 0).k = 2) (h3 : ∀ i, i < t.length → mayNd (at_ t i) = true ∧ entsOk t (at_ t i).en = true) (h4 : noTw (allSeq t) = true) (h5 : ∀ i, i < t.length → dirOk t i = true) : mayT t = true := by
  unfold mayT
  simp only [Bool.and_eq_true, decide_eq_true_eq, List.all_eq_true, List.mem_range]
  refine ⟨h1, h2, fun n hn => ?_, h4, h5⟩
  obtain ⟨i, hi, rfl⟩ := mem_at hn
  unfold nodeOk
  rw [Bool.and_eq_true]
  exact h3 i hi
theorem mayT_dir {t : List Nd} (h : mayT t = true) {i : Nat} (hi : i < t.length) : dirOk t i = true := by
  unfold mayT at h
  simp only [Bool.and_eq_true, decide_eq_true_eq, List.all_eq_true, List.mem_range] at h
  exact h.2.2.2.2 i hi
theorem snkeyed : Keyed Tryd.prog 3 := int_keyed Tryd.underlying3
theorem snkey {a : Int} (h : (Lit.int .i64 a).wf = true) : keyOf Tryd.prog 3 (.int .i64 a) = some (.int .i64 a) := keyOf_int_mk Tryd.underlying3 h
theorem snzero (w : World) : (zeroValue 3).run Tryd.prog w = .ok (.int .i64 0) w := by kernel_rfl
/-- What the map says: 1 of those of L, else nought. -/
structure Sn (w : World) (b n : Nat) (L : List Int) : Prop where
  own : ∃ D : DataW Unit, w.ownsMap Tryd.prog 3 (plainElem Tryd.prog 3) b n D ∧ ∀ k : Int, D.atKey (.int .i64 k) (.lit (.int .i64 0)) = .lit (.int .i64 (if k ∈ L then 1 else 0))
theorem sn_empty (w : World) : Sn (w.alloc (.map #[] 0)) w.heap.size 0 [] := ⟨_, World.ownsMap_made _ _ _ _, fun k => by simp [DataW.atKey]⟩
theorem Sn.below {w w' : World} {b n : Nat} {L : List Int} (h : Sn w b n L) (hb : Below w.heap.size w w') : Sn w' b n L := by
  obtain ⟨D, h1, h2⟩ := h.own
  obtain ⟨es, clock, he, rest⟩ := h1
  exact ⟨D, ⟨es, clock, (hb.block b (Array.getElem?_eq_some_iff.1 he).1).trans he, rest⟩, h2⟩
theorem sn_put {L : List Int} {D : DataW Unit} (hm : IsMap D) (h : ∀ k : Int, D.atKey (.int .i64 k) (.lit (.int .i64 0)) = .lit (.int .i64 (if k ∈ L then 1 else 0))) {s : Int} (hs : (Lit.int .i64 s).wf = true) (k : Int) :
    (D.put (.int .i64 s) (.lit (.int .i64 1))).atKey (.int .i64 k) (.lit (.int .i64 0)) = .lit (.int .i64 (if k ∈ L ++ [s] then 1 else 0)) := by
  by_cases e : k = s
  · subst e
    rw [atKey_put_same hm (snkeyed.key (snkey hs))]
    simp
  · rw [atKey_put_other (by simpa using e), h k]
    simp [e]
end Go.Proofs.YtfboilbmehcgoaaDoor

/- The reference's MayTree (written by mktrd.py). -/
namespace Go.Proofs.YtfboilbmehcgoaaDoor
open Go.RowKit Go.Lib Go.Maps

set_option maxRecDepth 100000 in
set_option maxHeartbeats 8000000 in
theorem mayTr_any (t : List Nd) (A : Option Addr) (c : Nat) (r : Nat → NAddr) (w : World) (h : TLies w A c t r) : Calls Tryd.prog 15 #[.agg #[.slice A t.length c]] w fun x w' => x = .returned (.bool (mayT t)) ∧ Below w.heap.size w w' := by
  have hmx : maxLen = 9223372036854775807 := rfl
  have hsm := h.sm
  have HH := Lib.hid h
  have HBA := Lib.hid ((Below.refl w.heap.size w).alloc (Nat.le_refl _) (.cells #[.slice A t.length c] 24))
  clear h
  obtain ⟨R, hR⟩ : ∃ R, mayT t = R := ⟨_, rfl⟩
  rw [hR]
  have HR := Lib.hid hR
  clear hR
  by_cases h12 : t.length = 12
  case neg =>
    have d1 : ((t.length : Int) != 12) = true := by rw [bne_iff_ne]; omega
    have HF : Hid (R = false) := Lib.hid (by rw [← HR.out]; exact may_not fun h => h12 h.len)
    clear h12
    go_enter Tryd.func15, Tryd.ntmps15
    go_wp2_with fail
    go_ret
    exact ⟨by rw [HF.out]; rfl, HBA.out⟩
  have d1 : ((t.length : Int) != 12) = false := by rw [bne_eq_false_iff_eq]; omega
  have H12 := Lib.hid h12
  obtain ⟨B, o, rfl, hBs, ⟨e0, -, -, -, -⟩, -⟩ := (HH.out.below HBA.out).node (show 0 < t.length by omega)
  have e0' : (w.alloc (.cells #[.slice (some ⟨B, o, none⟩) t.length c] 24)).cell? ⟨B, o, none⟩ = some (.int .i64 (at_ t 0).k) := by simpa using e0
  have h0t : 0 < t.length := by omega
  by_cases hk0 : (at_ t 0).k = 2
  case neg =>
    have b1 : ((at_ t 0).k != 2) = true := by simpa using hk0
    have HF : Hid (R = false) := Lib.hid (by rw [← HR.out]; exact may_not fun h => hk0 h.root)
    generalize (at_ t 0).k = kk at e0 e0' b1
    clear hk0 h12
    go_enter Tryd.func15, Tryd.ntmps15
    go_wp2_with fail
    go_ret
    exact ⟨by rw [HF.out]; rfl, HBA.out⟩
  have b1 : ((at_ t 0).k != 2) = false := by rw [hk0]; rfl
  have HK0 := Lib.hid hk0
  generalize (at_ t 0).k = kk at e0 e0' b1
  clear hk0 h12
  have hmm := @run_makeMap Tryd.prog
  go_enter Tryd.func15, Tryd.ntmps15
  go_upto_region 4 with (fail)
  obtain ⟨W, hW⟩ : ∃ X, X = w.alloc (.cells #[.slice (some ⟨B, o, none⟩) t.length c] 24) := ⟨_, rfl⟩
  obtain ⟨P, hP⟩ : ∃ p, p = w.heap.size := ⟨_, rfl⟩
  have hWz : W.heap.size = P + 1 := by rw [hW, hP]; simp
  rw [← hW, ← hP]
  have HWX : Hid (W.cell? ⟨P, 0, none⟩ = some (.slice (some ⟨B, o, none⟩) t.length c)) := Lib.hid (by rw [hW, hP]; exact tree_box w _)
  rw [← hW] at HBA
  have HPw : Hid (w.heap.size = P) := Lib.hid hP.symm
  clear hW hP e0 e0' b1 hBs
  obtain ⟨V, hV⟩ : ∃ X, X = W.alloc (.map #[] 0) := ⟨_, rfl⟩
  obtain ⟨b, hb⟩ : ∃ g, g = W.heap.size := ⟨_, rfl⟩
  rw [← hV]
  first | rw [← hWz] | skip
  rw [← hb]
  have HS0 : Hid (Sn V b 0 []) := Lib.hid (by rw [hV, hb]; exact sn_empty W)
  have HBV : Hid (Below W.heap.size W V) := Lib.hid (by rw [hV]; exact (Below.refl _ _).alloc (Nat.le_refl _) _)
  have HGW : Hid (W.heap.size = b) := Lib.hid hb.symm
  have HPP : Hid (P < W.heap.size) := Lib.hid (by omega)
  have HPX : Hid (∀ w1, Below W.heap.size W w1 → w1.cell? ⟨P, 0, none⟩ = some (.slice (some ⟨B, o, none⟩) t.length c)) := Lib.hid fun w1 hb => (hb.cell (p := ⟨P, 0, none⟩) HPP.out).trans HWX.out
  have HTL : Hid (∀ w1, Below W.heap.size W w1 → TLies w1 (some ⟨B, o, none⟩) c t r) := Lib.hid fun w1 hb => (HH.out.below HBA.out).below hb
  have q0 := HPX.out V HBV.out
  clear hV hb hWz hmm
  have ht12 : t.length = 12 := H12.out
  replace ht12 : t.length ≤ 12 := by omega
  have hlow : 12 ≤ t.length := by have := H12.out; omega
  go_wp2_with fail
  go_loopw [5, 7, 9, 30] (fun _ _ _ v30 wr => ∃ jx : Nat, jx ≤ t.length ∧ v30 = .int .i64 jx ∧ Hid (∀ i, i < jx → mayNd (at_ t i) = true ∧ entsOk t (at_ t i).en = true) ∧ Hid (noTw (allSeq (t.take jx)) = true) ∧ Hid (∃ n, n ≤ 5 * jx ∧ Sn wr b n (allSeq (t.take jx))) ∧ Hid (Below W.heap.size W wr)) (fun _ _ _ v30 _ => t.length - (RowKit.intOf v30).toNat)
  case atStart => exact ⟨0, Nat.zero_le _, rfl, Lib.hid fun i h => absurd h (Nat.not_lt_zero i), Lib.hid rfl, Lib.hid ⟨0, Nat.le_refl _, HS0.out⟩, HBV⟩
  case round =>
    clear q0 HS0 HBV
    obtain ⟨jx, hj, rfl, HI, HNT, HSN, HB⟩ := hrel
    by_cases hj1 : jx < t.length
    case neg =>
      have d2 : decide ((jx : Int) < (t.length : Int)) = false := decide_eq_false (by omega)
      have hje : jx = t.length := by omega
      have HI2 : Hid (∀ i, i < t.length → mayNd (at_ t i) = true ∧ entsOk t (at_ t i).en = true) := Lib.hid (by rw [← hje]; exact HI.out)
      have HNT2 : Hid (noTw (allSeq t) = true) := Lib.hid (by have := HNT.out; rwa [hje, List.take_length] at this)
      have q0 := HPX.out wr HB.out
      have HTW := Lib.hid (HTL.out wr HB.out)
      have HRC := Lib.hid (reached_any t (some ⟨B, o, none⟩) c r 0 wr HTW.out (by omega))
      have H60 : Hid (∀ n ∈ t, n.en.length ≤ 60) := Lib.hid fun n hn => by
        obtain ⟨i, hi, rfl⟩ := mem_at hn
        have := (may_ents (HI2.out i hi).1).1
        omega
      have HOL := Lib.hid (reachF_len t 0)
      have HDO : Hid (∀ i, i < t.length → dirOk t i = (if (at_ t i).k = 2 then (reachF t 0).getD i false && (decide (i = 0) || decide (namedT i t = 1)) else if (at_ t i).k = 1 then decide ((at_ t i).l = (namedT i t : Int)) else true)) := Lib.hid fun i _ => rfl
      generalize reachF t 0 = O at HRC HOL HDO
      clear HI HNT HSN hje
      go_wp2_with (first
        | (go_at_call 36; (with_reducible refine HRC.out.mono ?_); rintro e w2 ⟨go, rfl, hgo, -, hb2⟩; rw [HOL.out]; have HGO := Lib.hid hgo; have HB2 := Lib.hid (HB.out.trans (hb2.mono HB.out.size)); have q2 := HPX.out _ HB2.out; clear hgo hb2)
        | fail)
      go_loopw [11, 12, 13, 77] (fun _ _ _ v77 wr => ∃ iy : Nat, iy ≤ t.length ∧ v77 = .int .i64 iy ∧ Hid (∀ i, i < iy → dirOk t i = true) ∧ Hid (BRow wr go O) ∧ Hid (Below W.heap.size W wr)) (fun _ _ _ v77 _ => t.length - (RowKit.intOf v77).toNat)
      case atStart => exact ⟨0, Nat.zero_le _, rfl, Lib.hid fun i h => absurd h (Nat.not_lt_zero i), HGO, HB2⟩
      case round =>
        clear q0 q2 HGO HB2 HB HTW HRC
        obtain ⟨iy, hi, rfl, HD, HGO, HB⟩ := hrel
        by_cases hi1 : iy < t.length
        case neg =>
          have d3 : decide ((iy : Int) < (t.length : Int)) = false := decide_eq_false (by omega)
          have HF : Hid (R = true) := Lib.hid (by
            rw [← HR.out]
            exact mayT_mk H12.out HK0.out HI2.out HNT2.out (fun i hi => HD.out i (by omega)))
          go_wp2_with fail
          go_ret
          exact ⟨by rw [HF.out]; rfl, HBA.out.trans (HB.out.mono HBA.out.size)⟩
        have d3 : decide ((iy : Int) < (t.length : Int)) = true := decide_eq_true (by omega)
        have HFX : Hid (dirOk t iy = false → R = false) := Lib.hid fun h => by
          rw [← HR.out]
          cases e : mayT t with
          | false => rfl
          | true => have := mayT_dir e hi1; rw [h] at this; cases this
        have HDI := HDO.out iy hi1
        obtain ⟨B1, o1, hA1, hB1, ⟨c0, c1, c2, c3, c4⟩, -⟩ := (HTL.out wr HB.out).node hi1
        obtain ⟨rfl, rfl⟩ : B1 = B ∧ o1 = o := by simpa [eq_comm] using hA1
        clear hA1
        obtain ⟨⟨RA, RB, rc, rd⟩, hr⟩ : ∃ a, a = r iy := ⟨_, rfl⟩
        rw [← hr] at c3 c4
        have HNM : Hid (∀ w1, Below W.heap.size W w1 → Calls Tryd.prog 22 #[.agg #[.slice (some ⟨B1, o1, none⟩) t.length c], .int .i64 (iy : Nat)] w1 fun x w' => x = .returned (.int .i64 (namedT (iy : Int) t : Nat)) ∧ Below w1.heap.size w1 w') := Lib.hid fun w1 hb => namedr_any t _ c r (iy : Int) w1 (HTL.out w1 hb) (by omega) H60.out
        generalize namedT (iy : Int) t = K at HNM HDI
        generalize hnn : at_ t iy = n at c0 c1 c2 c3 c4 HDI
        obtain ⟨nk, nl, nz, S, L⟩ := n
        dsimp only at c0 c1 c2 c3 c4 HDI
        have HDH := Lib.hid HDI
        clear HDI hnn hr
        have HBW := Lib.hid (HB.out.alloc HB.out.size (.cells #[.int .i64 nk, .int .i64 nl, .int .i64 nz, .slice RA S.length rc, .slice RB L.length rd] 32))
        have HXW := Lib.hid (heap_alloc_new wr (.cells #[.int .i64 nk, .int .i64 nl, .int .i64 nz, .slice RA S.length rc, .slice RB L.length rd] 32))
        have HGW2 := Lib.hid (brow_below HGO.out ((Below.refl _ _).alloc (Nat.le_refl _) (.cells #[.int .i64 nk, .int .i64 nl, .int .i64 nz, .slice RA S.length rc, .slice RB L.length rd] 32)))
        have q3 := HPX.out _ HBW.out
        go_upto_region 28 with (first
          | (go_at_call 22; (with_reducible refine (HNM.out _ HBW.out).mono ?_); rintro e w3 ⟨rfl, hb3⟩; replace hb3 := Lib.hid hb3)
          | fail)
        have HBR : Hid (BRow w3 go O) := Lib.hid (brow_below HGW2.out hb3.out)
        have HB3 : Hid (Below W.heap.size W w3) := Lib.hid (HBW.out.trans (hb3.out.mono HBW.out.size))
        have hx3 : Hid (w3.heap[wr.heap.size]? = some (.cells #[.int .i64 nk, .int .i64 nl, .int .i64 nz, .slice RA S.length rc, .slice RB L.length rd] 32 (0, 0))) := Lib.hid ((hb3.out.block wr.heap.size (by simp)).trans HXW.out)
        obtain ⟨p, hp⟩ : ∃ p, p = wr.heap.size := ⟨_, rfl⟩
        rw [← hp] at hx3 ⊢
        have u0 : w3.cell? ⟨p, 0, none⟩ = some (.int .i64 nk) := by have := hx3.out; simp [World.cell?, this]
        have u1 : w3.cell? ⟨p, 1, none⟩ = some (.int .i64 nl) := by have := hx3.out; simp [World.cell?, this]
        obtain ⟨g0, -⟩ := brow_at HBR.out (show iy < O.length by rw [HOL.out]; exact hi1)
        obtain ⟨bit, hbit⟩ : ∃ x, O.getD iy false = x := ⟨_, rfl⟩
        rw [hbit] at g0 HDH
        clear hp hbit hb3 HBW HXW HGW2 q3 c0 c1 c2 c3 c4 HNM
        by_cases hk2 : nk = 2
        · subst hk2
          cases bit with
          | false =>
            have HF : Hid (R = false) := Lib.hid (HFX.out (by rw [HDH.out]; rfl))
            go_wp2_with fail
            go_ret
            exact ⟨by rw [HF.out]; rfl, HBA.out.trans (HB3.out.mono HBA.out.size)⟩
          | true =>
            by_cases hi0 : iy = 0
            · have b5 : decide ((0 : Int) < (iy : Int)) = false := decide_eq_false (by omega)
              have b5' : decide (0 < iy) = false := decide_eq_false (by omega)
              have HI0 := Lib.hid hi0
              clear hi0
              have HY : Hid (dirOk t iy = true) := Lib.hid (by rw [HDH.out]; simp [HI0.out])
              go_wp2_with fail
              go_roundw
              case rel =>
                refine ⟨iy + 1, by omega, by go_num, Lib.hid fun y hy => ?_, HBR, HB3⟩
                by_cases e : y = iy
                · subst e; exact HY.out
                · exact HD.out y (by omega)
              case measure => simp [RowKit.intOf]; omega
            · have b5 : decide ((0 : Int) < (iy : Int)) = true := decide_eq_true (by omega)
              have b5' : decide (0 < iy) = true := decide_eq_true (by omega)
              by_cases hK : K = 1
              · subst hK
                have HY : Hid (dirOk t iy = true) := Lib.hid (by rw [HDH.out]; simp)
                go_wp2_with fail
                go_roundw
                case rel =>
                  refine ⟨iy + 1, by omega, by go_num, Lib.hid fun y hy => ?_, HBR, HB3⟩
                  by_cases e : y = iy
                  · subst e; exact HY.out
                  · exact HD.out y (by omega)
                case measure => simp [RowKit.intOf]; omega
              · have b6 : ((K : Int) != 1) = true := by rw [bne_iff_ne]; omega
                have HF : Hid (R = false) := Lib.hid (HFX.out (by rw [HDH.out]; simp [hi0, hK]))
                go_wp2_with fail
                go_ret
                exact ⟨by rw [HF.out]; rfl, HBA.out.trans (HB3.out.mono HBA.out.size)⟩
        have b2 : (nk == 2) = false := by simpa using hk2
        by_cases hk1 : nk = 1
        · subst hk1
          by_cases hK : nl = (K : Int)
          · have b6 : (nl != (K : Int)) = false := by rw [bne_eq_false_iff_eq]; exact hK
            have HY : Hid (dirOk t iy = true) := Lib.hid (by rw [HDH.out]; simp [hK])
            go_wp2_with fail
            go_roundw
            case rel =>
              refine ⟨iy + 1, by omega, by go_num, Lib.hid fun y hy => ?_, HBR, HB3⟩
              by_cases e : y = iy
              · subst e; exact HY.out
              · exact HD.out y (by omega)
            case measure => simp [RowKit.intOf]; omega
          · have b6 : (nl != (K : Int)) = true := by rw [bne_iff_ne]; exact hK
            have HF : Hid (R = false) := Lib.hid (HFX.out (by rw [HDH.out]; simp [hK]))
            go_wp2_with fail
            go_ret
            exact ⟨by rw [HF.out]; rfl, HBA.out.trans (HB3.out.mono HBA.out.size)⟩
        have b1 : (nk == 1) = false := by simpa using hk1
        have HY : Hid (dirOk t iy = true) := Lib.hid (by rw [HDH.out]; rw [if_neg hk2, if_neg hk1])
        go_wp2_with fail
        go_roundw
        case rel =>
          refine ⟨iy + 1, by omega, by go_num, Lib.hid fun y hy => ?_, HBR, HB3⟩
          by_cases e : y = iy
          · subst e; exact HY.out
          · exact HD.out y (by omega)
        case measure => simp [RowKit.intOf]; omega
    have d2 : decide ((jx : Int) < (t.length : Int)) = true := decide_eq_true (by omega)
    have HFX : Hid ((MayT t → False) → R = false) := Lib.hid fun h => by rw [← HR.out]; exact may_not h
    obtain ⟨B1, o1, hA1, hB1, ⟨c0, c1, c2, c3, c4⟩, hn⟩ := (HTL.out wr HB.out).node hj1
    obtain ⟨rfl, rfl⟩ : B1 = B ∧ o1 = o := by simpa [eq_comm] using hA1
    clear hA1
    obtain ⟨⟨RA, RB, rc, rd⟩, hr⟩ : ∃ a, a = r jx := ⟨_, rfl⟩
    rw [← hr] at c3 c4 hn
    have HNR : Hid (∀ w1, Below W.heap.size W w1 → NLies w1 (at_ t jx) RA RB rc rd) := Lib.hid fun w1 hb => by
      have := (HTL.out w1 hb).rows hj1
      rw [← hr] at this
      exact this
    have HTK := Lib.hid (allSeq_take hj1)
    have HPRE : Hid (∀ k, noTw (allSeq (t.take jx) ++ (at_ t jx).sq.take k) = false → R = false) := Lib.hid fun k hk => HFX.out fun hm => by
      obtain ⟨m, e⟩ := allSeq_pre (k := k) hj1
      have := hm.sq
      rw [e] at this
      rw [noTw_left this] at hk; cases hk
    have HMY := Lib.hid (fun w1 (hb : Below W.heap.size W w1) => maynr_any (at_ t jx) RA RB rc rd w1 (HNR.out w1 hb))
    have HNO : Hid (mayNd (at_ t jx) = false → R = false) := Lib.hid fun h => HFX.out fun hm => by rw [hm.node jx hj1] at h; cases h
    have HEO : Hid (∀ e ∈ (at_ t jx).en, (at_ t e.2.toNat).k = 0 → R = false) := Lib.hid fun e he h0 => HFX.out fun hm => hm.ent jx hj1 e he h0
    have HIN : Hid (∀ y, mayNd (at_ t jx) = true → entsOk t (at_ t jx).en = true → y < jx + 1 → mayNd (at_ t y) = true ∧ entsOk t (at_ t y).en = true) := Lib.hid fun y h1 h2 hy => by
      by_cases e : y = jx
      · subst e; exact ⟨h1, h2⟩
      · exact HI.out y (by omega)
    have hem := hn.em
    have hqm := hn.sm
    have HBW := Lib.hid (HB.out.alloc HB.out.size (.cells #[.int .i64 (at_ t jx).k, .int .i64 (at_ t jx).l, .int .i64 (at_ t jx).z, .slice RA (at_ t jx).sq.length rc, .slice RB (at_ t jx).en.length rd] 32))
    have HXW := Lib.hid (heap_alloc_new wr (.cells #[.int .i64 (at_ t jx).k, .int .i64 (at_ t jx).l, .int .i64 (at_ t jx).z, .slice RA (at_ t jx).sq.length rc, .slice RB (at_ t jx).en.length rd] 32))
    have HSW : Hid (∃ n, n ≤ 5 * jx ∧ Sn (wr.alloc (.cells #[.int .i64 (at_ t jx).k, .int .i64 (at_ t jx).l, .int .i64 (at_ t jx).z, .slice RA (at_ t jx).sq.length rc, .slice RB (at_ t jx).en.length rd] 32)) b n (allSeq (t.take jx))) := Lib.hid (by
      obtain ⟨n, h1, h2⟩ := HSN.out
      exact ⟨n, h1, h2.below ((Below.refl _ _).alloc (Nat.le_refl _) _)⟩)
    clear hn hr HI HSN
    obtain ⟨M, hM⟩ : ∃ M, mayNd (at_ t jx) = M := ⟨_, rfl⟩
    rw [hM] at HMY HNO
    have HM := Lib.hid hM
    clear hM
    cases M with
    | false =>
      have HF : Hid (R = false) := Lib.hid (HNO.out rfl)
      go_wp2_with (first
        | (go_at_call 35; (with_reducible refine (HMY.out _ HBW.out).mono ?_); rintro e w2 ⟨rfl, hb2⟩; replace hb2 := Lib.hid (HBW.out.trans (hb2.mono HBW.out.size)))
        | fail)
      go_ret
      exact ⟨by rw [HF.out]; rfl, HBA.out.trans (hb2.out.mono HBA.out.size)⟩
    | true =>
      have h5 := may_len5 HM.out
      have h10 := (may_ents HM.out).1
      have HEN := Lib.hid (may_ents HM.out).2
      have HSQ : Hid (∀ s ∈ (at_ t jx).sq, 0 ≤ s ∧ s ≤ 1099511627776) := Lib.hid fun s hs => may_seqs HM.out hs
      go_upto_region 9 with (first
        | (go_at_call 35; (with_reducible refine (HMY.out _ HBW.out).mono ?_); rintro e w2 ⟨rfl, hb2⟩; have HX2 := Lib.hid ((hb2.block wr.heap.size (by simp)).trans HXW.out); have HS2 : Hid (∃ n, n ≤ 5 * jx ∧ Sn w2 b n (allSeq (t.take jx))) := Lib.hid (by obtain ⟨n, h1, h2⟩ := HSW.out; exact ⟨n, h1, h2.below hb2⟩); replace hb2 := Lib.hid (HBW.out.trans (hb2.mono HBW.out.size)))
        | fail)
      obtain ⟨p, hp⟩ : ∃ p, p = wr.heap.size := ⟨_, rfl⟩
      rw [← hp] at HX2 ⊢
      have hpz : Hid (p < w2.heap.size) := Lib.hid (lt_size HX2.out)
      have HBX : Hid (∀ w1, Below w2.heap.size w2 w1 → w1.cell? ⟨p, 3, none⟩ = some (.slice RA (at_ t jx).sq.length rc) ∧ w1.cell? ⟨p, 4, none⟩ = some (.slice RB (at_ t jx).en.length rd)) := Lib.hid fun w1 hb => by
        have := (hb.block p hpz.out).trans HX2.out
        exact ⟨by simp [World.cell?, this], by simp [World.cell?, this]⟩
      clear hp HXW HSW HBW c0 c1 c2 c3 c4 HMY HNO HFX HB
      obtain ⟨x3, x4⟩ := HBX.out w2 (Below.refl _ _)
      generalize hL : (at_ t jx).en = L at HBX HEO HEN HIN h10 hem x3 x4
      generalize hS : (at_ t jx).sq = S at HBX HSQ HTK HPRE h5 hqm x3 x4
      have HLL := Lib.hid hL
      have HSS := Lib.hid hS
      clear hL hS
      go_wp2_with fail
      go_loopw [7, 40] (fun _ v40 wr => ∃ ky : Nat, ky ≤ L.length ∧ v40 = .int .i64 ky ∧ Hid (entsOk t (L.take ky) = true) ∧ Hid (Below w2.heap.size w2 wr)) (fun _ v40 _ => L.length - (RowKit.intOf v40).toNat)
      case atStart => exact ⟨0, Nat.zero_le _, rfl, Lib.hid rfl, Lib.hid (Below.refl _ _)⟩
      case round =>
        clear x3 x4
        obtain ⟨ky, hky, rfl, HE, HBB⟩ := hrel
        have HB : Hid (Below W.heap.size W wr) := Lib.hid (hb2.out.trans (HBB.out.mono hb2.out.size))
        by_cases hj2 : ky < L.length
        · have d3 : decide ((ky : Int) < (L.length : Int)) = true := decide_eq_true (by omega)
          have hel : ELies wr RB L := by have := (HNR.out wr HB.out).en; rwa [HLL.out] at this
          obtain ⟨B2, o2, rfl, hB2, hcc⟩ := hel (by omega)
          obtain ⟨k0, k1⟩ := hcc ky hj2
          have hmem : L[ky] ∈ L := List.getElem_mem hj2
          have HTK2 : Hid (L.take (ky + 1) = L.take ky ++ [L[ky]]) := Lib.hid (List.take_succ_eq_append_getElem hj2)
          generalize L[ky] = e at k0 k1 hmem HTK2
          obtain ⟨s, m⟩ := e
          have hm := HEN.out _ hmem
          have HEM := Lib.hid hmem
          obtain ⟨km, rfl⟩ : ∃ km : Nat, m = (km : Int) := ⟨m.toNat, by dsimp only at hm; omega⟩
          have hkm : km < t.length := by dsimp only at hm; omega
          have HB5 := Lib.hid (HB.out.alloc HB.out.size (.cells #[.string s, .int .i64 (km : Nat)] 34))
          have HB6 := Lib.hid (HBB.out.alloc HBB.out.size (.cells #[.string s, .int .i64 (km : Nat)] 34))
          have q2 := HPX.out _ HB5.out
          obtain ⟨B3, o3, hA3, hB3, ⟨e0, -, -, -, -⟩, -⟩ := (HTL.out _ HB5.out).node hkm
          obtain ⟨rfl, rfl⟩ : B3 = B1 ∧ o3 = o1 := by simpa [eq_comm] using hA3
          clear hcc hA3 hmem hel hm
          by_cases g : (at_ t km).k = 0
          · have b1 : ((at_ t km).k == 0) = true := by simpa using g
            have HF : Hid (R = false) := Lib.hid (HEO.out _ HEM.out (by simpa using g))
            generalize (at_ t km).k = kk2 at e0 b1
            clear g
            go_wp2_with fail
            go_ret
            exact ⟨by rw [HF.out]; rfl, HBA.out.trans (HB5.out.mono HBA.out.size)⟩
          · have b1 : ((at_ t km).k == 0) = false := by simpa using g
            have HEY : Hid (entsOk t (L.take (ky + 1)) = true) := Lib.hid (by
              have h1 := HE.out
              rw [HTK2.out]
              unfold entsOk at *
              rw [List.all_append, h1]
              simp [g])
            generalize (at_ t km).k = kk2 at e0 b1
            clear g
            go_wp2_with fail
            go_roundw
            case rel => exact ⟨ky + 1, by omega, by go_num, HEY, HB6⟩
            case measure => simp [RowKit.intOf]; omega
        · have d3 : decide ((ky : Int) < (L.length : Int)) = false := decide_eq_false (by omega)
          have HEF : Hid (entsOk t L = true) := Lib.hid (by have := HE.out; rwa [List.take_of_length_le (by omega)] at this)
          have HS3 : Hid (∃ n, n ≤ 5 * jx ∧ Sn wr b n (allSeq (t.take jx))) := Lib.hid (by obtain ⟨n, h1, h2⟩ := HS2.out; exact ⟨n, h1, h2.below HBB.out⟩)
          obtain ⟨x3, x4⟩ := HBX.out wr HBB.out
          generalize allSeq (t.take jx) = A0 at HNT HS3 HTK HPRE HS2
          go_wp2_with fail
          go_loopw [9, 56] (fun _ v56 wr => ∃ ky : Nat, ky ≤ S.length ∧ v56 = .int .i64 ky ∧ Hid (noTw (A0 ++ S.take ky) = true) ∧ Hid (∃ n, n ≤ 5 * jx + ky ∧ Sn wr b n (A0 ++ S.take ky)) ∧ Hid (Below W.heap.size W wr)) (fun _ v56 _ => S.length - (RowKit.intOf v56).toNat)
          case atStart => exact ⟨0, Nat.zero_le _, rfl, Lib.hid (by simpa using HNT.out), Lib.hid (by simpa using HS3.out), HB⟩
          case round =>
            clear x3 x4 HB
            obtain ⟨kz, hkz, rfl, HN2, HSN, HB⟩ := hrel
            by_cases hj3 : kz < S.length
            · have d4 : decide ((kz : Int) < (S.length : Int)) = true := decide_eq_true (by omega)
              have hil : ILies wr RA S := by have := (HNR.out wr HB.out).sq; rwa [HSS.out] at this
              obtain ⟨B2, o2, rfl, hB2, hcc⟩ := hil (by omega)
              have k0 := hcc kz hj3
              have hmem : S[kz] ∈ S := List.getElem_mem hj3
              have HTK2 : Hid (A0 ++ S.take (kz + 1) = (A0 ++ S.take kz) ++ [S[kz]]) := Lib.hid (by rw [List.take_succ_eq_append_getElem hj3, List.append_assoc])
              have HP2 := Lib.hid (HPRE.out (kz + 1))
              generalize S[kz] = s at k0 hmem HTK2
              rw [HTK2.out] at HP2
              have hsb := HSQ.out s hmem
              generalize A0 ++ S.take kz = LL at HN2 HSN HTK2 HP2
              obtain ⟨n, hn5, hsn⟩ := HSN.out
              obtain ⟨D, hown, hat⟩ := hsn.own
              have hwf : (Lit.int .i64 s).wf = true := WalkArith.wf_i64 (by omega)
              have hkey := snkey hwf
              obtain ⟨cc, hrun, hcc2, -⟩ := hown.lookup_int snkeyed Tryd.underlying56 Tryd.underlying3 (snzero _) hkey
              have HCC : Hid (cc = if s ∈ LL then 1 else 0) := Lib.hid (by
                have := hat s
                rw [hcc2] at this
                simpa using this)
              have HOWN := Lib.hid hown
              have HAT := Lib.hid hat
              have HWF := Lib.hid hwf
              have HKEY := Lib.hid hkey
              have HN5 := Lib.hid hn5
              clear hcc hmem hil hsb hown hat hwf hkey hsn hcc2 HSN hn5
              by_cases g : s = 0
              · have b3 : (s != 0) = false := by simp [g]
                have HNN : Hid (noTw (LL ++ [s]) = true) := Lib.hid (noTw_zero g HN2.out)
                clear g
                go_wp2_with (first
                  | (at_mapUpdate; refine wpList_mapUpdate_own _ rfl _ _ _ 56 rfl 3 3 snkeyed Tryd.underlying56 _ b n D rfl HOWN.out (by have := HN5.out; unfold maxLen; omega) _ _ _ rfl rfl HKEY.out _ [] (plainElem_int Tryd.underlying3 (by decide)) ?_; intro w5 hown5 hg5)
                  | fail)
                have HSN5 : Hid (Sn w5 b (n + 1) (LL ++ [s])) := Lib.hid ⟨_, hown5, sn_put HOWN.out.isMap HAT.out HWF.out⟩
                have HB5 : Hid (Below W.heap.size W w5) := Lib.hid (HB.out.grown hg5 HB.out.size fun k e => by cases e; rw [HGW.out]; exact Nat.le_refl _)
                clear hown5 hg5
                go_roundw
                case rel => exact ⟨kz + 1, by omega, by go_num, by rw [HTK2.out]; exact HNN, Lib.hid ⟨n + 1, by have := HN5.out; omega, by rw [HTK2.out]; exact HSN5.out⟩, HB5⟩
                case measure => simp [RowKit.intOf]; omega
              · have b3 : (s != 0) = true := by simpa using g
                by_cases g2 : s ∈ LL
                · have hc1 : cc = 1 := by rw [HCC.out, if_pos g2]
                  subst hc1
                  have HF : Hid (R = false) := Lib.hid (HP2.out (noTw_bad g g2))
                  clear g g2
                  go_wp2_with fail
                  go_ret
                  exact ⟨by rw [HF.out]; rfl, HBA.out.trans (HB.out.mono HBA.out.size)⟩
                · have hc1 : cc = 0 := by rw [HCC.out, if_neg g2]
                  subst hc1
                  have HNN : Hid (noTw (LL ++ [s]) = true) := Lib.hid (noTw_new g2 HN2.out)
                  clear g g2
                  go_wp2_with (first
                    | (at_mapUpdate; refine wpList_mapUpdate_own _ rfl _ _ _ 56 rfl 3 3 snkeyed Tryd.underlying56 _ b n D rfl HOWN.out (by have := HN5.out; unfold maxLen; omega) _ _ _ rfl rfl HKEY.out _ [] (plainElem_int Tryd.underlying3 (by decide)) ?_; intro w5 hown5 hg5)
                    | fail)
                  have HSN5 : Hid (Sn w5 b (n + 1) (LL ++ [s])) := Lib.hid ⟨_, hown5, sn_put HOWN.out.isMap HAT.out HWF.out⟩
                  have HB5 : Hid (Below W.heap.size W w5) := Lib.hid (HB.out.grown hg5 HB.out.size fun k e => by cases e; rw [HGW.out]; exact Nat.le_refl _)
                  clear hown5 hg5
                  go_roundw
                  case rel => exact ⟨kz + 1, by omega, by go_num, by rw [HTK2.out]; exact HNN, Lib.hid ⟨n + 1, by have := HN5.out; omega, by rw [HTK2.out]; exact HSN5.out⟩, HB5⟩
                  case measure => simp [RowKit.intOf]; omega
            · have d4 : decide ((kz : Int) < (S.length : Int)) = false := decide_eq_false (by omega)
              have HSE : Hid (A0 ++ S.take kz = A0 ++ S) := Lib.hid (by rw [List.take_of_length_le (by omega)])
              go_wp2_with fail
              go_roundw
              case rel =>
                refine ⟨jx + 1, by omega, by go_num, Lib.hid fun y hy => ?_, Lib.hid (by rw [HTK.out, ← HSE.out]; exact HN2.out), Lib.hid ?_, HB⟩
                · exact HIN.out y HM.out HEF.out hy
                · obtain ⟨n, h1, h2⟩ := HSN.out
                  exact ⟨n, by omega, by rw [HTK.out, ← HSE.out]; exact h2⟩
              case measure => simp [RowKit.intOf]; omega
end Go.Proofs.YtfboilbmehcgoaaDoor

/- The reference's SameTree (written by mktre.py). -/
namespace Go.Proofs.YtfboilbmehcgoaaDoor
open Go.RowKit Go.Lib

theorem two_trees (w : World) (S T : Value) : (two w (.cells #[S] 24) (.cells #[T] 24)).cell? ⟨w.heap.size, 0, none⟩ = some S ∧ (two w (.cells #[S] 24) (.cells #[T] 24)).cell? ⟨w.heap.size + 1, 0, none⟩ = some T := by
  constructor
  · have := (((Below.refl w.heap.size w).alloc (Nat.le_refl _) (.cells #[S] 24)).size)
    have h1 := tree_box w S
    exact (((Below.refl _ _).alloc (Nat.le_refl _) (.cells #[T] 24)).cell (p := ⟨w.heap.size, 0, none⟩) (by simp)).trans h1
  · have h1 := tree_box (w.alloc (.cells #[S] 24)) T
    rwa [show (w.alloc (.cells #[S] 24)).heap.size = w.heap.size + 1 by simp] at h1
set_option maxRecDepth 100000 in
set_option maxHeartbeats 8000000 in
theorem sameTr_any (t u : List Nd) (A A' : Option Addr) (c c' : Nat) (r r' : Nat → NAddr) (w : World) (h : TLies w A c t r) (h' : TLies w A' c' u r') : Calls Tryd.prog 13 #[.agg #[.slice A t.length c], .agg #[.slice A' u.length c']] w fun x w' => x = .returned (.bool (decide (t = u))) ∧ Below w.heap.size w w' := by
  have hmx : maxLen = 9223372036854775807 := rfl
  have hsm := h.sm
  have HH := Lib.hid h
  have HH' := Lib.hid h'
  clear h h'
  have HTB := Lib.hid (two_trees w (.slice A t.length c) (.slice A' u.length c'))
  have HB0 : Hid (Below w.heap.size w (two w (.cells #[.slice A t.length c] 24) (.cells #[.slice A' u.length c'] 24))) := Lib.hid (((Below.refl _ _).alloc (Nat.le_refl _) _).alloc (by simp) _)
  have HZ0 : Hid (w.heap.size + 2 = (two w (.cells #[.slice A t.length c] 24) (.cells #[.slice A' u.length c'] 24)).heap.size) := Lib.hid (by simp [two])
  obtain ⟨R, hR⟩ : ∃ R, decide (t = u) = R := ⟨_, rfl⟩
  rw [hR]
  have HR := Lib.hid hR
  clear hR
  by_cases hl : t.length = u.length
  case neg =>
    have d1 : ((t.length : Int) != (u.length : Int)) = true := by rw [bne_iff_ne]; omega
    have HF : Hid (R = false) := Lib.hid (by rw [← HR.out]; exact decide_eq_false fun e => hl (by rw [e]))
    clear hl
    go_enter Tryd.func13, Tryd.ntmps13
    go_wp2_with fail
    go_ret
    exact ⟨by rw [HF.out]; rfl, HB0.out⟩
  have d1 : ((t.length : Int) != (u.length : Int)) = false := by rw [bne_eq_false_iff_eq]; omega
  have HL := Lib.hid hl
  clear hl
  go_enter Tryd.func13, Tryd.ntmps13
  go_wp2_with fail
  change Code.wp _ _ _ _ (two w (.cells #[.slice A t.length c] 24) (.cells #[.slice A' u.length c'] 24))
  generalize two w _ _ = W at HTB HB0 HZ0 ⊢
  obtain ⟨P, hP⟩ : ∃ P, P = w.heap.size := ⟨_, rfl⟩
  rw [← hP] at HTB HZ0 ⊢
  clear hP
  go_loopw [5, 16] (fun _ v16 wr => ∃ jx : Nat, jx ≤ t.length ∧ v16 = .int .i64 jx ∧ Hid (∀ i, i < jx → at_ t i = at_ u i) ∧ Hid (Below W.heap.size W wr)) (fun _ v16 _ => t.length - (RowKit.intOf v16).toNat)
  case atStart => exact ⟨0, Nat.zero_le _, rfl, Lib.hid fun i h => absurd h (Nat.not_lt_zero i), Lib.hid (Below.refl _ _)⟩
  case round =>
    obtain ⟨jx, hj, rfl, HI, HB⟩ := hrel
    have HBW : Hid (Below w.heap.size w wr) := Lib.hid (HB0.out.trans (HB.out.mono HB0.out.size))
    by_cases hj1 : jx < t.length
    · have d2 : decide ((jx : Int) < (t.length : Int)) = true := decide_eq_true (by omega)
      have hj2 : jx < u.length := by have := HL.out; omega
      have HJ := Lib.hid (And.intro hj1 hj2)
      obtain ⟨B, o, rfl, hBs, -, -⟩ := (HH.out.below HBW.out).node hj1
      obtain ⟨B', o', rfl, hBs', -, -⟩ := (HH'.out.below HBW.out).node hj2
      obtain ⟨⟨RA, RB, rc, rd⟩, hr⟩ : ∃ a, a = r jx := ⟨_, rfl⟩
      obtain ⟨⟨RA', RB', rc', rd'⟩, hr'⟩ : ∃ a, a = r' jx := ⟨_, rfl⟩
      have HKY : Hid (∀ w1, Below wr.heap.size wr w1 → w1.cell? ⟨P, 0, none⟩ = some (.slice (some ⟨B, o, none⟩) t.length c) ∧ w1.cell? ⟨P + 1, 0, none⟩ = some (.slice (some ⟨B', o', none⟩) u.length c') ∧ NCells w1 B (o + jx * 5) (at_ t jx) ⟨RA, RB, rc, rd⟩ ∧ NCells w1 B' (o' + jx * 5) (at_ u jx) ⟨RA', RB', rc', rd'⟩ ∧ NLies w1 (at_ t jx) RA RB rc rd ∧ NLies w1 (at_ u jx) RA' RB' rc' rd') := Lib.hid fun w1 hb => by
        have hz := HZ0.out
        have hb1 := HB.out.trans (hb.mono HB.out.size)
        have hb2 := HBW.out.trans (hb.mono HBW.out.size)
        obtain ⟨B1, o1, e1, -, c1, n1⟩ := (HH.out.below hb2).node HJ.out.1
        obtain ⟨rfl, rfl⟩ : B1 = B ∧ o1 = o := by simpa [eq_comm] using e1
        obtain ⟨B2, o2, e2, -, c2, n2⟩ := (HH'.out.below hb2).node HJ.out.2
        obtain ⟨rfl, rfl⟩ : B2 = B' ∧ o2 = o' := by simpa [eq_comm] using e2
        rw [← hr] at c1 n1
        rw [← hr'] at c2 n2
        exact ⟨(hb1.cell (p := ⟨P, 0, none⟩) (show P < _ by omega)).trans HTB.out.1, (hb1.cell (p := ⟨P + 1, 0, none⟩) (show P + 1 < _ by omega)).trans HTB.out.2, c1, c2, n1, n2⟩
      have HIX : Hid (∀ w, (Instr.indexAt 22 (.slice (some ⟨B, o, none⟩) t.length c) (.int .i64 (jx : Nat))).run Tryd.prog w = .ok (.pointer (some ⟨B, o + jx * 5, none⟩)) w) := Lib.hid fun w => by
        have e0 : ¬ ((jx : Int) < 0) := by omega
        simp [go_sem, hj1]
      have HIX' : Hid (∀ w, (Instr.indexAt 22 (.slice (some ⟨B', o', none⟩) u.length c') (.int .i64 (jx : Nat))).run Tryd.prog w = .ok (.pointer (some ⟨B', o' + jx * 5, none⟩)) w) := Lib.hid fun w => by
        have e0 : ¬ ((jx : Int) < 0) := by omega
        simp [go_sem, hj2]
      have HCS := Lib.hid (fun w1 hb => samenr_any (at_ t jx) (at_ u jx) RA RB RA' RB' rc rd rc' rd' w1 (HKY.out w1 hb).2.2.2.2.1 (HKY.out w1 hb).2.2.2.2.2)
      have HNE : Hid (sameN (at_ t jx) (at_ u jx) = false → R = false) := Lib.hid fun h => by
        rw [← HR.out]
        refine decide_eq_false fun e => ?_
        subst e
        unfold sameN at h
        simp at h
      have HEQ : Hid (sameN (at_ t jx) (at_ u jx) = true → at_ t jx = at_ u jx) := Lib.hid fun h => of_decide_eq_true h
      generalize sameN (at_ t jx) (at_ u jx) = M at HCS HNE HEQ
      generalize hn : at_ t jx = n at HKY HCS HEQ
      generalize hm : at_ u jx = m at HKY HCS HEQ
      obtain ⟨k, l, z, sq, en⟩ := n
      obtain ⟨k', l', z', sq', en'⟩ := m
      have HNN := Lib.hid hn
      have HMM := Lib.hid hm
      clear hr hr' hn hm
      go_upto_region 6 with (fail)
      cases M with
      | false =>
        have HF : Hid (R = false) := Lib.hid (HNE.out rfl)
        refine region_st (fun j v w' => match j with | 0 => v = .pointer (some ⟨P, 0, none⟩) | 1 => v = .slice (some ⟨B, o, none⟩) t.length c | 2 => v = .int .i64 (jx : Nat) | 3 => v = .pointer (some ⟨B, o + jx * 5, none⟩) | 4 => v = .agg #[.int .i64 k, .int .i64 l, .int .i64 z, .slice RA sq.length rc, .slice RB en.length rd] | 5 => v = .pointer (some ⟨P + 1, 0, none⟩) | 6 => v = .slice (some ⟨B', o', none⟩) u.length c' | 7 => v = .int .i64 (jx : Nat) | 8 => v = .pointer (some ⟨B', o' + jx * 5, none⟩) | 9 => v = .agg #[.int .i64 k', .int .i64 l', .int .i64 z', .slice RA' sq'.length rc', .slice RB' en'.length rd'] | 10 => v = .bool false | 11 => v = .bool true | _ => True) (fun _ w' => Below wr.heap.size wr w') (fun w1 w2 => Below w1.heap.size w1 w2) (by kernel_rfl) (by kernel_rfl) (by kernel_rfl) ?hR ?hG ?hops ?hend
        case hR =>
          intro j v w1 w2 hv hb
          match j, hv with
          | 0, hv => exact hv
          | 1, hv => exact hv
          | 2, hv => exact hv
          | 3, hv => exact hv
          | 4, hv => exact hv
          | 5, hv => exact hv
          | 6, hv => exact hv
          | 7, hv => exact hv
          | 8, hv => exact hv
          | 9, hv => exact hv
          | 10, hv => exact hv
          | 11, hv => exact hv
          | _ + 12, _ => exact trivial
        case hG => exact (Below.refl _ _).drew
        case hops =>
          refine OpsOkS.cons ?o0 (OpsOkS.cons ?o1 (OpsOkS.cons ?o2 (OpsOkS.cons ?o3 (OpsOkS.cons ?o4 (OpsOkS.cons ?o5 (OpsOkS.cons ?o6 (OpsOkS.cons ?o7 (OpsOkS.cons ?o8 (OpsOkS.cons ?o9 (OpsOkS.cons ?o10 (OpsOkS.cons ?o11 OpsOkS.nil)))))))))))
          case o0 =>
            intro a w1 Kx hG need old hsz fresh hKx
            have e0 : a.tmps[2]?.getD undef = .pointer (some ⟨P, 0, none⟩) := by rw [← Array.getD_eq_getD_getElem?]; exact old 2 (by kernel_rfl)
            refine op_value (v := .pointer (some ⟨P, 0, none⟩)) (wanted_none rfl) ?_ (hKx _ w1 rfl hG (Below.refl _ _))
            simp [execOp, go_sem, e0]
          case o1 =>
            intro a w1 Kx hG need old hsz fresh hKx
            have e0 : a.tmps[19]?.getD undef = .pointer (some ⟨P, 0, none⟩) := by rw [← Array.getD_eq_getD_getElem?]; exact (need 0 (by kernel_rfl) (by kernel_rfl))
            have k0 := (HKY.out w1 hG).1
            refine op_value (v := .slice (some ⟨B, o, none⟩) t.length c) (wanted_none rfl) ?_ (hKx _ w1 rfl hG (Below.refl _ _))
            simp [execOp, go_sem, e0, k0]
          case o2 =>
            intro a w1 Kx hG need old hsz fresh hKx
            have e0 : a.tmps[5]?.getD undef = .int .i64 (jx : Nat) := by rw [← Array.getD_eq_getD_getElem?]; exact old 5 (by kernel_rfl)
            refine op_value (v := .int .i64 (jx : Nat)) (wanted_none rfl) ?_ (hKx _ w1 rfl hG (Below.refl _ _))
            simp [execOp, go_sem, e0]
          case o3 =>
            intro a w1 Kx hG need old hsz fresh hKx
            have e0 : a.tmps[20]?.getD undef = .slice (some ⟨B, o, none⟩) t.length c := by rw [← Array.getD_eq_getD_getElem?]; exact (need 1 (by kernel_rfl) (by kernel_rfl))
            have e1 : a.tmps[21]?.getD undef = .int .i64 (jx : Nat) := by rw [← Array.getD_eq_getD_getElem?]; exact (need 2 (by kernel_rfl) (by kernel_rfl))
            refine op_value (v := .pointer (some ⟨B, o + jx * 5, none⟩)) (wanted_none rfl) ?_ (hKx _ w1 rfl hG (Below.refl _ _))
            simp [execOp, go_sem, e0, e1, HIX.out]
          case o4 =>
            intro a w1 Kx hG need old hsz fresh hKx
            have e0 : a.tmps[22]?.getD undef = .pointer (some ⟨B, o + jx * 5, none⟩) := by rw [← Array.getD_eq_getD_getElem?]; exact (need 3 (by kernel_rfl) (by kernel_rfl))
            obtain ⟨j0, j1, j2, j3, j4⟩ := (HKY.out w1 hG).2.2.1
            refine op_value (v := .agg #[.int .i64 k, .int .i64 l, .int .i64 z, .slice RA sq.length rc, .slice RB en.length rd]) (wanted_none rfl) ?_ (hKx _ w1 rfl hG (Below.refl _ _))
            simp [execOp, go_sem, e0, j0, j1, j2, j3, j4]
          case o5 =>
            intro a w1 Kx hG need old hsz fresh hKx
            have e0 : a.tmps[3]?.getD undef = .pointer (some ⟨P + 1, 0, none⟩) := by rw [← Array.getD_eq_getD_getElem?]; exact old 3 (by kernel_rfl)
            refine op_value (v := .pointer (some ⟨P + 1, 0, none⟩)) (wanted_none rfl) ?_ (hKx _ w1 rfl hG (Below.refl _ _))
            simp [execOp, go_sem, e0]
          case o6 =>
            intro a w1 Kx hG need old hsz fresh hKx
            have e0 : a.tmps[24]?.getD undef = .pointer (some ⟨P + 1, 0, none⟩) := by rw [← Array.getD_eq_getD_getElem?]; exact (need 5 (by kernel_rfl) (by kernel_rfl))
            have k0 := (HKY.out w1 hG).2.1
            refine op_value (v := .slice (some ⟨B', o', none⟩) u.length c') (wanted_none rfl) ?_ (hKx _ w1 rfl hG (Below.refl _ _))
            simp [execOp, go_sem, e0, k0]
          case o7 =>
            intro a w1 Kx hG need old hsz fresh hKx
            have e0 : a.tmps[5]?.getD undef = .int .i64 (jx : Nat) := by rw [← Array.getD_eq_getD_getElem?]; exact old 5 (by kernel_rfl)
            refine op_value (v := .int .i64 (jx : Nat)) (wanted_none rfl) ?_ (hKx _ w1 rfl hG (Below.refl _ _))
            simp [execOp, go_sem, e0]
          case o8 =>
            intro a w1 Kx hG need old hsz fresh hKx
            have e0 : a.tmps[25]?.getD undef = .slice (some ⟨B', o', none⟩) u.length c' := by rw [← Array.getD_eq_getD_getElem?]; exact (need 6 (by kernel_rfl) (by kernel_rfl))
            have e1 : a.tmps[26]?.getD undef = .int .i64 (jx : Nat) := by rw [← Array.getD_eq_getD_getElem?]; exact (need 7 (by kernel_rfl) (by kernel_rfl))
            refine op_value (v := .pointer (some ⟨B', o' + jx * 5, none⟩)) (wanted_none rfl) ?_ (hKx _ w1 rfl hG (Below.refl _ _))
            simp [execOp, go_sem, e0, e1, HIX'.out]
          case o9 =>
            intro a w1 Kx hG need old hsz fresh hKx
            have e0 : a.tmps[27]?.getD undef = .pointer (some ⟨B', o' + jx * 5, none⟩) := by rw [← Array.getD_eq_getD_getElem?]; exact (need 8 (by kernel_rfl) (by kernel_rfl))
            obtain ⟨j0, j1, j2, j3, j4⟩ := (HKY.out w1 hG).2.2.2.1
            refine op_value (v := .agg #[.int .i64 k', .int .i64 l', .int .i64 z', .slice RA' sq'.length rc', .slice RB' en'.length rd']) (wanted_none rfl) ?_ (hKx _ w1 rfl hG (Below.refl _ _))
            simp [execOp, go_sem, e0, j0, j1, j2, j3, j4]
          case o10 =>
            intro a w1 Kx hG need old hsz fresh hKx
            have e0 : a.tmps[23]?.getD undef = .agg #[.int .i64 k, .int .i64 l, .int .i64 z, .slice RA sq.length rc, .slice RB en.length rd] := by rw [← Array.getD_eq_getD_getElem?]; exact (need 4 (by kernel_rfl) (by kernel_rfl))
            have e1 : a.tmps[28]?.getD undef = .agg #[.int .i64 k', .int .i64 l', .int .i64 z', .slice RA' sq'.length rc', .slice RB' en'.length rd'] := by rw [← Array.getD_eq_getD_getElem?]; exact (need 9 (by kernel_rfl) (by kernel_rfl))
            refine op_call (wanted_none rfl) (f := 30) (args := #[.agg #[.int .i64 k, .int .i64 l, .int .i64 z, .slice RA sq.length rc, .slice RB en.length rd], .agg #[.int .i64 k', .int .i64 l', .int .i64 z', .slice RA' sq'.length rc', .slice RB' en'.length rd']]) ?run ((HCS.out w1 hG).mono ?post)
            case run => simp [go_sem, e0, e1]
            case post =>
              rintro e w2 ⟨rfl, hb2⟩
              exact ⟨_, rfl, hKx _ w2 rfl (hG.trans (hb2.mono hG.size)) hb2⟩
          case o11 =>
            intro a w1 Kx hG need old hsz fresh hKx
            have e0 : a.tmps[29]?.getD undef = .bool false := by rw [← Array.getD_eq_getD_getElem?]; exact (need 10 (by kernel_rfl) (by kernel_rfl))
            refine op_value (v := .bool true) (wanted_none rfl) ?_ (hKx _ w1 rfl hG (Below.refl _ _))
            simp [execOp, go_sem, e0]
        case hend =>
          intro a w6 hG hde hsz hφ hold
          obtain rfl := act_puts [(19, .pointer (some ⟨P, 0, none⟩)), (20, .slice (some ⟨B, o, none⟩) t.length c), (21, .int .i64 (jx : Nat)), (22, .pointer (some ⟨B, o + jx * 5, none⟩)), (23, .agg #[.int .i64 k, .int .i64 l, .int .i64 z, .slice RA sq.length rc, .slice RB en.length rd]), (24, .pointer (some ⟨P + 1, 0, none⟩)), (25, .slice (some ⟨B', o', none⟩) u.length c'), (26, .int .i64 (jx : Nat)), (27, .pointer (some ⟨B', o' + jx * 5, none⟩)), (28, .agg #[.int .i64 k', .int .i64 l', .int .i64 z', .slice RA' sq'.length rc', .slice RB' en'.length rd']), (29, .bool false), (30, .bool true)] [19, 20, 21, 22, 23, 24, 25, 26, 27, 28, 29, 30] rfl (by kernel_rfl) (by kernel_rfl) hde hsz (List.forall_mem_cons.2 ⟨(show a.tmps.getD 19 undef = .pointer (some ⟨P, 0, none⟩) from (hφ 0 (by kernel_rfl))), (List.forall_mem_cons.2 ⟨(show a.tmps.getD 20 undef = .slice (some ⟨B, o, none⟩) t.length c from (hφ 1 (by kernel_rfl))), (List.forall_mem_cons.2 ⟨(show a.tmps.getD 21 undef = .int .i64 (jx : Nat) from (hφ 2 (by kernel_rfl))), (List.forall_mem_cons.2 ⟨(show a.tmps.getD 22 undef = .pointer (some ⟨B, o + jx * 5, none⟩) from (hφ 3 (by kernel_rfl))), (List.forall_mem_cons.2 ⟨(show a.tmps.getD 23 undef = .agg #[.int .i64 k, .int .i64 l, .int .i64 z, .slice RA sq.length rc, .slice RB en.length rd] from (hφ 4 (by kernel_rfl))), (List.forall_mem_cons.2 ⟨(show a.tmps.getD 24 undef = .pointer (some ⟨P + 1, 0, none⟩) from (hφ 5 (by kernel_rfl))), (List.forall_mem_cons.2 ⟨(show a.tmps.getD 25 undef = .slice (some ⟨B', o', none⟩) u.length c' from (hφ 6 (by kernel_rfl))), (List.forall_mem_cons.2 ⟨(show a.tmps.getD 26 undef = .int .i64 (jx : Nat) from (hφ 7 (by kernel_rfl))), (List.forall_mem_cons.2 ⟨(show a.tmps.getD 27 undef = .pointer (some ⟨B', o' + jx * 5, none⟩) from (hφ 8 (by kernel_rfl))), (List.forall_mem_cons.2 ⟨(show a.tmps.getD 28 undef = .agg #[.int .i64 k', .int .i64 l', .int .i64 z', .slice RA' sq'.length rc', .slice RB' en'.length rd'] from (hφ 9 (by kernel_rfl))), (List.forall_mem_cons.2 ⟨(show a.tmps.getD 29 undef = .bool false from (hφ 10 (by kernel_rfl))), (List.forall_mem_cons.2 ⟨(show a.tmps.getD 30 undef = .bool true from (hφ 11 (by kernel_rfl))), (fun _ h => absurd h (by simp))⟩)⟩)⟩)⟩)⟩)⟩)⟩)⟩)⟩)⟩)⟩)⟩) hold
          clear hφ hold hsz hde
          simp only [putAll]
          go_frame
          go_wp2_with fail
          go_ret
          exact ⟨by rw [HF.out]; rfl, HBW.out.trans (hG.mono HBW.out.size)⟩
      | true =>
        have HE : Hid (at_ t jx = at_ u jx) := Lib.hid (by rw [HNN.out, HMM.out]; exact HEQ.out rfl)
        refine region_st (fun j v w' => match j with | 0 => v = .pointer (some ⟨P, 0, none⟩) | 1 => v = .slice (some ⟨B, o, none⟩) t.length c | 2 => v = .int .i64 (jx : Nat) | 3 => v = .pointer (some ⟨B, o + jx * 5, none⟩) | 4 => v = .agg #[.int .i64 k, .int .i64 l, .int .i64 z, .slice RA sq.length rc, .slice RB en.length rd] | 5 => v = .pointer (some ⟨P + 1, 0, none⟩) | 6 => v = .slice (some ⟨B', o', none⟩) u.length c' | 7 => v = .int .i64 (jx : Nat) | 8 => v = .pointer (some ⟨B', o' + jx * 5, none⟩) | 9 => v = .agg #[.int .i64 k', .int .i64 l', .int .i64 z', .slice RA' sq'.length rc', .slice RB' en'.length rd'] | 10 => v = .bool true | 11 => v = .bool false | _ => True) (fun _ w' => Below wr.heap.size wr w') (fun w1 w2 => Below w1.heap.size w1 w2) (by kernel_rfl) (by kernel_rfl) (by kernel_rfl) ?hR ?hG ?hops ?hend
        case hR =>
          intro j v w1 w2 hv hb
          match j, hv with
          | 0, hv => exact hv
          | 1, hv => exact hv
          | 2, hv => exact hv
          | 3, hv => exact hv
          | 4, hv => exact hv
          | 5, hv => exact hv
          | 6, hv => exact hv
          | 7, hv => exact hv
          | 8, hv => exact hv
          | 9, hv => exact hv
          | 10, hv => exact hv
          | 11, hv => exact hv
          | _ + 12, _ => exact trivial
        case hG => exact (Below.refl _ _).drew
        case hops =>
          refine OpsOkS.cons ?o0 (OpsOkS.cons ?o1 (OpsOkS.cons ?o2 (OpsOkS.cons ?o3 (OpsOkS.cons ?o4 (OpsOkS.cons ?o5 (OpsOkS.cons ?o6 (OpsOkS.cons ?o7 (OpsOkS.cons ?o8 (OpsOkS.cons ?o9 (OpsOkS.cons ?o10 (OpsOkS.cons ?o11 OpsOkS.nil)))))))))))
          case o0 =>
            intro a w1 Kx hG need old hsz fresh hKx
            have e0 : a.tmps[2]?.getD undef = .pointer (some ⟨P, 0, none⟩) := by rw [← Array.getD_eq_getD_getElem?]; exact old 2 (by kernel_rfl)
            refine op_value (v := .pointer (some ⟨P, 0, none⟩)) (wanted_none rfl) ?_ (hKx _ w1 rfl hG (Below.refl _ _))
            simp [execOp, go_sem, e0]
          case o1 =>
            intro a w1 Kx hG need old hsz fresh hKx
            have e0 : a.tmps[19]?.getD undef = .pointer (some ⟨P, 0, none⟩) := by rw [← Array.getD_eq_getD_getElem?]; exact (need 0 (by kernel_rfl) (by kernel_rfl))
            have k0 := (HKY.out w1 hG).1
            refine op_value (v := .slice (some ⟨B, o, none⟩) t.length c) (wanted_none rfl) ?_ (hKx _ w1 rfl hG (Below.refl _ _))
            simp [execOp, go_sem, e0, k0]
          case o2 =>
            intro a w1 Kx hG need old hsz fresh hKx
            have e0 : a.tmps[5]?.getD undef = .int .i64 (jx : Nat) := by rw [← Array.getD_eq_getD_getElem?]; exact old 5 (by kernel_rfl)
            refine op_value (v := .int .i64 (jx : Nat)) (wanted_none rfl) ?_ (hKx _ w1 rfl hG (Below.refl _ _))
            simp [execOp, go_sem, e0]
          case o3 =>
            intro a w1 Kx hG need old hsz fresh hKx
            have e0 : a.tmps[20]?.getD undef = .slice (some ⟨B, o, none⟩) t.length c := by rw [← Array.getD_eq_getD_getElem?]; exact (need 1 (by kernel_rfl) (by kernel_rfl))
            have e1 : a.tmps[21]?.getD undef = .int .i64 (jx : Nat) := by rw [← Array.getD_eq_getD_getElem?]; exact (need 2 (by kernel_rfl) (by kernel_rfl))
            refine op_value (v := .pointer (some ⟨B, o + jx * 5, none⟩)) (wanted_none rfl) ?_ (hKx _ w1 rfl hG (Below.refl _ _))
            simp [execOp, go_sem, e0, e1, HIX.out]
          case o4 =>
            intro a w1 Kx hG need old hsz fresh hKx
            have e0 : a.tmps[22]?.getD undef = .pointer (some ⟨B, o + jx * 5, none⟩) := by rw [← Array.getD_eq_getD_getElem?]; exact (need 3 (by kernel_rfl) (by kernel_rfl))
            obtain ⟨j0, j1, j2, j3, j4⟩ := (HKY.out w1 hG).2.2.1
            refine op_value (v := .agg #[.int .i64 k, .int .i64 l, .int .i64 z, .slice RA sq.length rc, .slice RB en.length rd]) (wanted_none rfl) ?_ (hKx _ w1 rfl hG (Below.refl _ _))
            simp [execOp, go_sem, e0, j0, j1, j2, j3, j4]
          case o5 =>
            intro a w1 Kx hG need old hsz fresh hKx
            have e0 : a.tmps[3]?.getD undef = .pointer (some ⟨P + 1, 0, none⟩) := by rw [← Array.getD_eq_getD_getElem?]; exact old 3 (by kernel_rfl)
            refine op_value (v := .pointer (some ⟨P + 1, 0, none⟩)) (wanted_none rfl) ?_ (hKx _ w1 rfl hG (Below.refl _ _))
            simp [execOp, go_sem, e0]
          case o6 =>
            intro a w1 Kx hG need old hsz fresh hKx
            have e0 : a.tmps[24]?.getD undef = .pointer (some ⟨P + 1, 0, none⟩) := by rw [← Array.getD_eq_getD_getElem?]; exact (need 5 (by kernel_rfl) (by kernel_rfl))
            have k0 := (HKY.out w1 hG).2.1
            refine op_value (v := .slice (some ⟨B', o', none⟩) u.length c') (wanted_none rfl) ?_ (hKx _ w1 rfl hG (Below.refl _ _))
            simp [execOp, go_sem, e0, k0]
          case o7 =>
            intro a w1 Kx hG need old hsz fresh hKx
            have e0 : a.tmps[5]?.getD undef = .int .i64 (jx : Nat) := by rw [← Array.getD_eq_getD_getElem?]; exact old 5 (by kernel_rfl)
            refine op_value (v := .int .i64 (jx : Nat)) (wanted_none rfl) ?_ (hKx _ w1 rfl hG (Below.refl _ _))
            simp [execOp, go_sem, e0]
          case o8 =>
            intro a w1 Kx hG need old hsz fresh hKx
            have e0 : a.tmps[25]?.getD undef = .slice (some ⟨B', o', none⟩) u.length c' := by rw [← Array.getD_eq_getD_getElem?]; exact (need 6 (by kernel_rfl) (by kernel_rfl))
            have e1 : a.tmps[26]?.getD undef = .int .i64 (jx : Nat) := by rw [← Array.getD_eq_getD_getElem?]; exact (need 7 (by kernel_rfl) (by kernel_rfl))
            refine op_value (v := .pointer (some ⟨B', o' + jx * 5, none⟩)) (wanted_none rfl) ?_ (hKx _ w1 rfl hG (Below.refl _ _))
            simp [execOp, go_sem, e0, e1, HIX'.out]
          case o9 =>
            intro a w1 Kx hG need old hsz fresh hKx
            have e0 : a.tmps[27]?.getD undef = .pointer (some ⟨B', o' + jx * 5, none⟩) := by rw [← Array.getD_eq_getD_getElem?]; exact (need 8 (by kernel_rfl) (by kernel_rfl))
            obtain ⟨j0, j1, j2, j3, j4⟩ := (HKY.out w1 hG).2.2.2.1
            refine op_value (v := .agg #[.int .i64 k', .int .i64 l', .int .i64 z', .slice RA' sq'.length rc', .slice RB' en'.length rd']) (wanted_none rfl) ?_ (hKx _ w1 rfl hG (Below.refl _ _))
            simp [execOp, go_sem, e0, j0, j1, j2, j3, j4]
          case o10 =>
            intro a w1 Kx hG need old hsz fresh hKx
            have e0 : a.tmps[23]?.getD undef = .agg #[.int .i64 k, .int .i64 l, .int .i64 z, .slice RA sq.length rc, .slice RB en.length rd] := by rw [← Array.getD_eq_getD_getElem?]; exact (need 4 (by kernel_rfl) (by kernel_rfl))
            have e1 : a.tmps[28]?.getD undef = .agg #[.int .i64 k', .int .i64 l', .int .i64 z', .slice RA' sq'.length rc', .slice RB' en'.length rd'] := by rw [← Array.getD_eq_getD_getElem?]; exact (need 9 (by kernel_rfl) (by kernel_rfl))
            refine op_call (wanted_none rfl) (f := 30) (args := #[.agg #[.int .i64 k, .int .i64 l, .int .i64 z, .slice RA sq.length rc, .slice RB en.length rd], .agg #[.int .i64 k', .int .i64 l', .int .i64 z', .slice RA' sq'.length rc', .slice RB' en'.length rd']]) ?run ((HCS.out w1 hG).mono ?post)
            case run => simp [go_sem, e0, e1]
            case post =>
              rintro e w2 ⟨rfl, hb2⟩
              exact ⟨_, rfl, hKx _ w2 rfl (hG.trans (hb2.mono hG.size)) hb2⟩
          case o11 =>
            intro a w1 Kx hG need old hsz fresh hKx
            have e0 : a.tmps[29]?.getD undef = .bool true := by rw [← Array.getD_eq_getD_getElem?]; exact (need 10 (by kernel_rfl) (by kernel_rfl))
            refine op_value (v := .bool false) (wanted_none rfl) ?_ (hKx _ w1 rfl hG (Below.refl _ _))
            simp [execOp, go_sem, e0]
        case hend =>
          intro a w6 hG hde hsz hφ hold
          obtain rfl := act_puts [(19, .pointer (some ⟨P, 0, none⟩)), (20, .slice (some ⟨B, o, none⟩) t.length c), (21, .int .i64 (jx : Nat)), (22, .pointer (some ⟨B, o + jx * 5, none⟩)), (23, .agg #[.int .i64 k, .int .i64 l, .int .i64 z, .slice RA sq.length rc, .slice RB en.length rd]), (24, .pointer (some ⟨P + 1, 0, none⟩)), (25, .slice (some ⟨B', o', none⟩) u.length c'), (26, .int .i64 (jx : Nat)), (27, .pointer (some ⟨B', o' + jx * 5, none⟩)), (28, .agg #[.int .i64 k', .int .i64 l', .int .i64 z', .slice RA' sq'.length rc', .slice RB' en'.length rd']), (29, .bool true), (30, .bool false)] [19, 20, 21, 22, 23, 24, 25, 26, 27, 28, 29, 30] rfl (by kernel_rfl) (by kernel_rfl) hde hsz (List.forall_mem_cons.2 ⟨(show a.tmps.getD 19 undef = .pointer (some ⟨P, 0, none⟩) from (hφ 0 (by kernel_rfl))), (List.forall_mem_cons.2 ⟨(show a.tmps.getD 20 undef = .slice (some ⟨B, o, none⟩) t.length c from (hφ 1 (by kernel_rfl))), (List.forall_mem_cons.2 ⟨(show a.tmps.getD 21 undef = .int .i64 (jx : Nat) from (hφ 2 (by kernel_rfl))), (List.forall_mem_cons.2 ⟨(show a.tmps.getD 22 undef = .pointer (some ⟨B, o + jx * 5, none⟩) from (hφ 3 (by kernel_rfl))), (List.forall_mem_cons.2 ⟨(show a.tmps.getD 23 undef = .agg #[.int .i64 k, .int .i64 l, .int .i64 z, .slice RA sq.length rc, .slice RB en.length rd] from (hφ 4 (by kernel_rfl))), (List.forall_mem_cons.2 ⟨(show a.tmps.getD 24 undef = .pointer (some ⟨P + 1, 0, none⟩) from (hφ 5 (by kernel_rfl))), (List.forall_mem_cons.2 ⟨(show a.tmps.getD 25 undef = .slice (some ⟨B', o', none⟩) u.length c' from (hφ 6 (by kernel_rfl))), (List.forall_mem_cons.2 ⟨(show a.tmps.getD 26 undef = .int .i64 (jx : Nat) from (hφ 7 (by kernel_rfl))), (List.forall_mem_cons.2 ⟨(show a.tmps.getD 27 undef = .pointer (some ⟨B', o' + jx * 5, none⟩) from (hφ 8 (by kernel_rfl))), (List.forall_mem_cons.2 ⟨(show a.tmps.getD 28 undef = .agg #[.int .i64 k', .int .i64 l', .int .i64 z', .slice RA' sq'.length rc', .slice RB' en'.length rd'] from (hφ 9 (by kernel_rfl))), (List.forall_mem_cons.2 ⟨(show a.tmps.getD 29 undef = .bool true from (hφ 10 (by kernel_rfl))), (List.forall_mem_cons.2 ⟨(show a.tmps.getD 30 undef = .bool false from (hφ 11 (by kernel_rfl))), (fun _ h => absurd h (by simp))⟩)⟩)⟩)⟩)⟩)⟩)⟩)⟩)⟩)⟩)⟩)⟩) hold
          clear hφ hold hsz hde
          simp only [putAll]
          go_frame
          go_wp2_with fail
          go_roundw
          case rel =>
            refine ⟨jx + 1, by omega, by go_num, Lib.hid fun y hy => ?_, Lib.hid (HB.out.trans (hG.mono HB.out.size))⟩
            by_cases e : y = jx
            · subst e; exact HE.out
            · exact HI.out y (by omega)
          case measure => simp [RowKit.intOf]; omega
    · have d2 : decide ((jx : Int) < (t.length : Int)) = false := decide_eq_false (by omega)
      have HF : Hid (R = true) := Lib.hid (by
        rw [← HR.out]
        refine decide_eq_true (List.ext_getElem HL.out fun i h1 h2 => ?_)
        have := HI.out i (by omega)
        rwa [at_lt h1, at_lt h2] at this)
      go_wp2_with fail
      go_ret
      exact ⟨by rw [HF.out]; rfl, HBW.out⟩
end Go.Proofs.YtfboilbmehcgoaaDoor

/- Rows of nodes of the call's own; a node appended to one. -/
namespace Go.Proofs.YtfboilbmehcgoaaDoor
open Go.RowKit Go.Lib

def nenc (n : Nd) (a : NAddr) : List Value := [.int .i64 n.k, .int .i64 n.l, .int .i64 n.z, .slice a.A n.sq.length a.c, .slice a.B n.en.length a.d]
def ncells (r : Nat → NAddr) : Nat → List Nd → List Value
  | _, [] => []
  | i, n :: t => nenc n (r i) ++ ncells r (i + 1) t
theorem ncells_len (r : Nat → NAddr) : ∀ (i : Nat) (t : List Nd), (ncells r i t).length = t.length * 5
  | _, [] => rfl
  | i, n :: t => by rw [ncells, List.length_append, ncells_len r (i + 1) t, List.length_cons]; simp [nenc]; omega
theorem ncells_app (r : Nat → NAddr) : ∀ (i : Nat) (t u : List Nd), ncells r i (t ++ u) = ncells r i t ++ ncells r (i + t.length) u
  | i, [], u => by simp [ncells]
  | i, n :: t, u => by
    rw [List.cons_append, ncells, ncells, ncells_app r (i + 1) t u, List.length_cons, List.append_assoc, show i + 1 + t.length = i + (t.length + 1) by omega]
theorem ncells_congr {r r' : Nat → NAddr} : ∀ (i : Nat) (t : List Nd), (∀ j, i ≤ j → j < i + t.length → r j = r' j) → ncells r i t = ncells r' i t
  | _, [], _ => rfl
  | i, n :: t, h => by
    rw [ncells, ncells, h i (Nat.le_refl _) (by simp), ncells_congr (i + 1) t (fun j h1 h2 => h j (by omega) (by rw [List.length_cons]; omega))]
theorem ncells_at (r : Nat → NAddr) : ∀ (i : Nat) (t : List Nd) (j : Nat) (h : j < t.length) (f : Nat), f < 5 → (ncells r i t)[j * 5 + f]? = (nenc t[j] (r (i + j)))[f]?
  | _, [], _, h, _, _ => by cases h
  | i, n :: t, 0, h, f, hf => by
    rw [ncells, List.getElem?_append_left (by simp [nenc]; omega)]
    simp
  | i, n :: t, j + 1, h, f, hf => by
    rw [ncells, List.getElem?_append_right (by simp [nenc]; omega)]
    have e : (j + 1) * 5 + f - (nenc n (r i)).length = j * 5 + f := by simp [nenc]; omega
    rw [e, ncells_at r (i + 1) t j (by simpa using h) f hf, show i + 1 + j = i + (j + 1) by omega]
    rfl
theorem nenc_one {n : Nd} {a : NAddr} {u : Value} (h : u ∈ nenc n a) : u.oneCell' = true := by
  simp [nenc] at h
  rcases h with rfl | rfl | rfl | rfl | rfl <;> rfl
/-- A tree's nodes, all of the call's own. -/
structure TOwn (w : World) (base : Nat) (v : Value) (t : List Nd) (r : Nat → NAddr) : Prop where
  row : w.ownsRow base 32 5 v t.length (ncells r 0 t)
  sq : ∀ j (h : j < t.length), IOwn w base (.slice (r j).A t[j].sq.length (r j).c) t[j].sq
  en : ∀ j (h : j < t.length), EOwn w base (.slice (r j).B t[j].en.length (r j).d) t[j].en
theorem ndtypes : (3 : TypeId) ≠ 32 ∧ (34 : TypeId) ≠ 32 := by decide
theorem TOwn.nil (w : World) (base : Nat) (r : Nat → NAddr) : TOwn w base (.slice none 0 0) [] r := ⟨World.ownsRow_nil _ _ _ _, (fun _ h => by cases h), (fun _ h => by cases h)⟩
theorem TOwn.keep {w w' : World} {base : Nat} {v : Value} {t : List Nd} {r : Nat → NAddr} (h : TOwn w base v t r) (hk : ∀ b, base ≤ b → b < w.heap.size → w'.heap[b]? = w.heap[b]?) : TOwn w' base v t r :=
  ⟨own_keep h.row fun g e => hk g (h.row.lt g e).1 (h.row.lt g e).2, fun j hj => own_keep (h.sq j hj) fun g e => hk g ((h.sq j hj).lt g e).1 ((h.sq j hj).lt g e).2, fun j hj => own_keep (h.en j hj) fun g e => hk g ((h.en j hj).lt g e).1 ((h.en j hj).lt g e).2⟩
theorem TOwn.below {w w' : World} {base : Nat} {v : Value} {t : List Nd} {r : Nat → NAddr} (h : TOwn w base v t r) (hb : Below w.heap.size w w') : TOwn w' base v t r := h.keep fun b _ hl => hb.block b hl
theorem TOwn.base {w : World} {b b' : Nat} {v : Value} {t : List Nd} {r : Nat → NAddr} (h : TOwn w b v t r) (hb : b' ≤ b) : TOwn w b' v t r :=
  ⟨own_base h.row hb, fun j hj => own_base (h.sq j hj) hb, fun j hj => own_base (h.en j hj) hb⟩
theorem TOwn.where_ {w : World} {base cap : Nat} {q : Option Addr} {t : List Nd} {r : Nat → NAddr} (h : TOwn w base (.slice q t.length cap) t r) : t.length ≤ cap ∧ (q = none → cap = 0) := by
  rcases h.row.2 with ⟨e, e2⟩ | ⟨g, cap', cur, e, _, _, hc, _⟩
  · simp at e
    obtain ⟨rfl, e3, rfl⟩ := e
    exact ⟨by omega, fun _ => rfl⟩
  · simp at e
    obtain ⟨rfl, rfl⟩ := e
    exact ⟨hc, fun e => by cases e⟩
/-- .. stands there as a tree does. -/
theorem TOwn.lies {w : World} {base cap : Nat} {q : Option Addr} {t : List Nd} {r : Nat → NAddr} (h : TOwn w base (.slice q t.length cap) t r) (ht : t.length ≤ 40) (hs : ∀ n ∈ t, n.sq.length ≤ 60 ∧ n.en.length ≤ 60) : TLies w q cap t r := by
  obtain ⟨w1, w2⟩ := h.where_
  refine ⟨fun hn => ?_, fun e => ?_, w1, by unfold maxLen; omega⟩
  · rcases h.row.2 with ⟨e, e2⟩ | ⟨g, cap', cur, e, hb, hg, hc, _, _, htk⟩
    · omega
    · simp at e
      obtain ⟨rfl, rfl⟩ := e
      refine ⟨g, 0, rfl, lt_size hg, fun j hj => ?_⟩
      have key : ∀ f, f < 5 → w.cell? ⟨g, 0 + j * 5 + f, none⟩ = (nenc t[j] (r j))[f]? := fun f hf => by
        have h1 := ncells_at r 0 t j hj f hf
        rw [← htk, List.getElem?_take_of_lt (by omega), Nat.zero_add] at h1
        rw [← h1, Nat.zero_add]
        simp [World.cell?, hg]
      have hsj := hs _ (List.getElem_mem hj)
      exact ⟨⟨key 0 (by omega), key 1 (by omega), key 2 (by omega), key 3 (by omega), key 4 (by omega)⟩, nlies_own (h.sq j hj) (h.en j hj) (by unfold maxLen; omega) (by unfold maxLen; omega)⟩
  · have h0 := w2 e
    exact ⟨List.eq_nil_of_length_eq_zero (by omega), h0⟩
theorem info_nodeF : (Tryd.prog.info? 32).map (fun i => (i.zero, i.size, i.bytes)) = some (some (.agg #[.int .i64 0, .int .i64 0, .int .i64 0, .slice none 0 0, .slice none 0 0]), 5, 72) := by kernel_rfl
theorem node_partsF : ∃ i, Tryd.prog.info? 32 = some i ∧ i.zero = some (.agg #[.int .i64 0, .int .i64 0, .int .i64 0, .slice none 0 0, .slice none 0 0]) ∧ i.size = 5 ∧ i.bytes = 72 := by
  have h := info_nodeF
  cases e : Tryd.prog.info? 32 with
  | none => rw [e] at h; cases h
  | some i =>
    rw [e] at h
    simp only [Option.map_some, Option.some.injEq, Prod.mk.injEq] at h
    exact ⟨i, rfl, h.1, h.2.1, h.2.2⟩
/-- One node, newly built, and its rows. -/
def OneN (X w : World) (n : Nd) (s : Nat) : Prop := ∃ a : NAddr, w.heap[s]? = some (.cells #[.int .i64 n.k, .int .i64 n.l, .int .i64 n.z, .slice a.A n.sq.length a.c, .slice a.B n.en.length a.d] 32 (0, 0)) ∧ CopyRes X w n.sq n.en a.A a.B a.c a.d
theorem OneN.below {X w w' : World} {n : Nd} {s : Nat} (h : OneN X w n s) (hb : Below w.heap.size w w') : OneN X w' n s := by
  obtain ⟨a, h1, h2⟩ := h
  exact ⟨a, (hb.block s (lt_size h1)).trans h1, h2.below hb⟩
theorem run_napp {w : World} {base m s : Nat} {v : Value} {xs : List Value} {n : Nd} {a : NAddr} (ty : TypeId) (hown : w.ownsRow base 32 5 v m xs) (hs : w.heap[s]? = some (.cells #[.int .i64 n.k, .int .i64 n.l, .int .i64 n.z, .slice a.A n.sq.length a.c, .slice a.B n.en.length a.d] 32 (0, 0))) (h63 : m + 1 ≤ 100000) (hbase : base ≤ w.heap.size) :
    ∃ q cap w', (Builtin.append_ #[22, 22] ty #[v, .slice (some ⟨s, 0, none⟩) 1 1]).run Tryd.prog w = .ok (.slice q (m + 1) cap) w' ∧ w'.ownsRow base 32 5 (.slice q (m + 1) cap) (m + 1) (xs ++ nenc n a) ∧ w.grownBy w' v.ownBlock := by
  obtain ⟨i, hi, hz, hs5, hb⟩ := node_partsF
  obtain ⟨v', w', hr, h2, h3, _⟩ := run_append_own (P := Tryd.prog) (w := w) base 22 ty 32 i _ 5 72 Tryd.underlying22 hi hz hs5 hb rfl (by omega) v m xs hown ⟨s, 0, none⟩ 1 1 (nenc n a) rfl (fun k u hu => by
    have ea : (⟨s, 0, none⟩ : Addr).add k = ⟨s, k, none⟩ := by
      unfold Addr.add
      split
      · next e => subst e; rfl
      · simp
    rw [ea]
    have hk : k < 5 := by
      have := (List.getElem?_eq_some_iff.1 hu).1
      simpa [nenc] using this
    rcases (by omega : k = 0 ∨ k = 1 ∨ k = 2 ∨ k = 3 ∨ k = 4) with rfl | rfl | rfl | rfl | rfl <;> (simp [nenc] at hu; subst hu; simp [World.cell?, hs])) (fun u hu => nenc_one hu) (by unfold maxLen; omega) (by omega) hbase
  obtain ⟨q, cap, rfl, _⟩ := own_slice h2
  exact ⟨q, cap, w', hr, h2, h3⟩
theorem wpList_napp {w : World} {ops : Array Oper} {rest : List Oper} {o : Oper} {a : Act} {Q : Exit → Act → World → Prop} (hgd : o.guard = none) (x y : Operand) (ho : o.op = .call { callee := .builtin .append, args := #[x, y], argTypes := #[22, 22] })
    (base m s : Nat) (v : Value) (xs : List Value) (n : Nd) (na : NAddr) (hs : a.eval x = v) (hx : a.eval y = .slice (some ⟨s, 0, none⟩) 1 1) (hown : w.ownsRow base 32 5 v m xs) (hc : w.heap[s]? = some (.cells #[.int .i64 n.k, .int .i64 n.l, .int .i64 n.z, .slice na.A n.sq.length na.c, .slice na.B n.en.length na.d] 32 (0, 0))) (h63 : m + 1 ≤ 100000) (hbase : base ≤ w.heap.size)
    (h : ∀ q cap w', w'.ownsRow base 32 5 (.slice q (m + 1) cap) (m + 1) (xs ++ nenc n na) → w.grownBy w' v.ownBlock → wpList Tryd.prog ops Q rest (a.put o.dst (.slice q (m + 1) cap)) w') : wpList Tryd.prog ops Q (o :: rest) a w :=
  wpList_plain hgd fun _ hK => by
    obtain ⟨q, cap, w', hr, h2, h3⟩ := run_napp o.type hown hc h63 hbase
    unfold Oper.wp execOp
    simp only [ho, resolve, invoke, builtin, Sem.run_bind, Sem.run_pure, Result.andThen_ok, List.map_toArray, List.map_cons, List.map_nil, hs, hx, hr]
    exact hK _ _ (h q cap w' h2 h3)
/-- The row behind the append: a node more, with its rows. -/
theorem TOwn.more {w w' X : World} {base m cap : Nat} {v : Value} {q : Option Addr} {t : List Nd} {r : Nat → NAddr} {n : Nd} {a : NAddr} (h : TOwn w base v t r) (hm : t.length = m) (hrow : w'.ownsRow base 32 5 (.slice q (m + 1) cap) (m + 1) (ncells r 0 t ++ nenc n a)) (hg : w.grownBy w' v.ownBlock) (hc : CopyRes X w n.sq n.en a.A a.B a.c a.d) (hX : base ≤ X.heap.size) :
    TOwn w' base (.slice q (m + 1) cap) (t ++ [n]) (fun i => if i = m then a else r i) := by
  subst hm
  have e1 : ncells (fun i => if i = t.length then a else r i) 0 (t ++ [n]) = ncells r 0 t ++ nenc n a := by
    rw [ncells_app, ncells_congr (r' := r) 0 t (fun j _ hj => if_neg (by omega)), ncells, ncells]
    simp
  have el : (t ++ [n]).length = t.length + 1 := by simp
  refine ⟨by rw [e1, el]; exact hrow, fun j hj => ?_, fun j hj => ?_⟩
  · rw [el] at hj
    by_cases e : j = t.length
    · subst e
      have e2 : (t ++ [n])[t.length] = n := by simp
      rw [if_pos rfl, e2]
      exact own_base (own_keep hc.i fun g e => hg.block g (hc.i.lt g e).2 (fun h2 => row_apart hc.i h.row ndtypes.1 e h2.symm)) hX
    · have hj2 : j < t.length := by omega
      have e2 : (t ++ [n])[j] = t[j] := List.getElem_append_left hj2
      rw [if_neg e, e2]
      exact own_keep (h.sq j hj2) fun g e => hg.block g ((h.sq j hj2).lt g e).2 (fun h2 => row_apart (h.sq j hj2) h.row ndtypes.1 e h2.symm)
  · rw [el] at hj
    by_cases e : j = t.length
    · subst e
      have e2 : (t ++ [n])[t.length] = n := by simp
      rw [if_pos rfl, e2]
      exact own_base (own_keep hc.e fun g e => hg.block g (hc.e.lt g e).2 (fun h2 => row_apart hc.e h.row ndtypes.2 e h2.symm)) hX
    · have hj2 : j < t.length := by omega
      have e2 : (t ++ [n])[j] = t[j] := List.getElem_append_left hj2
      rw [if_neg e, e2]
      exact own_keep (h.en j hj2) fun g e => hg.block g ((h.en j hj2).lt g e).2 (fun h2 => row_apart (h.en j hj2) h.row ndtypes.2 e h2.symm)
end Go.Proofs.YtfboilbmehcgoaaDoor

/- The reference's CopyTree (written by mktrg.py). -/
namespace Go.Proofs.YtfboilbmehcgoaaDoor
open Go.RowKit Go.Lib

/-- What a call that copies a tree answers. -/
def CopyTPost (w : World) (t : List Nd) (e : Ending) (w' : World) : Prop :=
  ∃ q cap r, e = .returned (.agg #[.slice q t.length cap]) ∧ TOwn w' w.heap.size (.slice q t.length cap) t r ∧ Below w.heap.size w w'
theorem tbox_cell {w : World} {p : Nat} {v : Value} (h : w.heap[p]? = some (.cells #[v] 24 (0, 0))) : w.cell? ⟨p, 0, none⟩ = some v ∧ w.frozen? ⟨p, 0, none⟩ = false := by
  exact ⟨by simp [World.cell?, h], by simp [World.frozen?, h]⟩
theorem tbox_set {w : World} {p : Nat} {v : Value} (h : w.heap[p]? = some (.cells #[v] 24 (0, 0))) (u : Value) : (w.setCell ⟨p, 0, none⟩ u).heap[p]? = some (.cells #[u] 24 (0, 0)) := by
  rw [heap_setCell_same _ p 0 _ _ _ h]; rfl
set_option maxRecDepth 100000 in
set_option maxHeartbeats 8000000 in
theorem copyTr_any (t : List Nd) (A : Option Addr) (c : Nat) (r : Nat → NAddr) (w : World) (h : TLies w A c t r) (h40 : t.length ≤ 40) (h60 : ∀ n ∈ t, n.sq.length ≤ 60 ∧ n.en.length ≤ 60) : Calls Tryd.prog 12 #[.agg #[.slice A t.length c]] w (CopyTPost w t) := by
  have HH := Lib.hid h
  have H60 := Lib.hid h60
  clear h h60
  go_enter Tryd.func12, Tryd.ntmps12
  go_upto_region 2 with (fail)
  obtain ⟨W, hW⟩ : ∃ X, X = ((w.alloc (.cells #[.slice A t.length c] 24)).alloc (.cells #[.slice none 0 0] 24)).alloc (.cells #[.slice none 0 0] 24) := ⟨_, rfl⟩
  obtain ⟨P, hP⟩ : ∃ p, p = w.heap.size := ⟨_, rfl⟩
  rw [← hW, ← hP]
  have hWz : W.heap.size = P + 3 := by rw [hW, hP]; simp
  have z1 : (w.alloc (.cells #[.slice A t.length c] 24)).heap.size = P + 1 := by rw [hP]; simp
  have z2 : ((w.alloc (.cells #[.slice A t.length c] 24)).alloc (.cells #[.slice none 0 0] 24)).heap.size = P + 2 := by rw [hP]; simp
  have b1 := (Below.refl (w.alloc (.cells #[.slice A t.length c] 24)).heap.size _).alloc (Nat.le_refl _) (.cells #[.slice none 0 0] 24)
  have b2 := (Below.refl ((w.alloc (.cells #[.slice A t.length c] 24)).alloc (.cells #[.slice none 0 0] 24)).heap.size _).alloc (Nat.le_refl _) (.cells #[.slice none 0 0] 24)
  have HW0 : Hid (W.heap[P]? = some (.cells #[.slice A t.length c] 24 (0, 0))) := Lib.hid (by rw [hW]; exact (b2.block P (by omega)).trans ((b1.block P (by omega)).trans (by rw [hP]; exact heap_alloc_new _ _)))
  have HW1 : Hid (W.heap[P + 1]? = some (.cells #[.slice none 0 0] 24 (0, 0))) := Lib.hid (by
    have := heap_alloc_new (w.alloc (.cells #[.slice A t.length c] 24)) (.cells #[.slice none 0 0] 24)
    rw [z1] at this
    rw [hW]; exact (b2.block (P + 1) (by omega)).trans this)
  have HW2 : Hid (W.heap[P + 2]? = some (.cells #[.slice none 0 0] 24 (0, 0))) := Lib.hid (by
    have := heap_alloc_new ((w.alloc (.cells #[.slice A t.length c] 24)).alloc (.cells #[.slice none 0 0] 24)) (.cells #[.slice none 0 0] 24)
    rw [z2] at this
    rw [hW]; exact this)
  have HBA : Hid (Below w.heap.size w W) := Lib.hid (by rw [hW]; exact (((Below.refl _ _).alloc (Nat.le_refl _) _).alloc (by simp) _).alloc (by simp; omega) _)
  have HWZ := Lib.hid hWz
  have HPw : Hid (w.heap.size = P) := Lib.hid hP.symm
  clear hW hP hWz z1 z2 b1 b2
  obtain ⟨PR, hPR⟩ : ∃ x, x = P + 1 := ⟨_, rfl⟩
  obtain ⟨PO, hPO⟩ : ∃ x, x = P + 1 + 1 := ⟨_, rfl⟩
  rw [show P + 2 = P + 1 + 1 from rfl, ← hPO] at HW2
  rw [← hPO]
  rw [← hPR] at HW1 ⊢
  have HPO : Hid (P < PO ∧ PR < PO ∧ P < PR ∧ W.heap.size = PO + 1) := Lib.hid (by have := HWZ.out; omega)
  clear hPR hPO
  have HTL : Hid (∀ w1, Below PO W w1 → TLies w1 A c t r) := Lib.hid fun w1 hb => HH.out.below (HBA.out.trans (hb.mono (by have := HPO.out; have := HPw.out; omega)))
  have q0 := (tbox_cell HW0.out).1
  go_wp2_with fail
  go_loopw [5, 9] (fun _ v9 wr => ∃ (jx cap : Nat) (q : Option Addr) (r' : Nat → NAddr), jx ≤ t.length ∧ v9 = .int .i64 jx ∧ Hid (wr.heap[PO]? = some (.cells #[.slice q jx cap] 24 (0, 0))) ∧ Hid (TOwn wr W.heap.size (.slice q jx cap) (t.take jx) r') ∧ Hid (Below PO W wr)) (fun _ v9 _ => t.length - (RowKit.intOf v9).toNat)
  case atStart => exact ⟨0, 0, none, r, Nat.zero_le _, rfl, HW2, Lib.hid (TOwn.nil _ _ _), Lib.hid (Below.refl _ _)⟩
  case round =>
    clear q0
    obtain ⟨jx, cap, q, r', hj, rfl, HO, HT, HB⟩ := hrel
    by_cases hj1 : jx < t.length
    · have d2 : decide ((jx : Int) < (t.length : Int)) = true := decide_eq_true (by omega)
      have hlen : Hid ((t.take jx).length = jx) := Lib.hid (by rw [List.length_take]; omega)
      have HTK : Hid (t.take (jx + 1) = t.take jx ++ [at_ t jx]) := Lib.hid (by rw [at_lt hj1]; exact List.take_succ_eq_append_getElem hj1)
      have h6 := H60.out _ (at_mem hj1)
      obtain ⟨B, o, rfl, hBs, hc, hn⟩ := (HTL.out wr HB.out).node hj1
      obtain ⟨⟨RA, RB, rc, rd⟩, hr⟩ : ∃ a, a = r jx := ⟨_, rfl⟩
      rw [← hr] at hc hn
      have HNR : Hid (∀ w1, Below PO W w1 → NLies w1 (at_ t jx) RA RB rc rd) := Lib.hid fun w1 hb => by
        have := (HTL.out w1 hb).rows hj1
        rw [← hr] at this
        exact this
      generalize at_ t jx = n at hc hn h6 HTK HNR
      obtain ⟨k, l, z, sq, en⟩ := n
      obtain ⟨c0, c1, c2, c3, c4⟩ := hc
      have H6 := Lib.hid h6
      have HBX := Lib.hid ((Below.refl wr.heap.size wr).alloc (Nat.le_refl _) (.cells #[.int .i64 k, .int .i64 l, .int .i64 z, .slice RA sq.length rc, .slice RB en.length rd] 32))
      have HXX := Lib.hid (heap_alloc_new wr (.cells #[.int .i64 k, .int .i64 l, .int .i64 z, .slice RA sq.length rc, .slice RB en.length rd] 32))
      have HPB := Lib.hid (HB.out.alloc (Nat.le_trans (by have := HPO.out; omega) HB.out.size) (.cells #[.int .i64 k, .int .i64 l, .int .i64 z, .slice RA sq.length rc, .slice RB en.length rd] 32))
      clear hn hr h6
      go_upto_region 5 with (fail)
      generalize wr.alloc _ = X at HBX HXX HPB ⊢
      obtain ⟨p, hp⟩ : ∃ p, p = wr.heap.size := ⟨_, rfl⟩
      rw [← hp] at HXX ⊢
      have HPX : Hid (PO < wr.heap.size ∧ wr.heap.size ≤ X.heap.size ∧ p < X.heap.size ∧ W.heap.size ≤ wr.heap.size) := Lib.hid ⟨lt_size HO.out, HBX.out.size, lt_size HXX.out, HB.out.size⟩
      have HKY : Hid (∀ w1, Below X.heap.size X w1 → w1.cell? ⟨PO, 0, none⟩ = some (.slice q jx cap) ∧ BoxAt w1 p k l z (.slice RA sq.length rc) (.slice RB en.length rd)) := Lib.hid fun w1 hb => by
        have hz := HPX.out
        exact ⟨(tbox_cell ((hb.block PO (by omega)).trans ((HBX.out.block PO (by omega)).trans HO.out))).1, (hb.block p hz.2.2.1).trans HXX.out⟩
      have HNX : Hid (∀ w1, Below X.heap.size X w1 → NLies w1 ⟨k, l, z, sq, en⟩ RA RB rc rd) := Lib.hid fun w1 hb => HNR.out w1 (HPB.out.trans (hb.mono (by have := HPX.out; omega)))
      have HCP := Lib.hid (fun w1 (hw : NLies w1 ⟨k, l, z, sq, en⟩ RA RB rc rd) => copyr_any ⟨k, l, z, sq, en⟩ RA RB rc rd w1 hw H6.out.1 H6.out.2)
      clear hp c0 c1 c2 c3 c4
      refine region_tail 5 (fun j v w' => match j with | 0 => v = .pointer (some ⟨PO, 0, none⟩) | 1 => v = .slice q jx cap | 2 => v = .agg #[.int .i64 k, .int .i64 l, .int .i64 z, .slice RA sq.length rc, .slice RB en.length rd] | 3 => ∃ A1 B1 c1 d1, v = .agg #[.int .i64 k, .int .i64 l, .int .i64 z, .slice A1 sq.length c1, .slice B1 en.length d1] ∧ CopyRes X w' sq en A1 B1 c1 d1 | 4 => ∃ s, v = .slice (some ⟨s, 0, none⟩) 1 1 ∧ OneN X w' ⟨k, l, z, sq, en⟩ s | _ => True) (fun vs w' => Below X.heap.size X w' ∧ Apart2 [] vs w') (fun w1 w2 => Below w1.heap.size w1 w2) (by kernel_rfl) (by kernel_rfl) (by kernel_rfl) (by kernel_rfl) (by kernel_rfl) (by kernel_rfl) ?hR ?hG ?hops ?hend
      case hR =>
        intro j v w1 w2 hv hb
        match j, hv with
        | 0, hv => exact hv
        | 1, hv => exact hv
        | 2, hv => exact hv
        | 3, ⟨A1, B1, c1, d1, e, h⟩ => exact ⟨A1, B1, c1, d1, e, h.below hb⟩
        | 4, ⟨s, e, h⟩ => exact ⟨s, e, h.below hb⟩
        | _ + 5, _ => exact trivial
      case hG => exact ⟨(Below.refl _ _).drew, ⟨fun i hi => absurd hi (by simp), fun i hi => absurd hi (by simp)⟩⟩
      case hops =>
        refine OpsOkS.cons ?o0 (OpsOkS.cons ?o1 (OpsOkS.cons ?o2 (OpsOkS.cons ?o3 (OpsOkS.cons ?o4 OpsOkS.nil))))
        case o0 =>
          intro a w1 Kx hG need old hsz fresh hKx
          have e0 : a.tmps[3]?.getD undef = .pointer (some ⟨PO, 0, none⟩) := by rw [← Array.getD_eq_getD_getElem?]; exact old 3 (by kernel_rfl)
          refine op_value (v := .pointer (some ⟨PO, 0, none⟩)) (wanted_none rfl) ?_ (hKx _ w1 rfl ⟨hG.1, hG.2.keep (by decide) (Nat.le_refl _)⟩ (Below.refl _ _))
          simp [execOp, go_sem, e0]
        case o1 =>
          intro a w1 Kx hG need old hsz fresh hKx
          have e0 : a.tmps[13]?.getD undef = .pointer (some ⟨PO, 0, none⟩) := by rw [← Array.getD_eq_getD_getElem?]; exact (need 0 (by kernel_rfl) (by kernel_rfl))
          have k0 := (HKY.out w1 hG.1).1
          refine op_value (v := .slice q jx cap) (wanted_none rfl) ?_ (hKx _ w1 rfl ⟨hG.1, hG.2.keep (by decide) (Nat.le_refl _)⟩ (Below.refl _ _))
          simp [execOp, go_sem, e0, k0]
        case o2 =>
          intro a w1 Kx hG need old hsz fresh hKx
          have e0 : a.tmps[5]?.getD undef = .pointer (some ⟨p, 0, none⟩) := by rw [← Array.getD_eq_getD_getElem?]; exact old 5 (by kernel_rfl)
          obtain ⟨j0, j1, j2, j3, j4⟩ := (HKY.out w1 hG.1).2.cells
          refine op_value (v := .agg #[.int .i64 k, .int .i64 l, .int .i64 z, .slice RA sq.length rc, .slice RB en.length rd]) (wanted_none rfl) ?_ (hKx _ w1 rfl ⟨hG.1, hG.2.keep (by decide) (Nat.le_refl _)⟩ (Below.refl _ _))
          simp [execOp, go_sem, e0, j0, j1, j2, j3, j4]
        case o3 =>
          intro a w1 Kx hG need old hsz fresh hKx
          have e0 : a.tmps[15]?.getD undef = .agg #[.int .i64 k, .int .i64 l, .int .i64 z, .slice RA sq.length rc, .slice RB en.length rd] := by rw [← Array.getD_eq_getD_getElem?]; exact (need 2 (by kernel_rfl) (by kernel_rfl))
          refine op_call (wanted_none rfl) (f := 29) (args := #[.agg #[.int .i64 k, .int .i64 l, .int .i64 z, .slice RA sq.length rc, .slice RB en.length rd]]) ?run ((HCP.out w1 (HNX.out w1 hG.1)).mono ?post)
          case run => simp [go_sem, e0]
          case post =>
            rintro e w2 ⟨A1, B1, c1, d1, rfl, h1, h2, hb2⟩
            exact ⟨_, rfl, hKx _ w2 ⟨A1, B1, c1, d1, rfl, ⟨own_base h1 hG.1.size, own_base h2 hG.1.size⟩⟩ ⟨hG.1.trans (hb2.mono hG.1.size), hG.2.keep (by decide) hb2.size⟩ hb2⟩
        case o4 =>
          intro a w1 Kx hG need old hsz fresh hKx
          obtain ⟨A1, B1, c1, d1, qe0, he0⟩ := need 3 (by kernel_rfl) (by kernel_rfl)
          have e0 : a.tmps[16]?.getD undef = .agg #[.int .i64 k, .int .i64 l, .int .i64 z, .slice A1 sq.length c1, .slice B1 en.length d1] := by rw [← Array.getD_eq_getD_getElem?]; exact qe0
          refine op_value (v := .slice (some ⟨w1.heap.size, 0, none⟩) 1 1) (wanted_none rfl) ?_ (hKx _ (w1.alloc (.cells #[.int .i64 k, .int .i64 l, .int .i64 z, .slice A1 sq.length c1, .slice B1 en.length d1] 32)) ⟨w1.heap.size, rfl, ⟨⟨A1, B1, c1, d1⟩, heap_alloc_new _ _, he0.below ((Below.refl _ _).alloc (Nat.le_refl _) _)⟩⟩ ⟨hG.1.alloc hG.1.size _, hG.2.keep (by decide) (by simp)⟩ ((Below.refl _ _).alloc (Nat.le_refl _) _))
          simp [execOp, go_sem, e0]
      case hend =>
        intro a w6 hG hde hsz hφ hold
        obtain ⟨A1_3, B1_3, c1_3, d1_3, hv_3, hp_3⟩ := hφ 3 (by decide)
        obtain ⟨s_4, hv_4, hp_4⟩ := hφ 4 (by decide)
        obtain rfl := act_puts [(13, .pointer (some ⟨PO, 0, none⟩)), (14, .slice q jx cap), (15, .agg #[.int .i64 k, .int .i64 l, .int .i64 z, .slice RA sq.length rc, .slice RB en.length rd]), (16, .agg #[.int .i64 k, .int .i64 l, .int .i64 z, .slice A1_3 sq.length c1_3, .slice B1_3 en.length d1_3]), (17, .slice (some ⟨s_4, 0, none⟩) 1 1)] [13, 14, 15, 16, 17] rfl (by kernel_rfl) (by kernel_rfl) hde hsz (List.forall_mem_cons.2 ⟨(show a.tmps.getD 13 undef = .pointer (some ⟨PO, 0, none⟩) from (hφ 0 (by decide))), (List.forall_mem_cons.2 ⟨(show a.tmps.getD 14 undef = .slice q jx cap from (hφ 1 (by decide))), (List.forall_mem_cons.2 ⟨(show a.tmps.getD 15 undef = .agg #[.int .i64 k, .int .i64 l, .int .i64 z, .slice RA sq.length rc, .slice RB en.length rd] from (hφ 2 (by decide))), (List.forall_mem_cons.2 ⟨(show a.tmps.getD 16 undef = .agg #[.int .i64 k, .int .i64 l, .int .i64 z, .slice A1_3 sq.length c1_3, .slice B1_3 en.length d1_3] from hv_3), (List.forall_mem_cons.2 ⟨(show a.tmps.getD 17 undef = .slice (some ⟨s_4, 0, none⟩) 1 1 from hv_4), (fun _ h => absurd h (by simp))⟩)⟩)⟩)⟩)⟩) hold
        clear hφ hold hsz hde hv_3 hv_4
        simp only [putAll]
        simp only [List.drop_succ_cons, List.drop_zero]
        obtain ⟨hG, -⟩ := hG
        go_frame
        obtain ⟨na, hs4, hcr⟩ := hp_4
        have HG6 := Lib.hid hG
        have HCR := Lib.hid hcr
        have HT6 : Hid (TOwn w6 W.heap.size (.slice q jx cap) (t.take jx) r') := Lib.hid ((HT.out.below HBX.out).below hG)
        have HROW : Hid (w6.ownsRow W.heap.size 32 5 (.slice q jx cap) jx (ncells r' 0 (t.take jx))) := Lib.hid (by have := HT6.out.row; rwa [hlen.out] at this)
        have HS4 := Lib.hid hs4
        have HP6 : Hid (Below PO W w6) := Lib.hid (HPB.out.trans (hG.mono (by have := HPX.out; omega)))
        have HO6 : Hid (w6.heap[PO]? = some (.cells #[.slice q jx cap] 24 (0, 0))) := Lib.hid ((hG.block PO (by have := HPX.out; omega)).trans ((HBX.out.block PO (by have := HPX.out; omega)).trans HO.out))
        clear hG hcr hs4 hp_3
        refine wpList_napp rfl (.tmp 14) (.tmp 17) rfl W.heap.size jx s_4 (.slice q jx cap) (ncells r' 0 (t.take jx)) ⟨k, l, z, sq, en⟩ na rfl rfl HROW.out HS4.out (by omega) (by have := HP6.out.size; omega) fun q2 cap2 w7 hrow hgr => ?_
        have HR7 := Lib.hid hrow
        have HG7 := Lib.hid hgr
        have HOB : Hid (∀ g, (Value.slice q jx cap).ownBlock = some g → W.heap.size ≤ g) := Lib.hid fun g e => (HROW.out.lt g e).1
        have HO7 : Hid (w7.heap[PO]? = some (.cells #[.slice q jx cap] 24 (0, 0))) := Lib.hid ((hgr.block PO (lt_size HO6.out) (fun e => by have := HOB.out PO e.symm; have := HPO.out; omega)).trans HO6.out)
        obtain ⟨u0, f0⟩ := tbox_cell HO7.out
        clear hrow hgr
        go_wp2_with fail
        go_roundw
        case rel =>
          refine ⟨jx + 1, cap2, q2, fun i => if i = jx then na else r' i, by omega, by go_num, Lib.hid (tbox_set HO7.out _), Lib.hid ?_, Lib.hid ?_⟩
          · rw [HTK.out]
            exact (HT6.out.more hlen.out HR7.out HG7.out HCR.out (by have := HPX.out; omega)).keep fun b h1 _ => Below.heap_setCell _ _ _ _ (by have := HPO.out; show b ≠ PO; omega)
          · exact (HP6.out.grown HG7.out (by have := HP6.out.size; have := HPO.out; omega) (fun g e => by have := HOB.out g e; have := HPO.out; omega)).setCell (Nat.le_refl _) _
        case measure => simp [RowKit.intOf]; omega
    · have d2 : decide ((jx : Int) < (t.length : Int)) = false := decide_eq_false (by omega)
      obtain rfl : jx = t.length := by omega
      have HTE := HT.out
      rw [List.take_length] at HTE
      have HTF := Lib.hid HTE
      obtain ⟨u0, -⟩ := tbox_cell HO.out
      have HR1 : Hid (wr.heap[PR]? = some (.cells #[.slice none 0 0] 24 (0, 0))) := Lib.hid ((HB.out.block PR (by have := HPO.out; omega)).trans HW1.out)
      obtain ⟨u1, f1⟩ := tbox_cell HR1.out
      clear HTE
      go_wp2_with fail
      refine bodyPost_ret (results_cell_row rfl _ _ PR _ _ _ _ rfl (tbox_set HR1.out _) Tryd.underlying24 rfl (by kernel_rfl)) rfl ?_
      refine ⟨q, cap, r', rfl, (HTF.out.keep fun b h1 _ => Below.heap_setCell _ _ _ _ (by have := HPO.out; show b ≠ PR; omega)).base HBA.out.size, ?_⟩
      exact (HBA.out.trans (HB.out.mono (by have := HPO.out; have := HPw.out; omega))).setCell (by have := HPO.out; have := HPw.out; show w.heap.size ≤ PR; omega) _
end Go.Proofs.YtfboilbmehcgoaaDoor
