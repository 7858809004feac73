/- A scan in however many steps; a chip on which sheets were programmed in order; what is found there. -/
import Derived.Test.YtnadcdgpfopcaaaMoU
namespace Go.Proofs.Ytnadcdgpfopcaaa
open Go.RowKit

/-- The page that is number q over all, if it is read. -/
def seenQ (S : LS) (P q : Nat) : List P2 := if (tellB S ((q / P : Nat) : Int)).next = 0 then [] else [(((q / P : Nat) : Int), ((q % P : Nat) : Int))]
theorem seenQ_same {S S' : LS} (h : S'.bl = S.bl) (P q : Nat) : seenQ S' P q = seenQ S P q := by unfold seenQ; rw [tell_same h]
theorem seen_len (S : LS) (P e : Nat) : ((List.range e).flatMap (seenQ S P)).length ≤ e := by
  induction e with
  | zero => simp
  | succ e ih =>
    rw [List.range_succ, List.flatMap_append, List.length_append]
    have : ([e].flatMap (seenQ S P)).length ≤ 1 := by
      rw [List.flatMap_singleton]; unfold seenQ; split <;> simp
    omega
theorem pgs_q (P b fr en : Nat) (hP : 0 < P) : pgs P b fr en = (List.range' (max fr (b * P)) (min en (b * P + P) - max fr (b * P))).map fun q => (((q / P : Nat) : Int), ((q % P : Nat) : Int)) := by
  unfold pgs
  apply List.ext_getElem
  · simp
  · intro i h1 h2
    simp only [List.length_map, List.length_range'] at h1 h2
    simp only [List.getElem_map, List.getElem_range', Nat.one_mul]
    have e : max fr (b * P) + i = (max fr (b * P) - b * P + i) + P * b := by rw [Nat.mul_comm P b]; omega
    have hlt : max fr (b * P) - b * P + i < P := by omega
    rw [e, Nat.add_mul_div_left _ _ hP, Nat.add_mul_mod_self_left, Nat.div_eq_of_lt hlt, Nat.mod_eq_of_lt hlt, Nat.zero_add]
theorem seen_block (S : LS) (P b : Nat) (l : List Nat) (h : ∀ q ∈ l, q / P = b) : l.flatMap (seenQ S P) = if (tellB S (b : Int)).next = 0 then [] else l.map fun q => (((q / P : Nat) : Int), ((q % P : Nat) : Int)) := by
  induction l with
  | nil => split <;> rfl
  | cons q l ih =>
    rw [List.flatMap_cons, ih fun x hx => h x (List.mem_cons_of_mem _ hx)]
    have hq := h q List.mem_cons_self
    have e : seenQ S P q = if (tellB S (b : Int)).next = 0 then [] else [(((q / P : Nat) : Int), ((q % P : Nat) : Int))] := by unfold seenQ; rw [hq]
    rw [e]
    split
    · rfl
    · rfl
theorem wrTo_q (S : LS) (P fr en k : Nat) (hP : 0 < P) : wrTo S P fr en k = (List.range' fr (min en (k * P) - fr)).flatMap (seenQ S P) := by
  induction k with
  | zero => simp [wrTo_zero]
  | succ k ih =>
    rw [wrTo_succ, ih]
    have e : (k + 1) * P = k * P + P := by rw [Nat.add_mul, Nat.one_mul]
    rw [e]
    have hd : List.range' fr (min en (k * P + P) - fr) = List.range' fr (min en (k * P) - fr) ++ List.range' (max fr (k * P)) (min en (k * P + P) - max fr (k * P)) := by
      generalize k * P = f
      rcases Nat.lt_or_ge (max fr f) (min en (f + P)) with h | h
      · have e1 : max fr f = fr + (min en f - fr) := by omega
        have e2 : min en (f + P) - fr = (min en f - fr) + (min en (f + P) - max fr f) := by omega
        rw [e2, ← List.range'_append_1, ← e1]
      · have e1 : min en (f + P) - max fr f = 0 := by omega
        have e2 : min en (f + P) - fr = min en f - fr := by omega
        rw [e1, e2]; simp
    rw [hd, List.flatMap_append]
    congr 1
    rw [seen_block S P k _ fun q hq => by
      rw [List.mem_range'_1] at hq
      obtain ⟨h1, h2⟩ := hq
      have : k * P ≤ q := by omega
      have h3 : q < (k + 1) * P := by rw [e]; omega
      rw [Nat.div_eq_of_lt_le this h3]]
    split
    · rfl
    · rw [pgs_q _ _ _ _ hP]
theorem visits_append (M : MS) (l l' : List P2) : M.visits (l ++ l') = (M.visits l).visits l' := by simp [MS.visits]
theorem note_k (M : MS) (sp : P2) (l : List UInt8) (k : Nat) : ({ M with k := k } : MS).note sp l = { M.note sp l with k := k } := by
  unfold MS.note
  cases parseL l with
  | none => rfl
  | some x =>
    obtain ⟨p, q, d⟩ := x
    by_cases h : p = 0 ∧ M.rs < q
    · simp only [if_pos h]
    · simp only [if_neg h]
theorem visit_k (M : MS) (sp : P2) (k : Nat) : ({ M with k := k } : MS).visit sp = { M.visit sp with k := k } := by
  show MS.note { ({ M with S := (rdL M.S sp.1 sp.2).2.2 } : MS) with k := k } sp (rdL M.S sp.1 sp.2).1 = _
  rw [note_k]
  rfl
theorem visits_k (l : List P2) : ∀ (M : MS) (k : Nat), ({ M with k := k } : MS).visits l = { M.visits l with k := k } := by
  induction l with
  | nil => exact fun M k => rfl
  | cons a l ih =>
    intro M k
    show ((({ M with k := k } : MS).visit a).visits l) = _
    rw [visit_k, ih]
    rfl
/-- A scan of S, e pages of it. -/
def scanned (S : LS) (e : Nat) : MS := { (startM S).visits ((List.range e).flatMap (seenQ S S.np)) with k := e }
theorem scanned_zero (S : LS) : scanned S 0 = startM S := rfl
theorem scanned_S (S : LS) (e : Nat) : (scanned S e).S.bl = S.bl ∧ (scanned S e).S.np = S.np ∧ (scanned S e).B = S.bl.length ∧ (scanned S e).P = S.np ∧ (scanned S e).k = e := by
  obtain ⟨a1, a2, a3, a4, a5, a6⟩ := visits_S ((List.range e).flatMap (seenQ S S.np)) (startM S)
  exact ⟨a1, a2, a3, a4, rfl⟩
theorem scanned_step (S : LS) (e : Nat) (n : Int) (hP : 0 < S.np) : (scanned S e).stepped n = scanned S (e + min n.toNat (S.bl.length * S.np - e)) := by
  obtain ⟨a1, a2, a3, a4, a5⟩ := scanned_S S e
  have he : (scanned S e).end_ n = e + min n.toNat (S.bl.length * S.np - e) := by
    unfold MS.end_
    rw [a3, a4, a5]
  unfold MS.stepped
  rw [he, a3, a4, a5, wrTo_q _ _ _ _ _ hP]
  generalize hE : e + min n.toNat (S.bl.length * S.np - e) = E
  have e1 : (fun q => seenQ (scanned S e).S S.np q) = seenQ S S.np := funext fun q => seenQ_same a1 _ q
  have e2 : seenQ (scanned S e).S S.np = seenQ S S.np := e1
  rw [e2]
  have h1 : scanned S E = { (startM S).visits ((List.range e).flatMap (seenQ S S.np) ++ (List.range' e (min E (S.bl.length * S.np) - e)).flatMap (seenQ S S.np)) with k := E } := by
    unfold scanned
    rw [← List.flatMap_append]
    have : List.range E = List.range e ++ List.range' e (min E (S.bl.length * S.np) - e) := by
      rw [List.range_eq_range', List.range_eq_range', show E = e + (min E (S.bl.length * S.np) - e) by omega]
      have := @List.range'_append_1 0 e (e + (min E (S.bl.length * S.np) - e) - e)
      rw [Nat.zero_add] at this
      rw [show min (e + (min E (S.bl.length * S.np) - e)) (S.bl.length * S.np) - e = e + (min E (S.bl.length * S.np) - e) - e by omega, this]
      congr 1
      omega
    rw [this]
  rw [h1, visits_append]
  have h2 : (scanned S e).visits ((List.range' e (min E (S.bl.length * S.np) - e)).flatMap (seenQ S S.np)) = { ((startM S).visits ((List.range e).flatMap (seenQ S S.np))).visits ((List.range' e (min E (S.bl.length * S.np) - e)).flatMap (seenQ S S.np)) with k := e } := visits_k _ _ e
  rw [h2]

/-- A sheet: its page, its number, its data. -/
abbrev Sh := Int × Int × List UInt8
abbrev shL (x : Sh) : List UInt8 := sheetL x.1.toNat x.2.1.toNat x.2.2
abbrev ShOk (x : Sh) : Prop := MayS x.1 x.2.1 x.2.2
def updS (F : Nat → List Sh) (b : Nat) (x : Sh) : Nat → List Sh := fun k => if k = b then F b ++ [x] else F k
/-- A chip with power, without failures; block b has the sheets F b from its first page on. -/
structure Laid (S : LS) (B P : Nat) (F : Nat → List Sh) (rd : Nat) : Prop where
  len : S.bl.length = B
  np : S.np = P
  dark : S.dark = false
  f : S.f.set = false
  c : S.c.set = false
  rd0 : 0 ≤ S.rd
  rd1 : S.rd ≤ rd
  bl : ∀ b (h : b < S.bl.length), S.bl[b].bad = false ∧ S.bl[b].next = ((F b).length : Int) ∧ S.bl[b].pages = (F b).map shL ++ List.replicate (P - (F b).length) []
  le : ∀ b, (F b).length ≤ P
  may : ∀ b, ∀ x ∈ F b, ShOk x
theorem laid_new (B P : Nat) : Laid (madeS B P []) B P (fun _ => []) 0 where
  len := by simp [madeS, badL, newS]
  np := rfl
  dark := rfl
  f := rfl
  c := rfl
  rd0 := Int.le_refl 0
  rd1 := Int.le_refl 0
  bl := fun b h => by
    have : (madeS B P []).bl[b] = newBk P := by simp [madeS, badL, newS]
    rw [this]
    exact ⟨rfl, rfl, by simp [newBk]⟩
  le := fun _ => Nat.zero_le _
  may := fun _ x hx => absurd hx (by simp)
section
variable {S : LS} {B P : Nat} {F : Nat → List Sh} {rd : Nat}
theorem isLn_at {S : LS} {b : Nat} (h : b < S.bl.length) : isL S (b : Int) = true := by unfold isL; simp; omega
theorem shL_len {x : Sh} (h : ShOk x) : 1 ≤ (shL x).length ∧ (shL x).length ≤ 2000 := ⟨by unfold shL sheetL; simp; omega, h.2.2.2⟩
theorem Laid.prog (h : Laid S B P F rd) {b : Nat} (hb : b < B) (hi : (F b).length < P) {x : Sh} (hx : ShOk x) : ∃ S', progL S (b : Int) ((F b).length : Int) (shL x) = (0, S') ∧ Laid S' B P (updS F b x) rd ∧ S'.rd = S.rd := by
  have hb' : b < S.bl.length := by rw [h.len]; exact hb
  obtain ⟨h1, h2, h3⟩ := h.bl b hb'
  obtain ⟨l1, l2⟩ := shL_len hx
  have hbar : barS S (b : Int) = 0 := by unfold barS; rw [isLn_at hb', blkL_at hb', h1, h.dark]; rfl
  have hhas : hasL S (b : Int) ((F b).length : Int) = true := by unfold hasL; rw [h.np]; simp; omega
  have href : refS S (b : Int) ((F b).length : Int) (shL x).length = 0 := by
    unfold refS
    rw [if_neg (by rw [hhas]; simp only [Bool.true_eq_false, false_or]; omega), if_neg (by rw [hbar]; simp), blkL_at hb', if_neg (by rw [h2]; simp)]
  have hc : S.c.hit = false := by unfold Tm.hit; rw [h.c]; rfl
  have hf : S.f.hit = false := by unfold Tm.hit; rw [h.f]; rfl
  have tc : S.c.tick = S.c := by unfold Tm.tick; rw [h.c]; rfl
  have tf : S.f.tick = S.f := by unfold Tm.tick; rw [h.f]; rfl
  refine ⟨{ S with pr := wrap64 (S.pr + 1), f := S.f.tick, c := S.c.tick, bl := putL S b ((F b).length : Int) false (shL x) }, by unfold progL; rw [if_neg (by rw [href]; simp), if_neg (by rw [hc]; simp), if_neg (by rw [hf]; simp)], ?_, rfl⟩
  have hlen : (putL S b ((F b).length : Int) false (shL x)).length = S.bl.length := by unfold putL; simp
  refine ⟨by show (putL S b _ false _).length = B; rw [hlen]; exact h.len, h.np, h.dark, by show S.f.tick.set = false; rw [tf]; exact h.f, by show S.c.tick.set = false; rw [tc]; exact h.c, h.rd0, h.rd1, ?_, ?_, ?_⟩
  · intro k hk
    have hk' : k < S.bl.length := by rw [← hlen]; exact hk
    by_cases e : k = b
    · subst e
      have hg : (putL S (k : Int) ((F k).length : Int) false (shL x))[k]'hk = { blkL S k with bad := false, next := (blkL S k).next + 1, pages := (blkL S k).pages.set ((F k).length : Int).toNat (shL x) } := by
        unfold putL; simp
      refine ⟨by show ((putL S (k : Int) ((F k).length : Int) false (shL x))[k]'hk).bad = false; rw [hg], ?_, ?_⟩
      · show ((putL S (k : Int) ((F k).length : Int) false (shL x))[k]'hk).next = _
        rw [hg]
        show (blkL S k).next + 1 = _
        rw [blkL_at hk', h2]
        simp [updS]
      · show ((putL S (k : Int) ((F k).length : Int) false (shL x))[k]'hk).pages = _
        rw [hg]
        show (blkL S k).pages.set _ _ = _
        rw [blkL_at hk', h3]
        simp only [updS, if_true, List.map_append, List.map_cons, List.map_nil, List.length_append, List.length_cons, List.length_nil, Int.toNat_natCast, Nat.zero_add]
        rw [List.set_append_right _ _ (by simp), List.length_map, Nat.sub_self]
        obtain ⟨m, hm⟩ : ∃ m, P - (F k).length = m + 1 := ⟨P - (F k).length - 1, by omega⟩
        rw [hm, show P - ((F k).length + 1) = m by omega, List.replicate_succ]
        simp
    · have hg : (putL S (b : Int) ((F b).length : Int) false (shL x))[k]'hk = S.bl[k] := by
        have key : ∀ (T : List Bk) (y : Bk) (ht : T = S.bl.set b y) (hk : k < T.length), T[k] = S.bl[k] := by
          rintro T y rfl hk
          exact List.getElem_set_ne (fun h => e h.symm) hk
        exact key _ _ rfl hk
      have he : updS F b x k = F k := if_neg e
      rw [he]
      show ((putL S (b : Int) ((F b).length : Int) false (shL x))[k]'hk).bad = _ ∧ ((putL S (b : Int) ((F b).length : Int) false (shL x))[k]'hk).next = _ ∧ ((putL S (b : Int) ((F b).length : Int) false (shL x))[k]'hk).pages = _
      rw [hg]
      exact h.bl k hk'
  · intro k
    unfold updS
    split
    · simp; omega
    · exact h.le k
  · intro k y hy
    unfold updS at hy
    split at hy
    · rcases List.mem_append.1 hy with hy | hy
      · exact h.may _ _ hy
      · rw [List.mem_singleton.1 hy]; exact hx
    · exact h.may _ _ hy
theorem Laid.of_bl {S' : LS} {rd' : Nat} (h : Laid S B P F rd) (h1 : S'.bl = S.bl) (h2 : S'.np = S.np) (h3 : S'.dark = S.dark) (h4 : S'.f = S.f) (h5 : S'.c = S.c) (h6 : 0 ≤ S'.rd) (h7 : S'.rd ≤ rd') : Laid S' B P F rd' where
  len := by rw [h1]; exact h.len
  np := by rw [h2]; exact h.np
  dark := by rw [h3]; exact h.dark
  f := by rw [h4]; exact h.f
  c := by rw [h5]; exact h.c
  rd0 := h6
  rd1 := h7
  bl := fun b hb => by
    have hb' : b < S.bl.length := by rw [← h1]; exact hb
    have e : S'.bl[b] = S.bl[b] := by congr 1
    rw [e]
    exact h.bl b hb'
  le := h.le
  may := h.may
/-- What a page of it has. -/
theorem Laid.page (h : Laid S B P F rd) {b i : Nat} (hb : b < B) (hi : i < P) : (rdL S (b : Int) (i : Int)).1 = ((F b)[i]?.map shL).getD [] := by
  have hb' : b < S.bl.length := by rw [h.len]; exact hb
  obtain ⟨h1, h2, h3⟩ := h.bl b hb'
  have hhas : hasL S (b : Int) (i : Int) = true := by unfold hasL; rw [h.np]; simp; omega
  unfold rdL
  rw [if_neg (by rw [hhas]; simp), if_neg (by rw [h.dark]; simp)]
  show pageL S b i = _
  unfold pageL
  rw [Int.toNat_natCast, List.getElem?_eq_getElem hb']
  show S.bl[b].pages.getD ((i : Int).toNat) [] = _
  rw [h3, Int.toNat_natCast, List.getD_eq_getElem?_getD]
  rcases Nat.lt_or_ge i (F b).length with hl | hl
  · rw [List.getElem?_append_left (by simpa using hl), List.getElem?_map]
  · rw [List.getElem?_append_right (by simpa using hl), List.getElem?_eq_none (l := F b) hl]
    simp only [List.length_map, List.getElem?_replicate, Option.map_none, Option.getD_none]
    split <;> rfl
/-- What page q over all has, of those that are found. -/
def fdQ (F : Nat → List Sh) (P q : Nat) : List Fd := match (F (q / P))[q % P]? with
  | some x => [((x.1, x.2.1), (((q / P : Nat) : Int), ((q % P : Nat) : Int)))]
  | none => []
theorem rdL_keep (S : LS) (b pg : Int) : (rdL S b pg).2.2.bl = S.bl ∧ (rdL S b pg).2.2.np = S.np ∧ (rdL S b pg).2.2.dark = S.dark ∧ (rdL S b pg).2.2.f = S.f ∧ (rdL S b pg).2.2.c = S.c ∧ ((rdL S b pg).2.2.rd = S.rd ∨ (rdL S b pg).2.2.rd = wrap64 (S.rd + 1)) := by
  unfold rdL
  split
  · exact ⟨rfl, rfl, rfl, rfl, rfl, .inl rfl⟩
  · split
    · exact ⟨rfl, rfl, rfl, rfl, rfl, .inl rfl⟩
    · exact ⟨rfl, rfl, rfl, rfl, rfl, .inr rfl⟩
theorem note_fd (M : MS) (sp : P2) (x : Sh) (h : ShOk x) : (M.note sp (shL x)).fd = M.fd ++ [((x.1, x.2.1), sp)] := by
  obtain ⟨p, q, d⟩ := x
  unfold shL
  rw [note_some h]
  split <;> rfl
theorem note_rd (M : MS) (sp : P2) (l : List UInt8) (hr : M.rd.length ≤ 2000) : (M.note sp l).rd.length ≤ 2000 := by
  unfold MS.note
  cases e : parseL l with
  | none => exact hr
  | some x =>
    obtain ⟨p, q, d⟩ := x
    by_cases h : p = 0 ∧ M.rs < q
    · simp only [if_pos h]
      exact (parseL_some e).1.2.2.1
    · simp only [if_neg h]
      exact hr
/-- What stands in a scan of such a chip behind e pages. -/
theorem Laid.scan (h : Laid S B P F rd) (hP : 0 < P) (hr : rd ≤ 1000000) (hBP : B * P ≤ 5000) : ∀ e, e ≤ B * P → (scanned S e).fd = (List.range e).flatMap (fdQ F P) ∧ (scanned S e).rd.length ≤ 2000 ∧ Laid (scanned S e).S B P F (rd + ((List.range e).flatMap (seenQ S P)).length) ∧ S.rd ≤ (scanned S e).S.rd ∧ (scanned S e).S.rd ≤ S.rd + ((List.range e).flatMap (seenQ S P)).length := by
  have hn := h.np
  intro e
  induction e with
  | zero => exact fun _ => ⟨rfl, by simp [scanned, startM, MS.visits], by simpa [scanned, startM, MS.visits] using h, by simp [scanned, startM, MS.visits], by simp [scanned, startM, MS.visits]⟩
  | succ e ih =>
    intro he
    obtain ⟨i1, i2, i3, i4, i5⟩ := ih (by omega)
    have hbP : e / P < B := Nat.div_lt_of_lt_mul (by rw [Nat.mul_comm]; omega)
    have hmod : e % P < P := Nat.mod_lt _ hP
    have hbl : e / P < S.bl.length := by rw [h.len]; exact hbP
    obtain ⟨b1, b2, b3⟩ := h.bl _ hbl
    have hsc : scanned S (e + 1) = { (scanned S e).visits (seenQ S P e) with k := e + 1 } := by
      have h1 : (scanned S e).visits (seenQ S P e) = { ((startM S).visits ((List.range e).flatMap (seenQ S S.np))).visits (seenQ S P e) with k := e } := visits_k _ _ e
      rw [h1]
      unfold scanned
      rw [hn, List.range_succ, List.flatMap_append, visits_append, List.flatMap_singleton]
    have hlen := seen_len S P e
    rw [hsc, List.range_succ, List.flatMap_append, List.flatMap_append, List.flatMap_singleton, List.flatMap_singleton]
    have htell : tellB S ((e / P : Nat) : Int) = S.bl[e / P] := by unfold tellB; rw [isLn_at hbl, if_pos rfl, blkL_at hbl]
    by_cases h0 : (F (e / P)).length = 0
    · have hs : seenQ S P e = [] := by unfold seenQ; rw [htell, b2, h0]; rfl
      have hf : fdQ F P e = [] := by unfold fdQ; rw [List.eq_nil_of_length_eq_zero h0]; rfl
      rw [hs, hf]
      simp only [List.append_nil]
      exact ⟨i1, i2, i3, i4, i5⟩
    · have hs : seenQ S P e = [(((e / P : Nat) : Int), ((e % P : Nat) : Int))] := by unfold seenQ; rw [htell, b2, if_neg (by omega)]
      rw [hs]
      obtain ⟨M, hM⟩ : ∃ M, scanned S e = M := ⟨_, rfl⟩
      rw [hM] at i1 i2 i3 i4 i5 ⊢
      have hv : M.visits [(((e / P : Nat) : Int), ((e % P : Nat) : Int))] = M.visit (((e / P : Nat) : Int), ((e % P : Nat) : Int)) := rfl
      rw [hv]
      have hpg := i3.page hbP hmod
      obtain ⟨k1, k2, k3, k4, k5, k6⟩ := rdL_keep M.S ((e / P : Nat) : Int) ((e % P : Nat) : Int)
      obtain ⟨n1, -, -, -, -⟩ := note_S { M with S := (rdL M.S ((e / P : Nat) : Int) ((e % P : Nat) : Int)).2.2 } (((e / P : Nat) : Int), ((e % P : Nat) : Int)) (rdL M.S ((e / P : Nat) : Int) ((e % P : Nat) : Int)).1
      have hVS : (M.visit (((e / P : Nat) : Int), ((e % P : Nat) : Int))).S = (rdL M.S ((e / P : Nat) : Int) ((e % P : Nat) : Int)).2.2 := n1
      have hrd : M.S.rd ≤ (rdL M.S ((e / P : Nat) : Int) ((e % P : Nat) : Int)).2.2.rd ∧ (rdL M.S ((e / P : Nat) : Int) ((e % P : Nat) : Int)).2.2.rd ≤ M.S.rd + 1 := by
        have := i3.rd0
        have := i3.rd1
        rcases k6 with k | k
        · omega
        · rw [k]
          unfold wrap64
          omega
      have hrd0 := i3.rd0
      have hL := i3.of_bl (S' := (rdL M.S ((e / P : Nat) : Int) ((e % P : Nat) : Int)).2.2) (rd' := rd + (((List.range e).flatMap (seenQ S P)) ++ [(((e / P : Nat) : Int), ((e % P : Nat) : Int))]).length) k1 k2 k3 k4 k5 (by omega) (by have := i3.rd1; simp only [List.length_append, List.length_cons, List.length_nil]; omega)
      refine ⟨?_, ?_, ?_, ?_, ?_⟩
      · show (M.visit (((e / P : Nat) : Int), ((e % P : Nat) : Int))).fd = _
        unfold MS.visit
        rw [hpg]
        cases hx : (F (e / P))[e % P]? with
        | none =>
          have hq : fdQ F P e = [] := by unfold fdQ; rw [hx]
          rw [hq]
          show (MS.note _ _ []).fd = _
          rw [note_none empty_none, List.append_nil]
          exact i1
        | some x =>
          have hq : fdQ F P e = [((x.1, x.2.1), (((e / P : Nat) : Int), ((e % P : Nat) : Int)))] := by unfold fdQ; rw [hx]
          rw [hq]
          show (MS.note _ _ (shL x)).fd = _
          rw [note_fd _ _ _ (h.may _ x (List.mem_of_getElem? hx))]
          show M.fd ++ _ = _
          rw [i1]
      · show (M.visit (((e / P : Nat) : Int), ((e % P : Nat) : Int))).rd.length ≤ 2000
        exact note_rd _ _ _ i2
      · show Laid (M.visit (((e / P : Nat) : Int), ((e % P : Nat) : Int))).S B P F _
        rw [hVS]; exact hL
      · show S.rd ≤ (M.visit (((e / P : Nat) : Int), ((e % P : Nat) : Int))).S.rd
        rw [hVS]; omega
      · show (M.visit (((e / P : Nat) : Int), ((e % P : Nat) : Int))).S.rd ≤ _
        rw [hVS]
        simp only [List.length_append, List.length_cons, List.length_nil]
        omega
end
end Go.Proofs.Ytnadcdgpfopcaaa
