/- What a pool's calls answer, and how they turn it, as functions of the datum. -/
import Derived.Test.YtnadcdgpfopcaaaGreatPoA
namespace Go.Proofs.YtnadcdgpfopcaaaGreat
open Go.RowKit

def PS.bads (Q : PS) : Int := (badB Q.S.bl : Int) - Q.bad
def PS.over (Q : PS) : Bool := decide (Q.Sp < Q.bads)
def PS.held (Q : PS) (i : Int) : Nat := liveT Q.L i + liveT Q.F i
def PS.at (Q : PS) (r : P2) : Option P2 := if (atT Q.F r).isSome = true then atT Q.F r else atT Q.L r
def PS.gone (Q : PS) : PS := { Q with down := Q.down || Q.S.dark }
def PS.undo (Q : PS) : PS := { Q with F := [] }
def PS.passed (Q : PS) (e : Int) : Int := if e ≠ 3 then e else if Q.over = true then 6 else 0
def PS.floor (Q : PS) : Int := floorP Q.B Q.P Q.Sp Q.K Q.U Q.bads
def PS.counts (Q : PS) : List Int := Q.S.bl.map fun b : Bk => b.count
/-- Of those that are clean all but the open one. -/
def inClean (l : List Bk) (op : Int) : List Bool := (cleansB l).foldl (fun a i => a.set i.toNat (i != op)) (List.replicate l.length false)
def PS.clean (Q : PS) (hot : Bool) : Int := if hot = true then hotP (Q.counts.zip (inClean Q.S.bl Q.op)) else coldP (Q.counts.zip (inClean Q.S.bl Q.op))
def inDue (l : List Bk) (op : Int) : List Bool := if op = -1 then l.map (fun b : Bk => !b.bad) else (l.map (fun b : Bk => !b.bad)).set op.toNat false
def PS.due (Q : PS) : Int := dueP (Q.counts.zip (inDue Q.S.bl Q.op)) Q.U
def bkAt (Q : PS) (i : Int) : Bk := Q.S.bl.getD i.toNat noB
def PS.fewer (Q : PS) (s : Int × Int) (i : Nat) : Bool :=
  !((bkAt Q i).bad || cleanB (bkAt Q i)) && (decide ((Q.held i : Int) < s.2) || (decide ((Q.held i : Int) = s.2) && decide (s.1 ≠ -1) && decide ((bkAt Q i).count < (bkAt Q s.1).count)))
def PS.few (Q : PS) (s : Int × Int) (i : Nat) : Int × Int := if Q.fewer s i = true then (i, Q.held i) else s
def PS.fewTo (Q : PS) (k : Nat) : Int × Int := (List.range k).foldl Q.few (-1, Q.P)
def PS.fewest (Q : PS) : Int := (Q.fewTo Q.S.bl.length).1
def PS.pages : PS → List (List UInt8) → List Fd → Int × List (List UInt8) × PS
  | Q, acc, [] => (0, acc, Q)
  | Q, acc, f :: r => if (rdL Q.S f.2.1 f.2.2).2.1 = 0 then PS.pages { Q with S := (rdL Q.S f.2.1 f.2.2).2.2 } (acc ++ [(rdL Q.S f.2.1 f.2.2).1]) r else ((rdL Q.S f.2.1 f.2.2).2.1, [], { Q with S := (rdL Q.S f.2.1 f.2.2).2.2 })
def PS.fill : PS → Int → Nat → List (List UInt8) → Int × PS
  | Q, _, _, [] => (0, Q)
  | Q, td, i, b :: r => if (progL Q.S td i b).1 = 0 then PS.fill { Q with S := (progL Q.S td i b).2 } td (i + 1) r else ((progL Q.S td i b).1, { Q with S := (progL Q.S td i b).2 })
def PS.put1 (Q : PS) (td : Int) (i : Nat) (f : Fd) : PS := if (onT Q.F f.2).isSome = true then { Q with F := putT Q.F f.1 (td, i) } else { Q with L := putT Q.L f.1 (td, i) }
def PS.settle : PS → Int → Nat → List Fd → PS
  | Q, _, _, [] => Q
  | Q, td, i, f :: r => (Q.put1 td i f).settle td (i + 1) r
/-- Its tables are not too long; a block's number is one (so that a step is told at all). -/
abbrev PS.small (Q : PS) : Prop := Q.L.length ≤ 200 ∧ Q.F.length ≤ 200
abbrev PS.num (Q : PS) (i : Int) : Prop := 0 ≤ i ∧ i < Q.B
def PS.moveLoop (l : List Fd) (pg : List (List UInt8)) (hot : Bool) : Nat → PS → Option (Int × Int × PS)
  | 0, _ => none
  | n + 1, Q =>
    if Q.clean hot = -1 then some (-1, 6, Q)
    else if ¬ Q.num (Q.clean hot) then none
    else if (Q.fill (Q.clean hot) 0 pg).1 = 0 then (if ((Q.fill (Q.clean hot) 0 pg).2.settle (Q.clean hot) 0 l).small then some (Q.clean hot, 0, (Q.fill (Q.clean hot) 0 pg).2.settle (Q.clean hot) 0 l) else none)
    else if (Q.fill (Q.clean hot) 0 pg).2.passed (Q.fill (Q.clean hot) 0 pg).1 = 0 then PS.moveLoop l pg hot n (Q.fill (Q.clean hot) 0 pg).2
    else some (-1, (Q.fill (Q.clean hot) 0 pg).2.passed (Q.fill (Q.clean hot) 0 pg).1, (Q.fill (Q.clean hot) 0 pg).2)
def PS.here (Q : PS) (i : Int) : List Fd := inT Q.L i ++ inT Q.F i
def PS.move (n : Nat) (Q : PS) (i : Int) (hot : Bool) : Option (Int × Int × PS) :=
  if (Q.pages [] (Q.here i)).1 = 0 then PS.moveLoop (Q.here i) (Q.pages [] (Q.here i)).2.1 hot n (Q.pages [] (Q.here i)).2.2
  else some (-1, (Q.pages [] (Q.here i)).1, (Q.pages [] (Q.here i)).2.2)
/-- The block is erased; a failure goes by. -/
def PS.wipe (Q : PS) (i : Int) : Int × PS := (({ Q with S := (eraseL Q.S i).2 } : PS).passed (eraseL Q.S i).1, { Q with S := (eraseL Q.S i).2 })
def PS.renew (n : Nat) (Q : PS) (d : Int) : Option (Int × PS) :=
  if 0 < Q.held d then
    match Q.move n d true with
    | none => none
    | some (_, e, Q1) => if e = 0 then some (Q1.wipe d) else some (e, Q1)
  else some (Q.wipe d)
def PS.level (n : Nat) : Nat → PS → Option (Int × PS)
  | 0, Q => some (0, Q)
  | k + 1, Q =>
    if Q.due = -1 then some (0, Q)
    else if ¬ Q.num Q.due then none
    else if 0 < Q.held Q.due ∧ Q.clean true = -1 then some (0, Q)
    else match Q.renew n Q.due with
      | none => none
      | some (e, Q1) => if e = 0 then PS.level n k Q1 else some (e, Q1)
def PS.wiped (n : Nat) (Q : PS) (v : Int) : Option (Int × PS) := if (Q.wipe v).1 = 0 then PS.level n (Q.B + 2).toNat (Q.wipe v).2 else some (Q.wipe v)
def PS.empty (n : Nat) (Q : PS) : Option (Int × PS) :=
  if Q.fewest = -1 then some (6, Q)
  else if ¬ Q.num Q.fewest then none
  else if 0 < Q.held Q.fewest then
    match Q.move n Q.fewest false with
    | none => none
    | some (td, e, Q1) => if e = 0 then (if Q1.num td then PS.wiped n { Q1 with op := td } Q.fewest else none) else some (e, Q1)
  else PS.wiped n Q Q.fewest
def PS.shut (Q : PS) : PS := if Q.op ≠ -1 ∧ leftB (tellB Q.S Q.op) Q.P = 0 then { Q with op := -1 } else Q
def PS.beginLoop (n : Nat) : Nat → PS → Option (Int × PS)
  | 0, _ => none
  | k + 1, Q =>
    if Q.op ≠ -1 then some (0, Q)
    else if Q.floor < ((cleansB Q.S.bl).length : Int) then (if Q.num (Q.clean false) then some (0, { Q with op := Q.clean false }) else none)
    else match Q.empty n with
      | none => none
      | some (e, Q1) => if e = 0 then PS.beginLoop n k Q1 else some (e, Q1)
def PS.begin (n : Nat) (Q : PS) : Option (Int × PS) := PS.beginLoop n n Q.shut
def PS.nextAt (Q : PS) : P2 := (Q.op, (tellB Q.S Q.op).next)
def PS.write (n : Nat) (b : List UInt8) : Nat → PS → Option (P2 × Int × PS)
  | 0, _ => none
  | k + 1, Q =>
    match Q.begin n with
    | none => none
    | some (e, Q1) =>
      if e = 0 then
        (if (progL Q1.S Q1.nextAt.1 Q1.nextAt.2 b).1 = 0 then some (Q1.nextAt, 0, { Q1 with S := (progL Q1.S Q1.nextAt.1 Q1.nextAt.2 b).2 })
        else if ({ Q1 with S := (progL Q1.S Q1.nextAt.1 Q1.nextAt.2 b).2 } : PS).passed (progL Q1.S Q1.nextAt.1 Q1.nextAt.2 b).1 = 0 then PS.write n b k { Q1 with S := (progL Q1.S Q1.nextAt.1 Q1.nextAt.2 b).2 }
        else some ((0, 0), ({ Q1 with S := (progL Q1.S Q1.nextAt.1 Q1.nextAt.2 b).2 } : PS).passed (progL Q1.S Q1.nextAt.1 Q1.nextAt.2 b).1, { Q1 with S := (progL Q1.S Q1.nextAt.1 Q1.nextAt.2 b).2 }))
      else some ((0, 0), e, Q1)
def PS.next (Q : PS) : PS := { Q with seq := Q.seq + 1 }
def PS.give (n : Nat) (Q : PS) (page : Int) (b : List UInt8) : Option (Int × Fd × PS) :=
  if Q.gone.down = true then some (2, ((0, 0), (0, 0)), Q.gone)
  else if Q.gone.over = true then some (6, ((0, 0), (0, 0)), Q.gone)
  else match PS.write n b n Q.gone.next with
    | none => none
    | some (s, e, Q2) => if e = 0 then some (0, ((page, Q2.seq), s), Q2) else some (e, ((0, 0), (0, 0)), Q2.undo.gone)

/-- Sizes and numbers of a pool. -/
structure Ok (Q : PS) : Prop where
  may : MayP Q.B Q.P Q.Sp Q.K Q.U
  len : (Q.S.bl.length : Int) = Q.B
  np : (Q.S.np : Int) = Q.P
  bad : 0 ≤ Q.bad ∧ Q.bad ≤ 64
  op : -1 ≤ Q.op ∧ Q.op < Q.B
  seq : 0 ≤ Q.seq ∧ Q.seq ≤ 1099511627776
  tabs : Q.L.length ≤ 200 ∧ Q.F.length ≤ 200
  cnt : ∀ b ∈ Q.S.bl, (Lit.int .i64 b.count).wf = true
  next : ∀ b ∈ Q.S.bl, 0 ≤ b.next ∧ b.next ≤ Q.P
section
variable {Q : PS}
theorem Ok.lenN (h : Ok Q) : 3 ≤ Q.S.bl.length ∧ Q.S.bl.length ≤ 64 := by have := h.may.1; have := h.len; omega
theorem Ok.bads (h : Ok Q) : -64 ≤ Q.bads ∧ Q.bads ≤ 64 := by
  have := bad_le Q.S.bl
  have := h.lenN
  have := h.bad
  unfold PS.bads
  omega
theorem Ok.gone (h : Ok Q) : Ok Q.gone := { h with }
theorem Ok.undo (h : Ok Q) : Ok Q.undo := { h with tabs := ⟨h.tabs.1, by simp [PS.undo]⟩ }
theorem Ok.pg (h : Ok Q) : 2 ≤ Q.P ∧ Q.P ≤ 32 := h.may.2.1
theorem wf_of {x : Int} (h : -9223372036854775808 ≤ x ∧ x ≤ 9223372036854775807) : (Lit.int .i64 x).wf = true := by
  have h0 : IntKind.min .i64 = -9223372036854775808 := by decide
  have h1 : IntKind.max .i64 = 9223372036854775807 := by decide
  simpa [Lit.wf, h0, h1] using h
theorem wf_wrap (n : Int) : (Lit.int .i64 (wrap64 n)).wf = true := by
  have h : -9223372036854775808 ≤ wrap64 n ∧ wrap64 n ≤ 9223372036854775807 := by unfold wrap64; omega
  exact wf_of h
/-- The chip's blocks are turned one by one: as many, each in its bounds. -/
theorem Ok.chip {S : LS} (h : Ok Q) (hn : S.np = Q.S.np) (hl : S.bl.length = Q.S.bl.length) (hc : ∀ b ∈ S.bl, (Lit.int .i64 b.count).wf = true) (hx : ∀ b ∈ S.bl, 0 ≤ b.next ∧ b.next ≤ Q.P) : Ok { Q with S := S } :=
  { h with len := by rw [← h.len, ← hl], np := by rw [← h.np, ← hn], cnt := hc, next := hx }
theorem blk_mem {S : LS} {b : Int} (h : isL S b = true) : blkL S b ∈ S.bl := by
  obtain ⟨i, rfl, hi⟩ := isL_nat h
  rw [blkL_at hi]; exact List.getElem_mem hi
theorem barS_is {S : LS} {b : Int} (h : barS S b = 0) : isL S b = true ∧ S.dark = false ∧ (blkL S b).bad = false := by
  unfold barS at h
  cases h1 : isL S b <;> cases h2 : S.dark <;> cases h3 : (blkL S b).bad <;> simp_all
theorem refS_is {S : LS} {b pg : Int} {n : Nat} (h : refS S b pg n = 0) : hasL S b pg = true ∧ barS S b = 0 ∧ pg = (blkL S b).next ∧ 1 ≤ n ∧ n ≤ 2000 := by
  unfold refS at h
  split at h
  · simp at h
  · next h1 =>
    split at h
    · next h2 => exact absurd h h2
    · next h2 =>
      split at h
      · simp at h
      · next h3 =>
        have e1 : hasL S b pg = true := by
          cases e : hasL S b pg
          · exact absurd (.inl e) h1
          · rfl
        exact ⟨e1, by omega, by omega, by omega, by omega⟩
theorem Ok.prog (h : Ok Q) (b pg : Int) (l : List UInt8) : Ok { Q with S := (progL Q.S b pg l).2 } := by
  by_cases hr : refS Q.S b pg l.length = 0
  · obtain ⟨h1, h2, h3, -, -⟩ := refS_is hr
    obtain ⟨h4, -, -⟩ := barS_is h2
    obtain ⟨i, j, rfl, rfl, hi, hj⟩ := hasL_nats h1
    have hm := blk_mem h4
    have hnp := h.np
    have key : ∀ (bad : Bool) (l2 : List UInt8), (∀ x ∈ putL Q.S i j bad l2, (Lit.int .i64 x.count).wf = true) ∧ ∀ x ∈ putL Q.S i j bad l2, 0 ≤ x.next ∧ x.next ≤ Q.P := fun bad l2 => by
      refine ⟨fun x hx => ?_, fun x hx => ?_⟩
      · rcases List.mem_or_eq_of_mem_set hx with k | rfl
        · exact h.cnt x k
        · show (Lit.int .i64 (blkL Q.S i).count).wf = true
          exact h.cnt _ hm
      · rcases List.mem_or_eq_of_mem_set hx with k | rfl
        · exact h.next x k
        · have := h.next _ hm
          refine ⟨?_, ?_⟩
          · show 0 ≤ (blkL Q.S i).next + 1
            omega
          · show (blkL Q.S i).next + 1 ≤ Q.P
            omega
    have hl : ∀ (bad : Bool) (l2 : List UInt8), (putL Q.S i j bad l2).length = Q.S.bl.length := fun _ _ => List.length_set ..
    unfold progL
    rw [if_neg (by simpa using hr)]
    split
    · exact h.chip rfl (hl _ _) (key _ _).1 (key _ _).2
    · split
      · exact h.chip rfl (hl _ _) (key _ _).1 (key _ _).2
      · exact h.chip rfl (hl _ _) (key _ _).1 (key _ _).2
  · unfold progL
    rw [if_pos hr]; exact h
theorem Ok.erase (h : Ok Q) (b : Int) : Ok { Q with S := (eraseL Q.S b).2 } := by
  by_cases hr : barS Q.S b = 0
  · obtain ⟨h4, -, -⟩ := barS_is hr
    have hm := blk_mem h4
    have hnp := h.np
    have key : ∀ y : Bk, (y.count = wrap64 ((blkL Q.S b).count + 1)) → (0 ≤ y.next ∧ y.next ≤ Q.P) → (∀ x ∈ Q.S.bl.set b.toNat y, (Lit.int .i64 x.count).wf = true) ∧ ∀ x ∈ Q.S.bl.set b.toNat y, 0 ≤ x.next ∧ x.next ≤ Q.P := fun y h1 h2 => by
      refine ⟨fun x hx => ?_, fun x hx => ?_⟩
      · rcases List.mem_or_eq_of_mem_set hx with k | rfl
        · exact h.cnt x k
        · rw [h1]; exact wf_wrap _
      · rcases List.mem_or_eq_of_mem_set hx with k | rfl
        · exact h.next x k
        · exact h2
    unfold eraseL
    rw [if_neg (by simpa using hr)]
    have hn3 : 0 ≤ (blkL Q.S b).next ∧ (blkL Q.S b).next ≤ Q.P := h.next _ hm
    have he : ∀ k, 0 ≤ (emptyB (cntB (blkL Q.S b)) k Q.S.np).next ∧ (emptyB (cntB (blkL Q.S b)) k Q.S.np).next ≤ Q.P := fun k => by
      unfold emptyB; simp only; split <;> omega
    split
    · exact h.chip rfl (List.length_set ..) (key _ rfl (he _)).1 (key _ rfl (he _)).2
    · split
      · exact h.chip rfl (List.length_set ..) (key { cntB (blkL Q.S b) with bad := true } rfl hn3).1 (key { cntB (blkL Q.S b) with bad := true } rfl hn3).2
      · exact h.chip rfl (List.length_set ..) (key _ rfl (he _)).1 (key _ rfl (he _)).2
  · unfold eraseL
    rw [if_pos hr]; exact h
theorem Ok.read (h : Ok Q) (b pg : Int) : Ok { Q with S := (rdL Q.S b pg).2.2 } := by
  unfold rdL
  split
  · exact h
  · split
    · exact h
    · exact h.chip rfl rfl h.cnt h.next
theorem Ok.pages (h : Ok Q) (l : List Fd) : ∀ acc, Ok (Q.pages acc l).2.2 := by
  induction l generalizing Q with
  | nil => intro acc; exact h
  | cons f r ih =>
    intro acc
    unfold PS.pages
    split
    · exact ih (h.read _ _) _
    · exact h.read _ _
theorem pages_len (l : List Fd) : ∀ (Q : PS) acc, (Q.pages acc l).2.1.length ≤ acc.length + l.length := by
  induction l with
  | nil => intro Q acc; simp [PS.pages]
  | cons f r ih =>
    intro Q acc
    unfold PS.pages
    split
    · have := ih { Q with S := (rdL Q.S f.2.1 f.2.2).2.2 } (acc ++ [(rdL Q.S f.2.1 f.2.2).1])
      simp at this ⊢
      omega
    · simp
theorem Ok.fill (h : Ok Q) (td : Int) (pg : List (List UInt8)) : ∀ i, Ok (Q.fill td i pg).2 := by
  induction pg generalizing Q with
  | nil => intro i; exact h
  | cons b r ih =>
    intro i
    unfold PS.fill
    split
    · exact ih (h.prog _ _ _) _
    · exact h.prog _ _ _
theorem put1_S (Q : PS) (td : Int) (i : Nat) (f : Fd) : (Q.put1 td i f).S = Q.S ∧ (Q.put1 td i f).B = Q.B ∧ (Q.put1 td i f).P = Q.P ∧ (Q.put1 td i f).Sp = Q.Sp ∧ (Q.put1 td i f).K = Q.K ∧ (Q.put1 td i f).U = Q.U ∧ (Q.put1 td i f).bad = Q.bad ∧ (Q.put1 td i f).seq = Q.seq ∧ (Q.put1 td i f).op = Q.op ∧ (Q.put1 td i f).down = Q.down := by
  unfold PS.put1; split <;> exact ⟨rfl, rfl, rfl, rfl, rfl, rfl, rfl, rfl, rfl, rfl⟩
theorem settle_S (l : List Fd) (td : Int) : ∀ (Q : PS) (i : Nat), (Q.settle td i l).S = Q.S ∧ (Q.settle td i l).B = Q.B ∧ (Q.settle td i l).P = Q.P ∧ (Q.settle td i l).Sp = Q.Sp ∧ (Q.settle td i l).K = Q.K ∧ (Q.settle td i l).U = Q.U ∧ (Q.settle td i l).bad = Q.bad ∧ (Q.settle td i l).seq = Q.seq ∧ (Q.settle td i l).op = Q.op ∧ (Q.settle td i l).down = Q.down := by
  induction l with
  | nil => intro Q i; exact ⟨rfl, rfl, rfl, rfl, rfl, rfl, rfl, rfl, rfl, rfl⟩
  | cons f r ih =>
    intro Q i
    have h1 := ih (Q.put1 td i f) (i + 1)
    have h2 := put1_S Q td i f
    unfold PS.settle
    exact ⟨h1.1.trans h2.1, h1.2.1.trans h2.2.1, h1.2.2.1.trans h2.2.2.1, h1.2.2.2.1.trans h2.2.2.2.1, h1.2.2.2.2.1.trans h2.2.2.2.2.1, h1.2.2.2.2.2.1.trans h2.2.2.2.2.2.1, h1.2.2.2.2.2.2.1.trans h2.2.2.2.2.2.2.1, h1.2.2.2.2.2.2.2.1.trans h2.2.2.2.2.2.2.2.1, h1.2.2.2.2.2.2.2.2.1.trans h2.2.2.2.2.2.2.2.2.1, h1.2.2.2.2.2.2.2.2.2.trans h2.2.2.2.2.2.2.2.2.2⟩
theorem Ok.settle (h : Ok Q) (td : Int) (i : Nat) (l : List Fd) (hs : (Q.settle td i l).small) : Ok (Q.settle td i l) := by
  obtain ⟨e1, e2, e3, e4, e5, e6, e7, e8, e9, e10⟩ := settle_S l td Q i
  exact ⟨by rw [e2, e3, e4, e5, e6]; exact h.may, by rw [e1, e2]; exact h.len, by rw [e1, e3]; exact h.np, by rw [e7]; exact h.bad, by rw [e9, e2]; exact h.op, by rw [e8]; exact h.seq, hs, by rw [e1]; exact h.cnt, by rw [e1, e3]; exact h.next⟩
theorem here_len (Q : PS) (i : Int) : (Q.here i).length = Q.held i := by
  have key : ∀ T : List Fd, (inT T i).length = liveT T i := fun T => by
    unfold inT liveT
    rw [(fold_perm _ []).length_eq, List.nil_append, List.countP_eq_length_filter]
  unfold PS.here PS.held
  rw [List.length_append, key, key]
theorem Ok.held (h : Ok Q) (i : Int) : Q.held i ≤ 400 := by
  have h1 : liveT Q.L i ≤ Q.L.length := List.countP_le_length
  have h2 : liveT Q.F i ≤ Q.F.length := List.countP_le_length
  have := h.tabs
  unfold PS.held; omega
theorem Ok.wipe (h : Ok Q) (i : Int) : Ok (Q.wipe i).2 := h.erase i
theorem Ok.moveLoop {l : List Fd} {pg : List (List UInt8)} {hot : Bool} {td e : Int} {Q' : PS} : ∀ (n : Nat) (Q : PS), Ok Q → PS.moveLoop l pg hot n Q = some (td, e, Q') → Ok Q' := by
  intro n
  induction n with
  | zero => intro Q h hm; cases hm
  | succ n ih =>
    intro Q h hm
    unfold PS.moveLoop at hm
    split at hm
    · cases hm; exact h
    · split at hm
      · cases hm
      · split at hm
        · split at hm
          · next hs => cases hm; exact (h.fill _ _ _).settle _ _ _ hs
          · cases hm
        · split at hm
          · exact ih _ (h.fill _ _ _) hm
          · cases hm; exact h.fill _ _ _
theorem Ok.move {n : Nat} {i : Int} {hot : Bool} {td e : Int} {Q' : PS} (h : Ok Q) (hm : Q.move n i hot = some (td, e, Q')) : Ok Q' := by
  unfold PS.move at hm
  split at hm
  · exact Ok.moveLoop n _ (h.pages _ _) hm
  · cases hm; exact h.pages _ _
end
end Go.Proofs.YtnadcdgpfopcaaaGreat
