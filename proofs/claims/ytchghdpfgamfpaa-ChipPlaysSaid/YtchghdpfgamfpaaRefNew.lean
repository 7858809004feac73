/- The reference's NewChip: its blocks, one behind the other. -/
import Derived.Deep.RegionLaw
import Derived.Test.YtchghdpfgamfpaaSame
namespace Go.Proofs.Ytchghdpfgamfpaa
open Go.RowKit

/-- append of elements that stand, onto a slice of the call's own, as one step of a region that draws. -/
theorem step_append_at {P : Program} {w : World} {ops : Array Oper} {o : Oper} {a : Act} {K : Act → World → Prop} {Q : Exit → Act → World → Prop} {E : Prop} (hgd : o.guard = none) (s x : Operand) (t : TypeId)
    (ho : o.op = .call { callee := .builtin .append, args := #[s, x], argTypes := #[t, t] })
    (base : Nat) (e : TypeId) (i : TypeInfo) (z : Value) (size bytes : Nat) (ht : P.underlying t = some (.slice e)) (hi : P.info? e = some i) (hz : i.zero = some z)
    (hsize : i.size = size) (hby : i.bytes = bytes) (hzs : z.cells.size = size) (hsz : 0 < size)
    (v : Value) (n : Nat) (xs : List Value) (hs : a.eval s = v) (hown : w.ownsRow base e size v n xs)
    (ad : Addr) (m c : Nat) (news : List Value) (hx : a.eval x = .slice (some ad) m c) (hl : news.length = m * size) (hnews : ∀ j u, news[j]? = some u → w.cell? (ad.add j) = some u) (h1 : ∀ u ∈ news, u.oneCell' = true)
    (h63 : n + m ≤ maxLen) (hbytes : (n + m) * bytes ≤ 140737488355328) (hbase : base ≤ w.heap.size)
    (h : ∀ q cap w', w'.ownsRow base e size (.slice q (n + m) cap) (n + m) (xs ++ news) → w.grownBy w' v.ownBlock → ((Value.slice q (n + m) cap).ownBlock = v.ownBlock ∨ (Value.slice q (n + m) cap).ownBlock = some w.heap.size) → K (a.put o.dst (.slice q (n + m) cap)) w') :
    if Region.wanted o (yielded ops a.tmps) = true then Oper.wp P o a w K Q else E := by
  have hw : Region.wanted o (yielded ops a.tmps) = true := by simp [Region.wanted, hgd]
  rw [if_pos hw]
  obtain ⟨v', w', hr, h2, h3, _, h5⟩ := run_append_own_at (P := P) (w := w) base t o.type e i z size bytes ht hi hz hsize hby hzs hsz v n xs hown ad m c news hl hnews h1 h63 hbytes hbase
  obtain ⟨q, cap, rfl, _⟩ := own_slice h2
  unfold Oper.wp execOp
  simp only [ho, resolve, invoke, builtin, Sem.run_bind, Sem.run_pure, Result.andThen_ok, List.map_toArray, List.map_cons, List.map_nil, hs, hx, hr]
  exact h q cap w' h2 h3 h5
/-- The cells of j new blocks, their pages at g. -/
def rowV (np : Nat) (g : Nat → Nat) : Nat → List Value
  | 0 => []
  | j + 1 => rowV np g j ++ [.bool false, .int .i64 0, .int .i64 0, .slice (some ⟨g j, 0, none⟩) np np]
theorem rowV_length (np : Nat) (g : Nat → Nat) (j : Nat) : (rowV np g j).length = j * 4 := by
  induction j with
  | zero => rfl
  | succ j ih => simp only [rowV, List.length_append, ih, List.length_cons, List.length_nil]; omega
theorem rowV_congr (np : Nat) {g g' : Nat → Nat} (j : Nat) (h : ∀ i, i < j → g' i = g i) : rowV np g' j = rowV np g j := by
  induction j with
  | zero => rfl
  | succ j ih => simp only [rowV]; rw [ih fun i hi => h i (by omega), h j (by omega)]
theorem rowV_at (np : Nat) (g : Nat → Nat) (j i : Nat) (hi : i < j) : (rowV np g j)[i * 4]? = some (.bool false) ∧ (rowV np g j)[i * 4 + 1]? = some (.int .i64 0) ∧ (rowV np g j)[i * 4 + 2]? = some (.int .i64 0) ∧ (rowV np g j)[i * 4 + 3]? = some (.slice (some ⟨g i, 0, none⟩) np np) := by
  induction j with
  | zero => omega
  | succ j ih =>
    have hl := rowV_length np g j
    simp only [rowV]
    by_cases hj : i < j
    · obtain ⟨h0, h1, h2, h3⟩ := ih hj
      rw [List.getElem?_append_left (by omega), List.getElem?_append_left (by omega), List.getElem?_append_left (by omega), List.getElem?_append_left (by omega)]
      exact ⟨h0, h1, h2, h3⟩
    · obtain rfl : i = j := by omega
      rw [List.getElem?_append_right (by omega), List.getElem?_append_right (by omega), List.getElem?_append_right (by omega), List.getElem?_append_right (by omega), hl]
      simp
/-- The struct, j blocks laid. -/
structure RNew (w W : World) (p np j : Nat) (v : Value) (g : Nat → Nat) : Prop where
  self : W.heap[p]? = some (.cells #[v, .int .i64 np, .int .i64 0, .int .i64 0, .int .i64 0, .int .i64 0, .bool false, .int .i64 0, .int .i64 0, .int .i64 0] 43 (0, 0))
  own : W.ownsRow (p + 1) 38 4 v j (rowV np g j)
  pg : ∀ i, i < j → W.heap[g i]? = some (.cells (madeCells #[Value.slice none 0 0] np) 32 (0, 0)) ∧ p < g i
  ne : ∀ i, i < j → v.ownBlock ≠ some (g i)
  inj : ∀ i k, i < j → k < j → g i = g k → i = k
  below : Below w.heap.size w W
theorem RNew.next {w W w2 : World} {p np j cap : Nat} {v : Value} {g : Nat → Nat} {q : Option Addr} (h : RNew w W p np j v g) (hp : p < W.heap.size)
    (hown : w2.ownsRow (p + 1) 38 4 (.slice q (j + 1) cap) (j + 1) (rowV np g j ++ [.bool false, .int .i64 0, .int .i64 0, .slice (some ⟨W.heap.size, 0, none⟩) np np]))
    (hg : ((W.drew.alloc (.cells (madeCells #[Value.slice none 0 0] np) 32)).alloc (.cells #[.bool false, .int .i64 0, .int .i64 0, .slice (some ⟨W.heap.size, 0, none⟩) np np] 38)).grownBy w2 v.ownBlock)
    (hb : (Value.slice q (j + 1) cap).ownBlock = v.ownBlock ∨ (Value.slice q (j + 1) cap).ownBlock = some ((W.drew.alloc (.cells (madeCells #[Value.slice none 0 0] np) 32)).alloc (.cells #[.bool false, .int .i64 0, .int .i64 0, .slice (some ⟨W.heap.size, 0, none⟩) np np] 38)).heap.size) (hwp : w.heap.size ≤ p) :
    RNew w (w2.setCell ⟨p, 0, none⟩ (.slice q (j + 1) cap)) p np (j + 1) (.slice q (j + 1) cap) (fun i => if i = j then W.heap.size else g i) := by
  obtain ⟨W1, hW1⟩ : ∃ W1, W1 = (W.drew.alloc (.cells (madeCells #[Value.slice none 0 0] np) 32)).alloc (.cells #[.bool false, .int .i64 0, .int .i64 0, .slice (some ⟨W.heap.size, 0, none⟩) np np] 38) := ⟨_, rfl⟩
  have hz : W1.heap.size = W.heap.size + 2 := by rw [hW1]; simp
  have hbW : Below W.heap.size W W1 := by rw [hW1]; exact ((Below.refl _ _).drew.alloc (Nat.le_refl _) _).alloc (by simp) _
  have hG : W1.heap[W.heap.size]? = some (.cells (madeCells #[Value.slice none 0 0] np) 32 (0, 0)) := by
    rw [hW1]; exact (Below.heap_alloc _ _ _ (by simp)).trans (heap_alloc_new W.drew _)
  rw [← hW1] at hg hb
  have hlt := fun k e => h.own.lt k e
  have k2 : ∀ b, b < W1.heap.size → v.ownBlock ≠ some b → b ≠ p → (w2.setCell ⟨p, 0, none⟩ (.slice q (j + 1) cap)).heap[b]? = W1.heap[b]? := fun b hb1 hb2 hb3 => (Below.heap_setCell w2 ⟨p, 0, none⟩ _ b hb3).trans (hg.block b hb1 (fun e => hb2 e.symm))
  have hgl : ∀ i, i < j → g i < W.heap.size := fun i hi => lt_size (h.pg i hi).1
  refine ⟨?_, ?_, fun i hi => ?_, fun i hi => ?_, fun i k hi hk => ?_, ?_⟩
  · have hs : w2.heap[p]? = _ := (hg.block p (by omega) (fun e => by have := (hlt p e.symm).1; omega)).trans ((hbW.block p hp).trans h.self)
    exact heap_setCell_same w2 p 0 _ _ _ hs
  · have : rowV np (fun i => if i = j then W.heap.size else g i) (j + 1) = rowV np g j ++ [.bool false, .int .i64 0, .int .i64 0, .slice (some ⟨W.heap.size, 0, none⟩) np np] := by
      simp only [rowV]
      rw [rowV_congr np j (g := g) fun i hi => if_neg (by omega)]
      simp
    rw [this]
    exact ownsRow_setCell_below hown (by simp) _
  · show (w2.setCell ⟨p, 0, none⟩ (.slice q (j + 1) cap)).heap[if i = j then W.heap.size else g i]? = _ ∧ p < if i = j then W.heap.size else g i
    by_cases hij : i = j
    · rw [if_pos hij]
      exact ⟨(k2 _ (by omega) (fun e => by have := (hlt _ e).2; omega) (by omega)).trans hG, hp⟩
    · rw [if_neg hij]
      have h1 := h.pg i (by omega)
      have := hgl i (by omega)
      exact ⟨(k2 _ (by omega) (h.ne i (by omega)) (by have := h1.2; omega)).trans ((hbW.block _ this).trans h1.1), h1.2⟩
  · show (Value.slice q (j + 1) cap).ownBlock ≠ some (if i = j then W.heap.size else g i)
    by_cases hij : i = j
    · rw [if_pos hij]
      rcases hb with e | e
      · rw [e]; intro e'; have := (hlt _ e').2; omega
      · rw [e]; simp; omega
    · rw [if_neg hij]
      have := hgl i (by omega)
      rcases hb with e | e
      · rw [e]; exact h.ne i (by omega)
      · rw [e]; simp; omega
  · show ((if i = j then W.heap.size else g i) = if k = j then W.heap.size else g k) → i = k
    by_cases hij : i = j <;> by_cases hkj : k = j
    · intro _; omega
    · rw [if_pos hij, if_neg hkj]; intro e; have := hgl k (by omega); omega
    · rw [if_neg hij, if_pos hkj]; intro e; have := hgl i (by omega); omega
    · rw [if_neg hij, if_neg hkj]; exact h.inj i k (by omega) (by omega)
  · exact ((h.below.trans (hbW.mono h.below.size)).grown hg (by have := h.below.size; omega) (fun k e => by have := (hlt k e).1; omega)).setCell hwp _
def newR (n np : Nat) : CS := ⟨List.replicate n (newBk np), np, 0, 0, 0, 0, false, 0, 0, 0⟩
def madeR (n np : Nat) (l : List Int) : CS := { newR n np with bl := badL (newR n np).bl l }
theorem RNew.chip {w W : World} {p np n : Nat} {v : Value} {g : Nat → Nat} (h : RNew w W p np n v g) (hn : 1 ≤ n) (hn2 : n ≤ 64) (hp1 : 1 ≤ np) (hp2 : np ≤ 32) :
    ∃ q cap, v = .slice (some ⟨q, 0, none⟩) n cap ∧ ChipAt W p q cap g (fun _ => False) (newR n np) ∧ p < q := by
  have hown := h.own
  obtain ⟨q, cap, rfl, hq1, hq2⟩ := hown.form (by omega)
  obtain ⟨_, _, he, hle⟩ := own_slice hown
  cases he
  have hl : (newR n np).bl.length = n := by simp [newR]
  refine ⟨q, cap, rfl, ⟨?_, ?_, fun i hi => ?_, by omega, fun i hi => ?_, fun i k hi hk e => ?_, fun b hb => hb.elim, fun b hb => hb.elim, by rw [hl]; exact hle, ⟨by rw [hl]; exact hn2, hp1, hp2⟩, ⟨(show (0 : Int) ≤ 0 by decide), (show (0 : Int) ≤ 1099511627776 by decide), (show (0 : Int) ≤ 0 by decide), (show (0 : Int) ≤ 1099511627776 by decide), (show (0 : Int) ≤ 0 by decide), (show (0 : Int) ≤ 1099511627776 by decide), (show (0 : Int) ≤ 0 by decide)⟩⟩, by omega⟩
  · have := h.self
    unfold CS.cells
    rw [hl]
    exact this
  · rcases hown.2 with ⟨h0, _⟩ | ⟨g', cap', cur, hv, _, hg, _⟩
    · simp at h0
    · cases hv; exact ⟨_, _, hg⟩
  · have hi' : i < n := by rw [hl] at hi; exact hi
    obtain ⟨r0, r1, r2, r3⟩ := rowV_at np g n i hi'
    obtain ⟨hg1, hg2⟩ := h.pg i hi'
    have hbk : (newR n np).bl[i] = newBk np := by simp [newR]
    rw [hbk]
    exact {
      bad := (hown.cellAt (i * 4) (by omega)).trans r0
      next := (hown.cellAt (i * 4 + 1) (by omega)).trans r1
      count := (hown.cellAt (i * 4 + 2) (by omega)).trans r2
      row := (hown.cellAt (i * 4 + 3) (by omega)).trans r3
      len := by simp [newBk, newR]
      plain := ⟨_, _, hg1⟩
      pages := fun j hj => by
        have hj' : j < np := by simpa [newBk] using hj
        have e : (newBk np).pages[j] = [] := by simp [newBk]
        rw [e]
        refine ⟨none, 0, ?_, Nat.le_refl _, Nat.zero_le _, .nil⟩
        rw [made_nils] at hg1
        simp [World.cell?, hg1, hj']
      nextIn := ⟨by simp [newBk], by simp [newBk]⟩ }
  · rw [hl] at hi
    have := (h.pg i hi).2
    exact ⟨by omega, fun e => h.ne i hi (by rw [e]; rfl)⟩
  · rw [hl] at hi hk
    exact h.inj i k hi hk e
theorem madeR_skip {n np : Nat} {l : List Int} {b : Int} (hi : ¬ (0 ≤ b ∧ b < (n : Int))) : madeR n np (l ++ [b]) = madeR n np l := by
  unfold madeR
  rw [badL_snoc]
  have : badOne (badL (newR n np).bl l) b = badL (newR n np).bl l := by
    unfold badOne
    rw [if_neg (by rw [badL_length]; simpa [newR] using hi)]
  rw [this]
theorem madeR_len (n np : Nat) (l : List Int) : (madeR n np l).bl.length = n := by simp [madeR, badL_length, newR]
theorem madeR_mark {n np : Nat} {l : List Int} {i : Nat} (hi : i < (madeR n np l).bl.length) : madeR n np (l ++ [(i : Int)]) = { madeR n np l with bl := (madeR n np l).bl.set i { (madeR n np l).bl[i] with bad := true } } := by
  unfold madeR
  rw [badL_snoc]
  have hi' : i < (badL (newR n np).bl l).length := hi
  unfold badOne
  rw [if_pos (by omega)]
  simp [hi']
  rfl
/-- What NewChip tells. -/
def NewRPost (n np : Nat) (l : List Int) (w : World) (e : Ending) (w' : World) : Prop :=
  ∃ p q cap g, e = .returned (.pointer (some ⟨p, 0, none⟩)) ∧ ChipAt w' p q cap g (fun _ => False) (madeR n np l) ∧ (∀ b, Go.Proofs.Ytchghdpfgamfpaa.Own p q g (fun _ => False) n b → w.heap.size ≤ b) ∧ Below w.heap.size w w'
theorem newref_no (bs ps : Int) (A : Option Addr) (m c : Nat) (w : World) (h : ¬ (1 ≤ bs ∧ bs ≤ 64 ∧ 1 ≤ ps ∧ ps ≤ 32)) : Calls Try.prog 13 #[.int .i64 bs, .int .i64 ps, .slice A m c] w fun e w' => e = .returned (.pointer none) ∧ Below w.heap.size w w' := by
  have H := Lib.hid h
  clear h
  go_enter Try.func13, Try.ntmps13
  go_wp2
  all_goals first
    | (exact absurd ⟨by omega, by omega, by omega, by omega⟩ H.out)
    | (go_ret; exact ⟨rfl, Below.refl _ _⟩)
set_option maxRecDepth 100000 in
set_option maxHeartbeats 4000000 in
theorem newref_yes (n np : Nat) (A : Option Addr) (c : Nat) (l : List Int) (w : World) (hA : IntsArg w A l) (hlen : l.length ≤ 1000000) (h1 : 1 ≤ n) (h2 : n ≤ 64) (h3 : 1 ≤ np) (h4 : np ≤ 32) :
    Calls Try.prog 13 #[.int .i64 n, .int .i64 np, .slice A l.length c] w (NewRPost n np l w) := by
  obtain ⟨i0, hi, hz, hs, hb⟩ := info_parts info_block
  have HI := Lib.hid hA
  have hN0 : RNew w (w.alloc (.cells #[.slice none 0 0, .int .i64 np, .int .i64 0, .int .i64 0, .int .i64 0, .int .i64 0, .bool false, .int .i64 0, .int .i64 0, .int .i64 0] 43)) w.heap.size np 0 (.slice none 0 0) (fun _ => 0) :=
    ⟨heap_alloc_new w _, World.ownsRow_nil _ _ _ _, fun i hi => by omega, fun i hi => by omega, fun i k hi => by omega, (Below.refl _ _).alloc (Nat.le_refl _) _⟩
  have HN0 := Lib.hid hN0
  have hmk := fun w => make_pages np (by omega) w
  clear hA hN0
  go_enter Try.func13, Try.ntmps13
  go_wp2
  go_loopw [28] (fun t wr => ∃ (j : Nat) (v : Value) (g : Nat → Nat), j ≤ n ∧ t = .int .i64 j ∧ RNew w wr w.heap.size np j v g) (fun t _ => n - (intOf t).toNat)
  case atStart => exact ⟨0, _, _, Nat.zero_le _, rfl, HN0.out⟩
  case round =>
    obtain ⟨j, v, g, hj, rfl, hN⟩ := hrel
    have HN := Lib.hid hN
    obtain ⟨qv, cv, rfl, _⟩ := own_slice hN.own
    obtain ⟨c0, _, _, _, _, _, _, _, _, _⟩ := cells10 hN.self
    have f0 := frozen10 hN.self 0
    have hpl := lt_size hN.self
    clear hN
    by_cases hjn : j < n
    · have hown1 := Lib.hid ((((show wr.drew.ownsRow (w.heap.size + 1) 38 4 (.slice qv j cv) j (rowV np g j) from HN.out.own)).alloc (.cells (madeCells #[Value.slice none 0 0] np) 32)).alloc (.cells #[.bool false, .int .i64 0, .int .i64 0, .slice (some ⟨wr.heap.size, 0, none⟩) np np] 38))
      have hnews : ∀ (k : Nat) (u : Value), ([.bool false, .int .i64 0, .int .i64 0, .slice (some ⟨wr.heap.size, 0, none⟩) np np] : List Value)[k]? = some u → ((wr.drew.alloc (.cells (madeCells #[Value.slice none 0 0] np) 32)).alloc (.cells #[.bool false, .int .i64 0, .int .i64 0, .slice (some ⟨wr.heap.size, 0, none⟩) np np] 38)).cell? ((⟨wr.heap.size + 1, 0, none⟩ : Addr).add k) = some u := fun k u hu => by
        have e : (⟨wr.heap.size + 1, 0, none⟩ : Addr).add k = ⟨wr.heap.size + 1, k, none⟩ := by
          unfold Addr.add; split
          · next e => rw [e]
          · simp
        rw [e]
        have hh := heap_alloc_new (wr.drew.alloc (.cells (madeCells #[Value.slice none 0 0] np) 32)) (.cells #[.bool false, .int .i64 0, .int .i64 0, .slice (some ⟨wr.heap.size, 0, none⟩) np np] 38)
        rw [show (wr.drew.alloc (.cells (madeCells #[Value.slice none 0 0] np) 32)).heap.size = wr.heap.size + 1 from by simp] at hh
        simp only [World.cell?, hh]
        simpa using hu
      have HNW := Lib.hid hnews
      have hsz := HN.out.below.size
      clear hnews
      go_wp2_with fail
      go_region_law (first | (refine step_append_at rfl (.tmp 34) (.tmp 38) 39 rfl (w.heap.size + 1) 38 i0 _ 4 48 Try.underlying39 hi hz hs hb rfl (by decide) _ j (rowV np g j) rfl hown1.out ⟨wr.heap.size + 1, 0, none⟩ 1 1 [.bool false, .int .i64 0, .int .i64 0, .slice (some ⟨wr.heap.size, 0, none⟩) np np] rfl rfl HNW.out (by simp [Value.oneCell']) (by unfold maxLen; omega) (by omega) (by simp; omega) ?_; intro q2 cap2 w2 hown2 hg2 hob2; have hsf : w2.heap[w.heap.size]? = _ := (hg2.block w.heap.size (by simp; omega) (fun e => by have := (hown1.out.lt _ e.symm).1; omega)).trans ((Below.heap_alloc _ _ _ (by simp; omega)).trans ((Below.heap_alloc _ _ _ hpl).trans HN.out.self)); obtain ⟨c0', _, _, _, _, _, _, _, _, _⟩ := cells10 hsf; have f0' := frozen10 hsf 0; have HO2 := Lib.hid hown2; have HG2 := Lib.hid hg2; have HB2 := Lib.hid hob2; clear hsf hown2 hg2 hob2))
      all_goals
        go_wp2_with fail
        go_roundw
        case rel => exact ⟨j + 1, _, _, by omega, by simp, HN.out.next hpl HO2.out HG2.out HB2.out (Nat.le_refl _)⟩
        case measure => simp [intOf]; omega
    · obtain rfl : j = n := by omega
      obtain ⟨q, cap, hv, hch, hq⟩ := HN.out.chip h1 h2 h3 h4
      have HB := Lib.hid HN.out.below
      have HC := Lib.hid (show ChipAt wr w.heap.size q cap g (fun _ => False) (madeR j np (l.take 0)) from hch)
      have HG := Lib.hid (fun i hi => (HN.out.pg i hi).2)
      clear hv hch c0 f0
      go_wp2_with fail
      clear HN HN0 hmk
      go_loopw [45] (fun t wx => ∃ k : Nat, k ≤ l.length ∧ t = .int .i64 k ∧ ChipAt wx w.heap.size q cap g (fun _ => False) (madeR j np (l.take k)) ∧ Below w.heap.size w wx) (fun t _ => l.length - (intOf t).toNat)
      case atStart => exact ⟨0, Nat.zero_le _, rfl, HC.out, HB.out⟩
      case round =>
        obtain ⟨k, hk, rfl, hch, hbl⟩ := hrel
        have HX := Lib.hid hch
        have HY := Lib.hid hbl
        by_cases hkl : k < l.length
        · obtain ⟨B, o, rfl, hBs, hcell⟩ := HI.out (by omega)
          have ck := (hbl.cell (p := ⟨B, o + k, none⟩) hBs).trans (hcell k hkl)
          have HT := Lib.hid (take_snoc hkl)
          have hlen9 := madeR_len j np (l.take k)
          obtain ⟨c0, _, _, _, _, _, _, _, _, _⟩ := cells10 hch.self
          obtain ⟨qcs, qt, hqp⟩ := hch.plain
          have hcap := hch.cap
          generalize l[k] = x at ck HT
          by_cases hx : 0 ≤ x ∧ x < (j : Int)
          · obtain ⟨i, rfl⟩ : ∃ i : Nat, x = (i : Int) := ⟨x.toNat, by omega⟩
            have hi : i < (madeR j np (l.take k)).bl.length := by omega
            have r0 := (hch.blocks i hi).bad
            have fq := frozen10 hqp (i * 4)
            have hij : i < j := by omega
            rw [hlen9] at c0
            clear hcell hqp hch hbl hx
            go_wp2
            go_roundw
            case rel =>
              refine ⟨k + 1, by omega, by simp, ?_, HY.out.setCell (by show w.heap.size ≤ q; omega) _⟩
              rw [HT.out, madeR_mark hi]
              exact HX.out.row_set (m := 0) (b := { (madeR j np (l.take k)).bl[i] with bad := true }) hi (by omega) rfl (HX.out.blocks i hi).nextIn rfl rfl rfl
            case measure => simp [intOf]; omega
          · have hx' : x < 0 ∨ (j : Int) ≤ x := by omega
            have HS := Lib.hid (madeR_skip (np := np) (l := l.take k) hx)
            clear hcell hqp hch hbl hx
            rcases hx' with hx' | hx'
            · go_wp2
              go_roundw
              case rel => exact ⟨k + 1, by omega, by simp, by rw [HT.out, HS.out]; exact HX.out, HY.out⟩
              case measure => simp [intOf]; omega
            · have hx0 : (0 : Int) ≤ x := by omega
              go_wp2
              go_roundw
              case rel => exact ⟨k + 1, by omega, by simp, by rw [HT.out, HS.out]; exact HX.out, HY.out⟩
              case measure => simp [intOf]; omega
        · obtain rfl : k = l.length := by omega
          go_wp2
          go_ret
          refine ⟨w.heap.size, q, cap, g, rfl, by have := HX.out; rwa [List.take_length] at this, fun b hb => ?_, HY.out⟩
          rcases hb with rfl | rfl | ⟨i, hi, rfl⟩ | hb
          · exact Nat.le_refl _
          · omega
          · have := HG.out i hi; omega
          · exact hb.elim
end Go.Proofs.Ytchghdpfgamfpaa
