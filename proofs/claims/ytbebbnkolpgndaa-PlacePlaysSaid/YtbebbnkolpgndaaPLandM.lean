/- Package place as a table of two maps: what it is in memory. -/
import Derived.Deep.RegionLaw
import Derived.Deep.RegionHeld3
import Derived.Deep.CutRange
import Derived.Deep.DeepCutAuto
import Derived.StillTailTactics
import Derived.Handy
import Derived.Test.YtbebbnkolpgndaaPMap
namespace Go.Proofs.Ytbebbnkolpgndaa
open Go.RowKit Go.Maps Go.WideShapes

/-- A map that there may be: where there is none, nothing is in it. -/
def MapOpt (k : TypeId) (g h : Fd → P2) (w : World) (o : Option Nat) (T : List Fd) : Prop :=
  match o with
  | none => T = []
  | some b => MapAt k g h w b T
section
variable {k : TypeId} {g h : Fd → P2} {w w' : World} {o : Option Nat} {T : List Fd}
theorem MapOpt.kept (m : MapOpt k g h w o T) (e : ∀ b, o = some b → w'.heap[b]? = w.heap[b]?) : MapOpt k g h w' o T := by
  cases o with
  | none => exact m
  | some b => exact MapAt.kept m (e b rfl)
theorem MapOpt.lt (m : MapOpt k g h w o T) : ∀ b, o = some b → b < w.heap.size := fun b e => by
  subst e
  exact MapAt.lt m
theorem MapOpt.below {n : Nat} (m : MapOpt k g h w o T) (hb : Below n w w') (hn : w.heap.size ≤ n) : MapOpt k g h w' o T :=
  m.kept fun b e => hb.block b (Nat.lt_of_lt_of_le (m.lt b e) hn)
theorem MapOpt.old (m : MapOpt k g h w o T) (x : Obj) : MapOpt k g h (w.alloc x) o T := m.kept fun b e => heap_alloc_old _ _ (m.lt b e)
theorem MapOpt.drew (m : MapOpt k g h w o T) : MapOpt k g h w.drew o T := m.kept fun _ _ => rfl
variable {t e : TypeId} (M : MapTy t k e) {r : P2}
include M
theorem run_look_opt (m : MapOpt k g h w o T) (hn : (T.map g).Nodup) (hw : GWf g T) (hr : WfP r) : (Instr.lookup t (.map o) (P2V r) true).run Try.prog w = .ok (.tuple #[P2V ((lk g h T r).getD (0, 0)), .bool (lk g h T r).isSome]) w := by
  cases o with
  | none =>
    obtain rfl : T = [] := m
    exact Maps.look_nil true M.K M.ht (M.hz w) (M.key r hr)
  | some b => exact run_look_ok M m hn hw hr
theorem run_len_opt (ty : TypeId) (m : MapOpt k g h w o T) : (Builtin.len_ #[t] ty #[.map o]).run Try.prog w = .ok (.int .i64 (T.length : Int)) w := by
  cases o with
  | none =>
    obtain rfl : T = [] := m
    exact Maps.len_nil M.ht ty
  | some b => exact run_len M ty m
end

/-- At p of w lies the table T; the blocks of x, which there are by now, are none of its own. -/
structure Tab (w : World) (p : Nat) (x : Nat → Prop) (T : List Fd) : Prop where
  wf : WfT T
  ints : TInts T
  maps : ∃ b c : Option Nat, w.heap[p]? = some (.cells #[.map b, .map c] 54 (0, 0)) ∧ MapOpt 30 Prod.fst Prod.snd w b T ∧ MapOpt 24 Prod.snd Prod.fst w c T ∧ b.isSome = c.isSome ∧ (∀ n m, b = some n → c = some m → n ≠ m ∧ p ≠ n ∧ p ≠ m ∧ ¬ x n ∧ ¬ x m) ∧ ¬ x p
  there : ∀ b, x b → b < w.heap.size
section
variable {w w' : World} {p : Nat} {x y : Nat → Prop} {T : List Fd}
theorem both_some {b c : Option Nat} (h : b.isSome = c.isSome) : (b = none ∧ c = none) ∨ ∃ n m, b = some n ∧ c = some m := by
  cases b <;> cases c <;> simp_all
theorem Tab.cases (h : Tab w p x T) : (T = [] ∧ w.heap[p]? = some (.cells #[.map none, .map none] 54 (0, 0)) ∧ ¬ x p) ∨ ∃ b c, w.heap[p]? = some (.cells #[.map (some b), .map (some c)] 54 (0, 0)) ∧ MapAt 30 Prod.fst Prod.snd w b T ∧ MapAt 24 Prod.snd Prod.fst w c T ∧ b ≠ c ∧ p ≠ b ∧ p ≠ c ∧ ¬ x p ∧ ¬ x b ∧ ¬ x c := by
  obtain ⟨hw, hi, ⟨b, c, h1, h2, h3, h4, h5, h6⟩, -⟩ := h
  rcases both_some h4 with ⟨rfl, rfl⟩ | ⟨n, m, rfl, rfl⟩
  · exact .inl ⟨h2, h1, h6⟩
  · obtain ⟨a1, a2, a3, a4, a5⟩ := h5 n m rfl rfl
    exact .inr ⟨n, m, h1, h2, h3, a1, a2, a3, h6, a4, a5⟩
theorem Tab.of_maps {b c : Nat} (hw : WfT T) (hi : TInts T) (h1 : w.heap[p]? = some (.cells #[.map (some b), .map (some c)] 54 (0, 0))) (h2 : MapAt 30 Prod.fst Prod.snd w b T) (h3 : MapAt 24 Prod.snd Prod.fst w c T) (h4 : b ≠ c) (h5 : p ≠ b) (h6 : p ≠ c) (h7 : ¬ x p) (h8 : ¬ x b) (h9 : ¬ x c) (hx : ∀ b, x b → b < w.heap.size) : Tab w p x T :=
  ⟨hw, hi, ⟨some b, some c, h1, h2, h3, rfl, fun n m e1 e2 => by cases e1; cases e2; exact ⟨h4, h5, h6, h8, h9⟩, h7⟩, hx⟩
theorem Tab.of_nil (h1 : w.heap[p]? = some (.cells #[.map none, .map none] 54 (0, 0))) (h7 : ¬ x p) (hx : ∀ b, x b → b < w.heap.size) : Tab w p x [] :=
  ⟨⟨List.nodup_nil, List.nodup_nil, (fun _ hf => nomatch hf)⟩, (fun _ hf => nomatch hf), ⟨none, none, h1, rfl, rfl, rfl, (fun _ _ e => nomatch e), h7⟩, hx⟩
theorem Tab.gwf (h : Tab w p x T) : GWf Prod.fst T ∧ GWf Prod.snd T := ⟨fun f hf => (h.ints f hf).1, fun f hf => (h.ints f hf).2⟩
theorem Tab.grow (h : Tab w p x T) (ht : Turned x w w') : Tab w' p (fun b => x b ∨ (w.heap.size ≤ b ∧ b < w'.heap.size)) T := by
  have hx : ∀ b, (x b ∨ (w.heap.size ≤ b ∧ b < w'.heap.size)) → b < w'.heap.size := fun b hb => hb.elim (fun k => Nat.lt_of_lt_of_le (h.there b k) ht.size) fun k => k.2
  rcases h.cases with ⟨rfl, h1, h7⟩ | ⟨b, c, h1, h2, h3, h4, h5, h6, h7, h8, h9⟩
  · have l1 := lt_size h1
    refine Tab.of_nil ((ht.block _ l1 h7).trans h1) ?_ hx
    rintro (h | ⟨h, _⟩)
    · exact h7 h
    · omega
  have l1 := lt_size h1
  have l2 := h2.lt
  have l3 := h3.lt
  refine Tab.of_maps h.wf h.ints ((ht.block _ l1 h7).trans h1) (h2.kept (ht.block _ l2 h8)) (h3.kept (ht.block _ l3 h9)) h4 h5 h6 ?_ ?_ ?_ hx
  · rintro (h | ⟨h, _⟩)
    · exact h7 h
    · omega
  · rintro (h | ⟨h, _⟩)
    · exact h8 h
    · omega
  · rintro (h | ⟨h, _⟩)
    · exact h9 h
    · omega
theorem Tab.less (h : Tab w p x T) (hy : ∀ b, y b → x b) : Tab w p y T := by
  obtain ⟨hw, hi, ⟨b, c, h1, h2, h3, h4, h5, h6⟩, hx⟩ := h
  exact ⟨hw, hi, ⟨b, c, h1, h2, h3, h4, fun n m e1 e2 => by
    obtain ⟨a1, a2, a3, a4, a5⟩ := h5 n m e1 e2
    exact ⟨a1, a2, a3, fun k => a4 (hy _ k), fun k => a5 (hy _ k)⟩, fun k => h6 (hy _ k)⟩, fun k h => hx k (hy k h)⟩
theorem Tab.turned (h : Tab w p x T) (ht : Turned x w w') : Tab w' p x T := (h.grow ht).less fun _ k => .inl k
theorem Tab.more (h : Tab w p x T) (hb : Below w.heap.size w w') : Tab w' p (fun b => x b ∨ (w.heap.size ≤ b ∧ b < w'.heap.size)) T := h.grow (.of_below hb)
theorem Tab.below (h : Tab w p x T) (hb : Below w.heap.size w w') : Tab w' p x T := h.turned (.of_below hb)
theorem Tab.wrote {a : Addr} {v : Value} (h : Tab w p x T) (ha : x a.block) : Tab (w.setCell a v) p x T := h.turned ((Turned.refl _ w).setCell (fun _ => ha) v)
theorem Tab.perm {T' : List Fd} (h : Tab w p x T) (hp : T.Perm T') : Tab w p x T' := by
  rcases h.cases with ⟨rfl, h1, h7⟩ | ⟨b, c, h1, h2, h3, h4, h5, h6, h7, h8, h9⟩
  · rw [List.perm_nil.1 hp.symm]
    exact Tab.of_nil h1 h7 h.there
  exact Tab.of_maps (h.wf.perm hp) (fun f hf => h.ints f (hp.mem_iff.2 hf)) h1 (h2.perm hp) (h3.perm hp) h4 h5 h6 h7 h8 h9 h.there
theorem cells2q {w : World} {g : Nat} {a b : Value} {t : TypeId} (h : w.heap[g]? = some (.cells #[a, b] t (0, 0))) : w.cell? ⟨g, 0, none⟩ = some a ∧ w.cell? ⟨g, 1, none⟩ = some b ∧ w.frozen? ⟨g, 0, none⟩ = false ∧ w.frozen? ⟨g, 1, none⟩ = false := by
  simp [World.cell?, World.frozen?, h]
theorem two_set {W : World} {g : Nat} {x y : Value} {t : TypeId} (h : W.heap[g]? = some (.cells #[x, y] t (0, 0))) (a b : Value) : ((W.setCell ⟨g, 0, none⟩ a).setCell ⟨g, 1, none⟩ b).heap[g]? = some (.cells #[a, b] t (0, 0)) := by
  rw [heap_setCell_same _ _ 1 _ _ _ (heap_setCell_same _ _ 0 _ _ _ h)]; simp
theorem lk_at (T : List Fd) (r : P2) : lk Prod.fst Prod.snd T r = atT T r := rfl
theorem lk_on (T : List Fd) (s : P2) : lk Prod.snd Prod.fst T s = onT T s := rfl
set_option maxRecDepth 100000 in
set_option maxHeartbeats 1000000 in
theorem atT_any (r : P2) (h : Tab w p x T) (_hl : T.length ≤ 1000) (hr : WfP r) : Calls Try.prog 12 #[.pointer (some ⟨p, 0, none⟩), P2V r] w fun e w' => e = .returned (.tuple #[P2V ((atT T r).getD (0, 0)), .bool (atT T r).isSome]) ∧ Below w.heap.size w w' := by
  obtain ⟨hg1, hg2⟩ := h.gwf
  obtain ⟨hw, hi, ⟨b, c, h1, h2, h3, h4, h5, h6⟩, -⟩ := h
  have hl1 := lt_size h1
  have HM := Lib.hid h2
  have HN := Lib.hid hw.refs
  have HG := Lib.hid hg1
  have HR := Lib.hid hr
  have H1 := Lib.hid h1
  clear h1 h2 h3 hg1 hg2 hw hi hr h4 h5 h6
  obtain ⟨W, hW⟩ : ∃ W, (w.alloc (.cells #[.int .i64 r.1, .int .i64 r.2] 30)).alloc (.cells #[.int .i64 0, .int .i64 0] 24) = W := ⟨_, rfl⟩
  have HB : Hid (Below w.heap.size w W) := Lib.hid (by rw [← hW]; exact ((Below.refl _ _).alloc (Nat.le_refl _) _).alloc (by simp) _)
  have HW : Hid (W.heap[w.heap.size]? = some (.cells #[.int .i64 r.1, .int .i64 r.2] 30 (0, 0))) := Lib.hid (by rw [← hW]; exact (heap_alloc_old _ _ (by simp)).trans (heap_alloc_new w _))
  have HW2 : Hid (W.heap[w.heap.size + 1]? = some (.cells #[.int .i64 0, .int .i64 0] 24 (0, 0))) := Lib.hid (by rw [← hW]; have := heap_alloc_new (w.alloc (.cells #[.int .i64 r.1, .int .i64 r.2] 30)) (.cells #[.int .i64 0, .int .i64 0] 24); simpa using this)
  have HP := Lib.hid ((HB.out.block _ hl1).trans H1.out)
  have HM2 := Lib.hid (HM.out.below HB.out (Nat.le_refl _))
  obtain ⟨d0, d1, -, -⟩ := cells2q HP.out
  obtain ⟨e0, e1, -, -⟩ := cells2q HW.out
  obtain ⟨f0, f1, f2, f3⟩ := cells2q HW2.out
  have l0 := run_look_opt mt_spots (w := W.drew) (r := r) HM2.out.drew HN.out HG.out HR.out
  have l1 := run_look_opt mt_spots (w := (W.alloc (.cells #[.int .i64 0, .int .i64 0] 24)).drew) (r := r) (HM2.out.old _).drew HN.out HG.out HR.out
  rw [lk_at] at l0 l1
  have hz0 := lt_size HP.out
  have hz1 := lt_size HW.out
  have hz2 := lt_size HW2.out
  generalize hla : atT T r = q at *
  have HX := Lib.hid (two_set HW2.out (.int .i64 (q.getD (0, 0)).1) (.int .i64 (q.getD (0, 0)).2))
  obtain ⟨m0, m1, -, -⟩ := cells2q ((heap_alloc_old _ (.cells #[.int .i64 (q.getD (0, 0)).1, .int .i64 (q.getD (0, 0)).2] 24) (by simpa using hz2)).trans HX.out)
  have HQ := Lib.hid hla
  clear hla
  go_enter Try.func12, Try.ntmps12
  go_upto_region 3 with fail
  clear hW
  go_region
  all_goals
    go_wp2_with fail
    try simp only [Exit.inBlock, Exit.then]
    refine bodyPost_ret (by simp [results, Try.results12, go_sem, m0, m1]; try rfl) rfl ?_
    refine ⟨rfl, ?_⟩
    exact (((HB.out.setCell (p := ⟨w.heap.size + 1, 0, none⟩) (by simp) _).setCell (p := ⟨w.heap.size + 1, 1, none⟩) (by simp) _).alloc (by simp; omega) _).drew
set_option maxRecDepth 100000 in
set_option maxHeartbeats 1000000 in
theorem onT_any (r : P2) (h : Tab w p x T) (_hl : T.length ≤ 1000) (hr : WfP r) : Calls Try.prog 13 #[.pointer (some ⟨p, 0, none⟩), P2V r] w fun e w' => e = .returned (.tuple #[P2V ((onT T r).getD (0, 0)), .bool (onT T r).isSome]) ∧ Below w.heap.size w w' := by
  obtain ⟨hg1, hg2⟩ := h.gwf
  obtain ⟨hw, hi, ⟨b, c, h1, h2, h3, h4, h5, h6⟩, -⟩ := h
  have hl1 := lt_size h1
  have HM := Lib.hid h3
  have HN := Lib.hid hw.spots
  have HG := Lib.hid hg2
  have HR := Lib.hid hr
  have H1 := Lib.hid h1
  clear h1 h2 h3 hg1 hg2 hw hi hr h4 h5 h6
  obtain ⟨W, hW⟩ : ∃ W, (w.alloc (.cells #[.int .i64 r.1, .int .i64 r.2] 24)).alloc (.cells #[.int .i64 0, .int .i64 0] 30) = W := ⟨_, rfl⟩
  have HB : Hid (Below w.heap.size w W) := Lib.hid (by rw [← hW]; exact ((Below.refl _ _).alloc (Nat.le_refl _) _).alloc (by simp) _)
  have HW : Hid (W.heap[w.heap.size]? = some (.cells #[.int .i64 r.1, .int .i64 r.2] 24 (0, 0))) := Lib.hid (by rw [← hW]; exact (heap_alloc_old _ _ (by simp)).trans (heap_alloc_new w _))
  have HW2 : Hid (W.heap[w.heap.size + 1]? = some (.cells #[.int .i64 0, .int .i64 0] 30 (0, 0))) := Lib.hid (by rw [← hW]; have := heap_alloc_new (w.alloc (.cells #[.int .i64 r.1, .int .i64 r.2] 24)) (.cells #[.int .i64 0, .int .i64 0] 30); simpa using this)
  have HP := Lib.hid ((HB.out.block _ hl1).trans H1.out)
  have HM2 := Lib.hid (HM.out.below HB.out (Nat.le_refl _))
  obtain ⟨d0, d1, -, -⟩ := cells2q HP.out
  obtain ⟨e0, e1, -, -⟩ := cells2q HW.out
  obtain ⟨f0, f1, f2, f3⟩ := cells2q HW2.out
  have l0 := run_look_opt mt_refs (w := W.drew) (r := r) HM2.out.drew HN.out HG.out HR.out
  have l1 := run_look_opt mt_refs (w := (W.alloc (.cells #[.int .i64 0, .int .i64 0] 30)).drew) (r := r) (HM2.out.old _).drew HN.out HG.out HR.out
  rw [lk_on] at l0 l1
  have hz0 := lt_size HP.out
  have hz1 := lt_size HW.out
  have hz2 := lt_size HW2.out
  generalize hla : onT T r = q at *
  have HX := Lib.hid (two_set HW2.out (.int .i64 (q.getD (0, 0)).1) (.int .i64 (q.getD (0, 0)).2))
  obtain ⟨m0, m1, -, -⟩ := cells2q ((heap_alloc_old _ (.cells #[.int .i64 (q.getD (0, 0)).1, .int .i64 (q.getD (0, 0)).2] 30) (by simpa using hz2)).trans HX.out)
  have HQ := Lib.hid hla
  clear hla
  go_enter Try.func13, Try.ntmps13
  go_upto_region 3 with fail
  clear hW
  go_region
  all_goals
    go_wp2_with fail
    try simp only [Exit.inBlock, Exit.then]
    refine bodyPost_ret (by simp [results, Try.results13, go_sem, m0, m1]; try rfl) rfl ?_
    refine ⟨rfl, ?_⟩
    exact (((HB.out.setCell (p := ⟨w.heap.size + 1, 0, none⟩) (by simp) _).setCell (p := ⟨w.heap.size + 1, 1, none⟩) (by simp) _).alloc (by simp; omega) _).drew
end
end Go.Proofs.Ytbebbnkolpgndaa
