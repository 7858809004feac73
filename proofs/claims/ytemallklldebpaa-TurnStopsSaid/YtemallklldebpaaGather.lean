/- First and gather of package turn: what an iterator gives, cut at n. -/
import Derived.Maps.AppendAt
import Derived.RecoverIn
import Derived.Test.YtemallklldebpaaIter
namespace Go.Proofs.Ytemallklldebpaa
open Go.RowKit Go.Shelf

attribute [local go_sem] Oper.semAt_some

theorem info3 : (Try.prog.info? 3).map (fun i => (i.zero, i.size, i.bytes)) = some (some (.int .i64 0), 1, 8) := by kernel_rfl

/-- The value .func gf lb is an iterator over ints that gives xs, whatever the body does from n₀ on. -/
def Gives (gf : Nat) (lb : Array Value) (xs : List Int) (n₀ : Nat) (w : World) : Prop :=
  (∀ args w, (callFunc gf args).run Try.prog w = .ok (.enter gf args) w) ∧ ∀ m, SeqStopsK Fence.wide m Try.prog gf lb encI (Below n₀) (fun ys => ys = xs) (fun pre => pre <+: xs) xs.length w

theorem catch_idle (n : Nat) (w : World) :
    CallsDIn Fence.wide n Try.prog 23 #[] .returning w fun e u' w' => e = .returned (.tuple #[]) ∧ u' = .returning ∧ w' = w := by
  refine callsDIn_of_wpSIn Try.func23 rfl trivial fun c₀ cs hu => ?_
  apply wpSIn_region
  simp [wpOpsSIn, go_sem, recoverD, hu, Try.ntmps23, bodyPostS, results, Try.results23]
  cases c₀
  simp_all

theorem ownsRow_mono {W : World} {b b' : Nat} {e : TypeId} {size : Nat} {v : Value} {k : Nat} {xs : List Value} (h : W.ownsRow b e size v k xs) (hb : b' ≤ b) : W.ownsRow b' e size v k xs := by
  obtain ⟨h1, h2⟩ := h
  refine ⟨h1, ?_⟩
  rcases h2 with h2 | ⟨g, cap, cur, hv, hg, r⟩
  · exact Or.inl h2
  · exact Or.inr ⟨g, cap, cur, hv, Nat.le_trans hb hg, r⟩

theorem ownsRow_slice {W : World} {b : Nat} {e : TypeId} {size : Nat} {v : Value} {k : Nat} {xs : List Value} (h : W.ownsRow b e size v k xs) : ∃ p cap, v = .slice p k cap := by
  rcases h.2 with ⟨rfl, rfl⟩ | ⟨g, cap, cur, rfl, _⟩
  · exact ⟨_, _, rfl⟩
  · exact ⟨_, _, rfl⟩

theorem ownsRow_pos {W : World} {b : Nat} {e : TypeId} {size : Nat} {v : Value} {k : Nat} {xs : List Value} (h : W.ownsRow b e size v k xs) (hk : 1 ≤ k) : ∃ g cap, v = .slice (some ⟨g, 0, none⟩) k cap := by
  rcases h.2 with ⟨_, h0⟩ | ⟨g, cap, _, rfl, _⟩
  · omega
  · exact ⟨g, cap, rfl⟩

/-- At gather's way out: the mark, the deferred recover, the result's cell. -/
theorem gather_leaves (n : Nat) (D : Nat) (tmps : Array Value) (w : World) (p : Option Addr) (k cap : Nat) (ys : List Int) (kk : Int) (W2 : World)
    (hr : ∀ W v, W.cell? ⟨w.heap.size + 1, 0, none⟩ = some v → (results Try.f15 tmps).run Try.prog W = .ok v W)
    (hD : w.heap.size ≤ D) (hv : Boxed W2 (w.heap.size + 1) 23 (.slice p k cap)) (hrow : W2.ownsRow (w.heap.size + 1) 3 1 (.slice p k cap) ys.length (ys.map (Value.int .i64)))
    (hB : Below w.heap.size w W2) (hK : W2.heap[D]? = some (.deferred (some []))) {xs : List Int} (hys : ys = xs.take kk.toNat) :
    LeavesInM Fence.wide n Try.prog Try.f15 tmps (fun e W' => ∃ v, e = .returned v ∧ W'.ownsRow w.heap.size 3 1 v (xs.take kk.toNat).length ((xs.take kk.toNat).map (Value.int .i64)) ∧ Below w.heap.size w W')
      [{ target := Target.collected D, args := #[] }, { target := Target.fn (Fn.func 23) #[], args := #[] }] .returning W2 := by
  subst hys
  refine ⟨by simp, .inl ⟨_, _, rfl, run_takeDeferred hK, ?_⟩⟩
  refine ⟨by simp, .inr ⟨wide_depth _, _, _, 23, #[], rfl, by simp [go_sem], fun _ _ => trivial, ?_⟩⟩
  refine (catch_idle (n - 1) _).mono ?_
  rintro e u w' ⟨rfl, rfl, rfl⟩
  have hc := cell_kept hv.cell (grownBy_putObj' W2 D (.deferred none)) (fun r e => by cases e; exact ⟨_, hK, rfl⟩)
  refine ⟨_, hr _ _ hc, _, rfl, ownsRow_mono (ownsRow_putObj hrow _ hK rfl) (by omega), hB.trans (belowK_b (w := w) (Nat.le_refl _) W2 D _ _ hD hK rfl rfl)⟩

set_option maxRecDepth 100000 in
set_option maxHeartbeats 2000000 in
theorem gather_in (n : Nat) (hn : 1 ≤ n) (gf : Nat) (lb : Array Value) (xs : List Int) (kk : Int) (hk : 1 ≤ kk) (hxs : xs.length ≤ 1000000) (w : World) (hg : Gives gf lb xs w.heap.size w) :
    CallsIn Fence.wide n Try.prog 15 #[.func (.func gf) #[] lb, .int .i64 kk] w fun e W' => ∃ v, e = .returned v ∧ W'.ownsRow w.heap.size 3 1 v (xs.take kk.toNat).length ((xs.take kk.toNat).map (Value.int .i64)) ∧ Below w.heap.size w W' := by
  obtain ⟨i0, hi, hz0, hz1, hz2⟩ := info_parts info3
  have hmf : ∀ (fn : Fn) (first cap : Array Value) (w : World), (Instr.makeFunc fn first cap).run Try.prog w = .ok (.func fn first cap) w := fun _ _ _ _ => rfl
  refine callsIn_of_wp_marks Try.func15 rfl trivial ?_ rfl
  simp only [Try.ntmps15, List.size_toArray, List.length_cons, List.length_nil, Nat.reduceAdd, Nat.reduceSub, Array.replicate_succ, Array.replicate_zero, List.push_toArray, List.append_toArray, List.nil_append, List.cons_append]
  gi_wp2
  have bN := Boxed.new w 3 (.int .i64 kk)
  have bL := Boxed.new (w.alloc (.cells #[.int .i64 kk] 3)) 23 (.slice none 0 0)
  rw [World.size_alloc] at bL
  have hB0 : Below w.heap.size w ((w.alloc (.cells #[.int .i64 kk] 3)).alloc (.cells #[.slice none 0 0] 23)) := ((Below.refl _ w).alloc (Nat.le_refl _) _).alloc (by simp) _
  refine wpIn_rangeFunc_ownG rfl (n := n) hn (gf := gf) (lb := lb) rfl trivial hg.1
    (hg.2 (n - 1)) belowK_t (belowK_b (by simp; omega)) hB0 (fun _ => rfl)
    (fun pre W => (∃ v, Boxed W (w.heap.size + 1) 23 v ∧ W.ownsRow (w.heap.size + 1) 3 1 v pre.length (pre.map (Value.int .i64)) ∧ True) ∧ (Boxed W w.heap.size 3 (.int .i64 kk) ∧ (pre.length : Int) < kk ∧ Below w.heap.size w W))
    (fun c pre W => (∃ v, Boxed W (w.heap.size + 1) 23 v ∧ W.ownsRow (w.heap.size + 1) 3 1 v pre.length (pre.map (Value.int .i64)) ∧ True) ∧ (c = .exit 0 ∧ (pre.length : Int) = kk ∧ Below w.heap.size w W))
    ?own ?ownx ?start
    (fun x => { tmps := #[.func (.func gf) #[] lb, .int .i64 kk, undef, .pointer (some ⟨w.heap.size, 0, none⟩), .pointer (some ⟨w.heap.size + 1, 0, none⟩), .int .i64 x, .func (.func gf) #[] lb, .int .i64 x, undef, undef, undef, undef, undef, undef, undef, undef, undef], defers := [] }) ?assign ?body ?done ?stop
  case own => exact OwnFrom.and (Own.from (holdsRow_own (w.heap.size + 1) (w.heap.size + 1) 23 3 1 (fun pre : List Int => pre.length) (fun pre : List Int => pre.map (Value.int .i64)) (fun _ _ => True)) _) (OwnFrom.and (Own.from (boxed_own w.heap.size 3 (fun _ => .int .i64 kk)) _) (OwnFrom.and (ownFrom_pure _ _) (ownFrom_below (Nat.le_refl _) (by simp; omega))))
  case ownx => exact fun c => OwnFrom.and (Own.from (holdsRow_own (w.heap.size + 1) (w.heap.size + 1) 23 3 1 (fun pre : List Int => pre.length) (fun pre : List Int => pre.map (Value.int .i64)) (fun _ _ => True)) _) (OwnFrom.and (ownFrom_pure _ _) (OwnFrom.and (ownFrom_pure _ _) (ownFrom_below (Nat.le_refl _) (by simp; omega))))
  case start => exact ⟨⟨_, bL, World.ownsRow_nil _ _ _ _, trivial⟩, bN.alloc _, by simp; omega, hB0⟩
  case assign =>
    intro l x W K hK
    gi_wp2
    exact hK
  case body =>
    rintro l pre x W ⟨⟨v, hv, hrow, _⟩, hbn, hlt, hB⟩ hltN
    have hc := hv.cell
    have hsz := hB.size
    gi_wp2_with (gi_at_builtin; refine wpListIn_append_own _ rfl _ _ 23 rfl (w.heap.size + 1) 3 i0 (.int .i64 0) 1 8 Try.underlying23 hi hz0 hz1 hz2 rfl (by decide) _ _ _ rfl (hrow.alloc _) ⟨W.heap.size, 0, none⟩ 1 1 [.int .i64 x] rfl rfl (cell_one_new _ _ _) (by simp [Value.oneCell']) (by unfold maxLen; omega) (by omega) (by have := hv.lt; simp; omega) ?_; intro v' w1 hown' hgrow _; obtain ⟨g', cap', rfl⟩ := ownsRow_succ hown'; obtain ⟨hv1, hv2, hr2, hk2, hb2⟩ := hv.appended (by decide) hrow (by have := hv.lt; omega) (Nat.le_refl _) hown' hgrow; have hc1 := hv1.cell; have hf1 := hv1.frozen; have hc2 := hv2.cell; have hbn2 := (hb2.block w.heap.size (by omega)).trans hbn; have hcn2 := Boxed.cell hbn2)
    · have hx : ((pre.length : Int) + 1 == kk) = true := by assumption
      exact ⟨hk2.from _, ⟨_, hv2, by simpa using hr2, trivial⟩, rfl, by have := eq_of_beq hx; simp; omega, hB.trans (hb2.mono (by omega))⟩
    · have hx : ((pre.length : Int) + 1 == kk) = false := by assumption
      exact ⟨hk2.from _, hb2.mono (by omega), ⟨_, hv2, by simpa using hr2, trivial⟩, hbn2, by have := beq_eq_false_iff_ne.1 hx; simp; omega, hB.trans (hb2.mono (by omega))⟩
  case done =>
    rintro D ys W hD rfl ⟨⟨v, hv, hrow, _⟩, hbn, hlt, hB⟩ hK
    obtain ⟨p, cap, rfl⟩ := ownsRow_slice hrow
    have hc := hv.cell
    have hf := hv.frozen
    gi_wp2
    exact gather_leaves n D _ w p _ cap ys kk _ (fun W v h => by simp [results, Try.f15, go_sem, h]) (by simp at hD; omega) (hv.set _) (hrow.kept (grownBy_setCell' W _ _) (.inr (hv.not_row (by decide) hrow).symm)) (hB.setCell (p := ⟨w.heap.size + 1, 0, none⟩) (by simp) _) ((KeepsOthers.setCell W ⟨w.heap.size + 1, 0, none⟩ _).same D _ hK rfl) (by rw [List.take_of_length_le (by omega)])
  case stop =>
    rintro D c pre W hD hpre ⟨⟨v, hv, hrow, _⟩, rfl, hlt, hB⟩ hK
    obtain ⟨p, cap, rfl⟩ := ownsRow_slice hrow
    have hc := hv.cell
    have hf := hv.frozen
    gi_wp2
    exact gather_leaves n D _ w p _ cap pre kk _ (fun W v h => by simp [results, Try.f15, go_sem, h]) (by simp at hD; omega) (hv.set _) (hrow.kept (grownBy_setCell' W _ _) (.inr (hv.not_row (by decide) hrow).symm)) (hB.setCell (p := ⟨w.heap.size + 1, 0, none⟩) (by simp) _) ((KeepsOthers.setCell W ⟨w.heap.size + 1, 0, none⟩ _).same D _ hK rfl) (by rw [show kk.toNat = pre.length by omega]; exact List.prefix_iff_eq_take.1 hpre)

/-- What First leaves: a slice of its own that holds the first kk of xs; nothing that was there has turned. -/
def FirstPost (xs : List Int) (kk : Int) (w : World) (e : Ending) (W' : World) : Prop :=
  ∃ v, e = .returned v ∧ W'.ownsRow w.heap.size 3 1 v (xs.take kk.toNat).length ((xs.take kk.toNat).map (Value.int .i64)) ∧ Below w.heap.size w W'

set_option maxHeartbeats 1000000 in
theorem first_any (gf : Nat) (lb : Array Value) (xs : List Int) (kk : Int) (hxs : xs.length ≤ 1000000) (w : World) (hg : Gives gf lb xs w.heap.size w) :
    Calls Try.prog 11 #[.func (.func gf) #[] lb, .int .i64 kk] w (FirstPost xs kk w) := by
  have hnf := func_nil_26
  by_cases hk : kk < 1
  · go_enter Try.func11, Try.ntmps11
    go_wp2
    go_ret
    exact ⟨_, rfl, by rw [show kk.toNat = 0 by omega]; exact World.ownsRow_nil _ _ _ _, Below.refl _ _⟩
  · have hgi := callsIn_wide.1 (gather_in 3 (by omega) gf lb xs kk (by omega) hxs w hg)
    go_enter Try.func11, Try.ntmps11
    go_wp2_with (go_at_call 15; refine hgi.mono ?_; rintro e w' ⟨v, rfl, hr, hb⟩)
    go_ret
    exact ⟨_, rfl, hr, hb⟩

theorem first_nil (kk : Int) (w : World) :
    Calls Try.prog 11 #[.nilFunc, .int .i64 kk] w fun e w' => e = .returned (.slice none 0 0) ∧ w = w' := by
  have hnf := nil_nil_26
  go_enter Try.func11, Try.ntmps11
  go_wp2
  go_ret
  exact ⟨rfl, rfl⟩
end Go.Proofs.Ytemallklldebpaa
