/- TurnStops: for every blocks, pages and n the law answers true, and nothing that was there has turned. -/
import Derived.Test.YtemallklldebpaaSpotsLaw
namespace Go.Proofs.Ytemallklldebpaa
open Go.RowKit Go.Shelf

attribute [local go_sem] Oper.semAt_some

theorem info36 : (Try.prog.info? 36).map (fun i => (i.zero, i.size, i.bytes)) = some (some (.agg #[.int .i64 0, .int .i64 0]), 2, 16) := by kernel_rfl

/-- The cells of a row of spots. -/
def cellsOf (l : List (Int × Int × Int)) : List Value := l.flatMap fun x => [.int .i64 x.2.1, .int .i64 x.2.2]
theorem cellsOf_snoc (l : List (Int × Int × Int)) (x : Int × Int × Int) : cellsOf (l ++ [x]) = cellsOf l ++ [.int .i64 x.2.1, .int .i64 x.2.2] := by simp [cellsOf]
theorem cellsOf_get : ∀ (l : List (Int × Int × Int)) (j : Nat) (x : Int × Int × Int), l[j]? = some x → (cellsOf l)[j * 2]? = some (.int .i64 x.2.1) ∧ (cellsOf l)[j * 2 + 1]? = some (.int .i64 x.2.2)
  | [], j, x, h => by simp at h
  | y :: l, 0, x, h => by
    obtain rfl : y = x := by simpa using h
    exact ⟨rfl, rfl⟩
  | y :: l, j + 1, x, h => by
    have := cellsOf_get l j x (by simpa using h)
    rw [show (j + 1) * 2 = j * 2 + 1 + 1 by omega]
    exact this
theorem spots_get (P : Nat) {m j : Nat} (h : j < m) : (spotsTo P m)[j]? = some (spotAt P j) := by simp [spotsTo, h]
theorem two_new (W : World) (x y : Value) (e : TypeId) : ∀ (j : Nat) u, [x, y][j]? = some u → (W.alloc (.cells #[x, y] e)).cell? ((⟨W.heap.size, 0, none⟩ : Addr).add j) = some u := by
  intro j u hu
  have h := (World.ownsRow_lit (base := W.heap.size) (e := e) (size := 1) W #[x, y] 2 (Nat.le_refl _) (by unfold maxLen; omega) rfl).cellAt j
  have hj : j < 2 := by have := (List.getElem?_eq_some_iff.1 hu).1; simpa using this
  rw [show (⟨W.heap.size, 0, none⟩ : Addr).add j = ⟨W.heap.size, j, none⟩ from by unfold Addr.add; split <;> simp_all, h (by omega)]
  exact hu

/-- What holds between two rounds: the box holds the spots that have come; n stands in its box. -/
def StopInv (N0 s : Nat) (w : World) (pre : List (Int × Int × Int)) (W : World) : Prop :=
  (∃ v, Boxed W (w.heap.size + 1 + 1 + 1) 40 v ∧ W.ownsRow (w.heap.size + 1 + 1 + 1) 36 2 v pre.length (cellsOf pre) ∧ True) ∧
    (Boxed W w.heap.size 3 (.int .i64 (N0 : Int)) ∧ (pre.length ≤ N0 ∧ (s ≤ W.heap.size ∧ Below w.heap.size w W)))
theorem stopInv_own (N0 s : Nat) (w : World) (hs : w.heap.size ≤ s) : OwnFrom s (StopInv N0 s w) :=
  OwnFrom.and (Own.from (holdsRow_own (w.heap.size + 1 + 1 + 1) (w.heap.size + 1 + 1 + 1) 40 36 2 (fun pre : List (Int × Int × Int) => pre.length) cellsOf (fun _ _ => True)) _)
    (OwnFrom.and (Own.from (boxed_own _ 3 (fun _ => .int .i64 (N0 : Int))) _) (OwnFrom.and (ownFrom_pure _ _) (OwnFrom.and (fun _ _ _ _ hs hg _ => Nat.le_trans hs hg.size) (ownFrom_below (Nat.le_refl _) hs))))
/-- Where the loop was left: at an element that is not the next number, or not below n. -/
def StopAt (N0 s : Nat) (w : World) (c : Code) (pre : List (Int × Int × Int)) (W : World) : Prop :=
  c = .exit 0 ∧ ∃ q x, pre = q ++ [x] ∧ (x.1 ≠ (q.length : Int) ∨ (N0 : Int) ≤ x.1) ∧ StopInv N0 s w q W
theorem stopAt_own (N0 s : Nat) (w : World) (hs : w.heap.size ≤ s) (c : Code) : OwnFrom s (StopAt N0 s w c) := fun _ X Y row h hg hrow => by
  obtain ⟨hc, q, x, hq, hx, hi⟩ := h
  exact ⟨hc, q, x, hq, hx, stopInv_own N0 s w hs q X Y row hi hg hrow⟩
theorem stopAt_ends {P k N0 s : Nat} {w W : World} {c : Code} {pre : List (Int × Int × Int)} (h : StopAt N0 s w c pre W) (hp : pre <+: spotsTo P k) : c = .exit 0 ∧ N0 < k ∧ StopInv N0 s w (spotsTo P N0) W := by
  obtain ⟨rfl, q, x, rfl, hx, hi⟩ := h
  have hqp : q <+: spotsTo P k := (List.prefix_append _ _).trans hp
  obtain ⟨r, hr⟩ := hp
  have h1 : (spotsTo P k)[q.length]? = some x := by rw [← hr]; simp
  have hlt : q.length < k := by
    have := (List.getElem?_eq_some_iff.1 h1).1
    simpa [spotsTo] using this
  have h2 : (spotsTo P k)[q.length]? = some (spotAt P q.length) := by simp [spotsTo, hlt]
  rw [h1] at h2
  obtain rfl : x = spotAt P q.length := by simpa using h2
  have hle := hi.2.2.1
  have hge : N0 ≤ q.length := by
    rcases hx with hx | hx
    · exact absurd rfl hx
    · simpa [spotAt] using hx
  obtain rfl : q.length = N0 := by omega
  have hq : q = spotsTo P q.length := by
    have e1 := List.prefix_iff_eq_take.1 hqp
    have e2 := List.prefix_iff_eq_take.1 (spotsTo_prefix P (Nat.le_of_lt hlt))
    rw [spotsTo_length] at e2
    exact e1.trans e2.symm
  exact ⟨rfl, hlt, by rw [← hq]; exact hi⟩

set_option maxRecDepth 100000 in
set_option maxHeartbeats 4000000 in
theorem stops_in (b0 p0 k0 : Int) (w : World) : Calls Try.prog 9 #[.int .i64 b0, .int .i64 p0, .int .i64 k0] w (Holds w) := by
  have hnf := func_nil_33
  obtain ⟨i0, hi, hz0, hz1, hz2⟩ := info_parts info36
  obtain ⟨B0, hB1, hB2⟩ := small_of b0 12 (by omega) (by omega)
  obtain ⟨P0, hP1, hP2⟩ := small_of p0 12 (by omega) (by omega)
  obtain ⟨N0, hN1, hN2⟩ := small_of k0 150 (by omega) (by omega)
  obtain ⟨B, hBl, hBu, hB3⟩ : ∃ B : Nat, 1 ≤ B ∧ B ≤ 12 ∧ (1 : Int) + (B0 : Int) = (B : Int) := ⟨1 + B0, by omega, by omega, by omega⟩
  obtain ⟨P, hPl, hPu, hP3⟩ : ∃ P : Nat, 1 ≤ P ∧ P ≤ 12 ∧ (1 : Int) + (P0 : Int) = (P : Int) := ⟨1 + P0, by omega, by omega, by omega⟩
  refine callsIn_wide.1 (callsIn_of_wp_marks (n := 3) Try.func9 rfl trivial ?_ rfl)
  simp only [Try.ntmps9, List.size_toArray, List.length_cons, List.length_nil, Nat.reduceAdd, Nat.reduceSub, Array.replicate_succ, Array.replicate_zero, List.push_toArray, List.append_toArray, List.nil_append, List.cons_append]
  gi_wp2_with (refine ⟨trivial, ?_⟩; (try refine ⟨wide_depth _, ?_⟩); gi_at_call 14; refine (callsIn_wide.2 (spots_any _ _ _)).mono ?_; rintro e w1 ⟨rfl, rfl⟩)
  obtain ⟨W0, hW0⟩ : ∃ W0, (((w.alloc (.cells #[.int .i64 N0] 3)).alloc (.cells #[.int .i64 B] 3)).alloc (.cells #[.int .i64 P] 3)).alloc (.cells #[.slice none 0 0] 40) = W0 := ⟨_, rfl⟩
  have hsz : w.heap.size + 4 ≤ W0.heap.size := by rw [← hW0]; simp
  have bN : Boxed W0 w.heap.size 3 (.int .i64 N0) := by rw [← hW0]; exact (((Boxed.new w 3 _).alloc _).alloc _).alloc _
  have bC : Boxed W0 (w.heap.size + 1) 3 (.int .i64 B) := by
    rw [← hW0]; have := Boxed.new (w.alloc (.cells #[.int .i64 N0] 3)) 3 (.int .i64 B); rw [World.size_alloc] at this; exact (this.alloc _).alloc _
  have bD : Boxed W0 (w.heap.size + 1 + 1) 3 (.int .i64 P) := by
    rw [← hW0]; have := Boxed.new ((w.alloc (.cells #[.int .i64 N0] 3)).alloc (.cells #[.int .i64 B] 3)) 3 (.int .i64 P); simp only [World.size_alloc] at this; exact this.alloc _
  have bS : Boxed W0 (w.heap.size + 1 + 1 + 1) 40 (.slice none 0 0) := by
    rw [← hW0]; have := Boxed.new (((w.alloc (.cells #[.int .i64 N0] 3)).alloc (.cells #[.int .i64 B] 3)).alloc (.cells #[.int .i64 P] 3)) 40 (.slice none 0 0); simp only [World.size_alloc] at this; exact this
  have hB0 : Below w.heap.size w W0 := by
    rw [← hW0]; exact ((((Below.refl _ w).alloc (Nat.le_refl _) _).alloc (by simp) _).alloc (by simp; omega) _).alloc (by simp; omega) _
  rw [hW0]
  clear hW0
  have hsp : spotsL (B : Int) (P : Int) = spotsTo P (B * P) := by unfold spotsL; rw [if_pos (by omega)]; rfl
  have hseq := spots_stops (3 - 1) _ _ (B : Int) (P : Int) W0 bC.lt bD.lt bC.cell bD.cell
  rw [hsp, spotsTo_length] at hseq
  clear hsp
  have hbp : B * P ≤ 144 := Nat.mul_le_mul hBu hPu
  refine wpIn_rangeFunc_ownH rfl (n := 3) (by omega) (gf := 21) (lb := #[.pointer (some ⟨w.heap.size + 1, 0, none⟩), .pointer (some ⟨w.heap.size + 1 + 1, 0, none⟩)]) rfl trivial (enters_of Try.func21 (by kernel_rfl) rfl)
    hseq KeepsBlk.trans (keepsBlk_b bD.lt) (Below.refl _ _) (fun _ => rfl)
    (StopInv N0 W0.heap.size w) (StopAt N0 W0.heap.size w)
    (stopInv_own _ _ _ (by omega)) (stopAt_own _ _ _ (by omega)) ⟨⟨_, bS, World.ownsRow_nil _ _ _ _, trivial⟩, bN, Nat.zero_le _, Nat.le_refl _, hB0⟩
    (fun x a' W => ∃ Bx, W0.heap.size ≤ Bx ∧ SpotAt W Bx x.2.1 x.2.2 ∧ a' = { tmps := #[Value.int .i64 B, Value.int .i64 P, Value.int .i64 k0, undef, undef, Value.pointer (some ⟨w.heap.size, 0, none⟩), Value.bool false, Value.func (Fn.func 21) #[] #[Value.pointer (some ⟨w.heap.size + 1, 0, none⟩), Value.pointer (some ⟨w.heap.size + 1 + 1, 0, none⟩)], Value.pointer (some ⟨w.heap.size + 1 + 1 + 1, 0, none⟩), Value.int .i64 x.1, Value.pointer (some ⟨Bx, 0, none⟩), undef, undef, Value.int .i64 b0, Value.int .u64 (IntKind.u64.wrap b0), Value.int .u64 ((IntKind.u64.wrap b0).tmod 12), Value.int .i64 B0, Value.int .i64 B, Value.int .i64 p0, Value.int .u64 (IntKind.u64.wrap p0), Value.int .u64 ((IntKind.u64.wrap p0).tmod 12), Value.int .i64 P0, Value.int .i64 P, Value.int .i64 k0, Value.int .u64 (IntKind.u64.wrap k0), Value.int .u64 ((IntKind.u64.wrap k0).tmod 150), Value.int .i64 N0, Value.int .i64 B, Value.int .i64 P, Value.func (Fn.func 21) #[] #[Value.pointer (some ⟨w.heap.size + 1, 0, none⟩), Value.pointer (some ⟨w.heap.size + 1 + 1, 0, none⟩)], Value.func (Fn.func 21) #[] #[Value.pointer (some ⟨w.heap.size + 1, 0, none⟩), Value.pointer (some ⟨w.heap.size + 1 + 1, 0, none⟩)], Value.bool false, Value.func (Fn.func 21) #[] #[Value.pointer (some ⟨w.heap.size + 1, 0, none⟩), Value.pointer (some ⟨w.heap.size + 1 + 1, 0, none⟩)], Value.int .i64 x.1, Value.agg #[.int .i64 x.2.1, .int .i64 x.2.2], undef, undef, undef, undef, undef, undef, undef, undef, undef, undef, undef, undef, undef, undef, undef, undef, undef, undef, undef, undef, undef, undef, undef, undef, undef, undef, undef, undef, undef, undef, undef, undef, undef, undef, undef, undef, undef, undef, undef, undef, undef, undef, undef, undef, undef, undef, undef, undef, undef, undef], defers := [] }) ?ownA ?assign ?body ?done ?stop
  case ownA =>
    rintro x a' _ X Y row ⟨Bx, hBx, hS, ha⟩ hg hrow
    exact ⟨Bx, hBx, (Own.from (spotAt_own Bx x.2.1 x.2.2) _) () X Y row hS hg hrow, ha⟩
  case assign =>
    rintro l pre x W K ⟨⟨v, hv, hrow, _⟩, hn, hle, hs, hB⟩ hK
    gi_wp2
    exact hK _ _ ((KeepsOthers.alloc _ _).from _) (KeepsBlk.alloc _ (by omega) _) ⟨⟨v, hv.alloc _, hrow.alloc _, trivial⟩, hn.alloc _, hle, by simp; omega, hB.alloc (by omega) _⟩ ⟨W.heap.size, hs, World.alloc_heap_new _ _, rfl⟩
  case body =>
    rintro l pre ⟨i, sb, sp⟩ a' W hl hrec hI ⟨Bx, hBx, hS, rfl⟩ hlt
    have HI := Lib.hid hI
    obtain ⟨⟨v, hv, hrow, _⟩, hn, hle, hs, hB⟩ := hI
    obtain ⟨p, cap, rfl⟩ := ownsRow_slice hrow
    dsimp only at hS ⊢
    have d0 := hS.cell0
    have d1 := hS.cell1
    have c1 := hv.cell
    have c2 := hn.cell
    by_cases hik : i = (pre.length : Int)
    · subst hik
      by_cases hn0 : (N0 : Int) ≤ (pre.length : Int)
      · gi_wp2
        exact ⟨KeepsFrom.refl _ _, rfl, pre, _, rfl, .inr hn0, HI.out⟩
      · have hfit : pre.length < N0 := by omega
        gi_wp2_with (gi_at_builtin; refine wpListIn_append_own _ rfl _ _ 40 rfl (w.heap.size + 1 + 1 + 1) 36 i0 (.agg #[.int .i64 0, .int .i64 0]) 2 16 Try.underlying40 hi hz0 hz1 hz2 rfl (by decide) _ _ _ rfl (hrow.alloc _) ⟨W.heap.size, 0, none⟩ 1 1 [.int .i64 sb, .int .i64 sp] rfl rfl (two_new _ _ _ _) (by simp [Value.oneCell']) (by unfold maxLen; omega) (by omega) (by simp; omega) ?_; intro v' w1 hown' hgrow _; obtain ⟨g', cap', rfl⟩ := ownsRow_succ hown'; obtain ⟨hv1, hv2, hr2, hk2, hb2⟩ := hv.appended (by decide) hrow (by omega) (Nat.le_refl _) hown' hgrow; have hc1 := hv1.cell; have hf1 := hv1.frozen)
        exact ⟨hk2.from _, KeepsBlk.of_below hb2 (by omega), ⟨⟨_, hv2, by rw [cellsOf_snoc]; simpa using hr2, trivial⟩, (hb2.block w.heap.size (by omega)).trans hn, by simp; omega, Nat.le_trans hs hb2.size, hB.trans (hb2.mono (by omega))⟩⟩
    · have hi1 : (i != (pre.length : Int)) = true := by simpa using hik
      gi_wp2
      exact ⟨KeepsFrom.refl _ _, rfl, pre, _, rfl, .inl hik, HI.out⟩
  case done =>
    rintro D ys W hD rfl hI hK
    have hbp1 : 0 ≤ (B : Int) * P := Int.mul_nonneg (by omega) (by omega)
    have hbp2 : (B : Int) * P ≤ 144 := by have := hbp; rw [← Int.natCast_mul]; omega
    have hDlt := (Array.getElem?_eq_some_iff.1 hK).1
    obtain ⟨⟨v, hv, hrow, _⟩, hn, hle, hs, hB⟩ := hI
    rw [spotsTo_length] at hrow hle
    have hcast : ((B * P : Nat) : Int) = (B : Int) * P := Int.natCast_mul _ _
    generalize B * P = m at *
    have hmin : (if (B : Int) * P < (N0 : Int) then (B : Int) * P else (N0 : Int)) = (B : Int) * P := by split <;> omega
    have hne : ((m : Int) != (B : Int) * P) = false := by rw [hcast]; simp
    have Hcast := Lib.hid hcast
    clear hcast
    obtain ⟨p, cap, rfl⟩ := ownsRow_slice hrow
    have c1 := hv.cell
    have c2 := hn.cell
    have Hrow := Lib.hid hrow
    clear hrow hseq hv hn
    gi_wp2
    clear hmin
    gi_loopw [58] (fun i wr => ∃ j : Nat, j ≤ m ∧ i = .int .i64 j ∧ Below W.heap.size W wr) (fun i _ => m - (intOf i).toNat)
    case atStart => exact ⟨0, Nat.zero_le _, rfl, Below.refl _ _⟩
    case round =>
      obtain ⟨j, hj, rfl, hbr⟩ := hrel
      by_cases hjm : j < m
      · have hx := cellsOf_get _ _ _ (spots_get P hjm)
        obtain ⟨g, cap2, hsv⟩ := ownsRow_pos Hrow.out (by omega)
        simp only [Value.slice.injEq] at hsv
        obtain ⟨rfl, _, rfl⟩ := hsv
        have hgl := (Hrow.out.lt g rfl).2
        have e1 := (Hrow.out.cellAt (j * 2) (by omega)).trans hx.1
        have e2 := (Hrow.out.cellAt (j * 2 + 1) (by omega)).trans hx.2
        have d1 := (hbr.cell (p := ⟨g, j * 2, none⟩) hgl).trans e1
        have d2 := (hbr.cell (p := ⟨g, j * 2 + 1, none⟩) hgl).trans e2
        simp only [spotAt] at d1 d2
        have hrl : j % P < P := Nat.mod_lt _ (by omega)
        have hqr : (j / P) * P + j % P = j := by rw [Nat.mul_comm]; exact Nat.div_add_mod j P
        clear hx e1 e2
        generalize j / P = q at *
        generalize j % P = r at *
        have hqp0 : 0 ≤ (q : Int) * P := Int.mul_nonneg (by omega) (by omega)
        have hqp1 : (q : Int) * P + r = j := by rw [← Int.natCast_mul]; omega
        have hqp2 : (q : Int) * P ≤ 144 := by omega
        have hne1 : ((q : Int) * P + r != (j : Int)) = false := by rw [hqp1]; simp
        have hne2 : decide ((P : Int) ≤ r) = false := decide_eq_false (by omega)
        have Hqp1 := Lib.hid hqp1
        clear hqp1 hqr
        gi_wp2
        go_roundw
        case rel => exact ⟨j + 1, by omega, by simp, hbr.alloc hbr.size _⟩
        case measure => simp [intOf]; omega
      · obtain rfl : m = j := by omega
        gi_wp2_with (refine ⟨trivial, ?_⟩; (try refine ⟨wide_depth _, ?_⟩); gi_at_call 10; refine (callsIn_wide.2 (awake_any _)).mono ?_; rintro e w8 ⟨rfl, hb8⟩)
        have hB8 := below_on hbr hb8
        have hK8 : w8.heap[D]? = some (.deferred (some [])) := (hB8.block D hDlt).trans hK
        refine ⟨by simp, .inl ⟨_, _, rfl, run_takeDeferred hK8, ?_⟩⟩
        exact ⟨_, results_tmp rfl _ _ _, rfl, (below_on hB hB8).trans (belowK_b (w := w) (Nat.le_refl _) w8 D _ _ (by omega) hK8 rfl rfl)⟩
  case stop =>
    rintro D c pre W hD hpre hat hK
    obtain ⟨rfl, hlt, hI⟩ := stopAt_ends hat hpre
    have hbp1 : 0 ≤ (B : Int) * P := Int.mul_nonneg (by omega) (by omega)
    have hbp2 : (B : Int) * P ≤ 144 := by have := hbp; rw [← Int.natCast_mul]; omega
    have hDlt := (Array.getElem?_eq_some_iff.1 hK).1
    obtain ⟨⟨v, hv, hrow, _⟩, hn, hle, hs, hB⟩ := hI
    rw [spotsTo_length] at hrow hle
    have hmin : (if (B : Int) * P < (N0 : Int) then (B : Int) * P else (N0 : Int)) = (N0 : Int) := if_neg (by rw [← Int.natCast_mul]; omega)
    obtain ⟨p, cap, rfl⟩ := ownsRow_slice hrow
    have c1 := hv.cell
    have c2 := hn.cell
    have Hrow := Lib.hid hrow
    clear hrow hseq hv hn
    gi_wp2
    clear hmin
    gi_loopw [58] (fun i wr => ∃ j : Nat, j ≤ N0 ∧ i = .int .i64 j ∧ Below W.heap.size W wr) (fun i _ => N0 - (intOf i).toNat)
    case atStart => exact ⟨0, Nat.zero_le _, rfl, Below.refl _ _⟩
    case round =>
      obtain ⟨j, hj, rfl, hbr⟩ := hrel
      by_cases hjm : j < N0
      · have hx := cellsOf_get _ _ _ (spots_get P hjm)
        obtain ⟨g, cap2, hsv⟩ := ownsRow_pos Hrow.out (by omega)
        simp only [Value.slice.injEq] at hsv
        obtain ⟨rfl, _, rfl⟩ := hsv
        have hgl := (Hrow.out.lt g rfl).2
        have e1 := (Hrow.out.cellAt (j * 2) (by omega)).trans hx.1
        have e2 := (Hrow.out.cellAt (j * 2 + 1) (by omega)).trans hx.2
        have d1 := (hbr.cell (p := ⟨g, j * 2, none⟩) hgl).trans e1
        have d2 := (hbr.cell (p := ⟨g, j * 2 + 1, none⟩) hgl).trans e2
        simp only [spotAt] at d1 d2
        have hrl : j % P < P := Nat.mod_lt _ (by omega)
        have hqr : (j / P) * P + j % P = j := by rw [Nat.mul_comm]; exact Nat.div_add_mod j P
        clear hx e1 e2
        generalize j / P = q at *
        generalize j % P = r at *
        have hqp0 : 0 ≤ (q : Int) * P := Int.mul_nonneg (by omega) (by omega)
        have hqp1 : (q : Int) * P + r = j := by rw [← Int.natCast_mul]; omega
        have hqp2 : (q : Int) * P ≤ 144 := by omega
        have hne1 : ((q : Int) * P + r != (j : Int)) = false := by rw [hqp1]; simp
        have hne2 : decide ((P : Int) ≤ r) = false := decide_eq_false (by omega)
        have Hqp1 := Lib.hid hqp1
        clear hqp1 hqr
        gi_wp2
        go_roundw
        case rel => exact ⟨j + 1, by omega, by simp, hbr.alloc hbr.size _⟩
        case measure => simp [intOf]; omega
      · obtain rfl : N0 = j := by omega
        gi_wp2_with (refine ⟨trivial, ?_⟩; (try refine ⟨wide_depth _, ?_⟩); gi_at_call 10; refine (callsIn_wide.2 (awake_any _)).mono ?_; rintro e w8 ⟨rfl, hb8⟩)
        have hB8 := below_on hbr hb8
        have hK8 : w8.heap[D]? = some (.deferred (some [])) := (hB8.block D hDlt).trans hK
        refine ⟨by simp, .inl ⟨_, _, rfl, run_takeDeferred hK8, ?_⟩⟩
        exact ⟨_, results_tmp rfl _ _ _, rfl, (below_on hB hB8).trans (belowK_b (w := w) (Nat.le_refl _) w8 D _ _ (by omega) hK8 rfl rfl)⟩
end Go.Proofs.Ytemallklldebpaa
