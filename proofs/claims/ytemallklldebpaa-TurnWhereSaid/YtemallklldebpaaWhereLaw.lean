/- TurnWhere: for every list of bools the law answers true, and nothing that was there has turned. -/
import Derived.Test.YtemallklldebpaaBoth
import Derived.Test.YtemallklldebpaaLeft
namespace Go.Proofs.Ytemallklldebpaa
open Go.RowKit Go.Shelf

attribute [local go_sem] Oper.semAt_some

theorem where_law_big (p : Option Addr) (len cap : Nat) (w : World) (h : 500 < len) (hm : len ≤ 9223372036854775807) : Calls Try.prog 4 #[.slice p len cap] w (Holds w) := by
  have b0 := Boxed.new (w.alloc (.cells #[.slice p len cap] 29)) 4 (.bool false)
  rw [World.size_alloc] at b0
  go_enter Try.func4, Try.ntmps4
  go_wp2_with (go_at_call 10; refine (awake_any _).mono ?_; rintro e w' ⟨rfl, hb⟩; have b1 := boxed_later b0 hb; have c1 := b1.cell; have f1 := b1.frozen)
  have c2 := (b1.set (.bool true)).cell
  refine bodyPost_ret (v := .bool true) (by simp [results, Try.results4, go_sem, c2]) rfl ⟨rfl, ?_⟩
  exact (below_two hb).setCell (p := ⟨w.heap.size + 1, 0, none⟩) (by simp) _

/-- The last one, or -1. -/
def lastOf (l : List Int) : Int := l.getLast?.getD (-1)
theorem lastOf_snoc (l : List Int) (x : Int) : lastOf (l ++ [x]) = x := by simp [lastOf]
/-- x is no place that may come behind the last one. -/
def BadAt (bs : List Bool) (pre : List Int) : Prop := ∃ q x, pre = q ++ [x] ∧ (x ≤ lastOf q ∨ (bs.length : Int) ≤ x ∨ bs[x.toNat]?.getD false = false)

theorem whereTo_last (bs : List Bool) (k : Nat) : -1 ≤ lastOf (whereTo bs k) ∧ lastOf (whereTo bs k) < k := by
  rcases List.eq_nil_or_concat (whereTo bs k) with h | ⟨q, x, h⟩
  · rw [h]; simp [lastOf]; omega
  · have hm : x ∈ whereTo bs k := by rw [h]; simp
    have := whereTo_mem hm
    rw [h, List.concat_eq_append, lastOf_snoc]; omega
theorem whereTo_good (bs : List Bool) (k : Nat) : ∀ (q : List Int) (x : Int), q ++ [x] <+: whereTo bs k → lastOf q < x ∧ x < k ∧ bs[x.toNat]?.getD false = true := by
  induction k with
  | zero =>
    intro q x h
    have := h.length_le
    simp [whereTo] at this
  | succ k ih =>
    intro q x h
    cases hb : bs[k]?.getD false with
    | false =>
      rw [whereTo_miss hb] at h
      obtain ⟨a, b, c⟩ := ih q x h
      exact ⟨a, by omega, c⟩
    | true =>
      rw [whereTo_hit hb] at h
      by_cases hl : (q ++ [x]).length ≤ (whereTo bs k).length
      · obtain ⟨a, b, c⟩ := ih q x (List.prefix_of_prefix_length_le h (List.prefix_append _ _) hl)
        exact ⟨a, by omega, c⟩
      · have hlen := h.length_le
        have e := h.eq_of_length (by simp at hlen hl ⊢; omega)
        obtain ⟨e1, e2⟩ := List.append_inj' e rfl
        obtain rfl : x = (k : Int) := by simpa using e2
        rw [e1]
        exact ⟨(whereTo_last bs k).2, by omega, by simpa using hb⟩
theorem not_bad {bs : List Bool} {pre : List Int} (h : BadAt bs pre) (hp : pre <+: whereTo bs bs.length) : False := by
  obtain ⟨q, x, rfl, hx⟩ := h
  obtain ⟨a, b, c⟩ := whereTo_good bs _ q x hp
  rcases hx with h | h | h
  · omega
  · omega
  · rw [h] at c; cases c

set_option maxRecDepth 100000 in
set_option maxHeartbeats 2000000 in
theorem where_law_in (sv : Value) (bs : List Bool) (hlen : bs.length ≤ 500) (w : World) (h : BoolsIn w sv bs) : Calls Try.prog 4 #[sv] w (Holds w) := by
  have hnf := func_nil_26
  obtain ⟨p, cap, rfl, hsh⟩ := h.shape
  obtain ⟨W0, hW0⟩ : ∃ W0, (((w.alloc (.cells #[.slice p bs.length cap] 29)).alloc (.cells #[.bool false] 4)).alloc (.cells #[.int .i64 (-1)] 3)).alloc (.cells #[.int .i64 0] 3) = W0 := ⟨_, rfl⟩
  have hsz : w.heap.size + 4 ≤ W0.heap.size := by rw [← hW0]; simp
  have bI : Boxed W0 w.heap.size 29 (.slice p bs.length cap) := by rw [← hW0]; exact (((Boxed.new w 29 _).alloc _).alloc _).alloc _
  have bR : Boxed W0 (w.heap.size + 1) 4 (.bool false) := by
    rw [← hW0]; have := Boxed.new (w.alloc (.cells #[.slice p bs.length cap] 29)) 4 (.bool false); rw [World.size_alloc] at this; exact (this.alloc _).alloc _
  have bL : Boxed W0 (w.heap.size + 1 + 1) 3 (.int .i64 (-1)) := by
    rw [← hW0]; have := Boxed.new ((w.alloc (.cells #[.slice p bs.length cap] 29)).alloc (.cells #[.bool false] 4)) 3 (.int .i64 (-1)); simp only [World.size_alloc] at this; exact this.alloc _
  have bC : Boxed W0 (w.heap.size + 1 + 1 + 1) 3 (.int .i64 0) := by
    rw [← hW0]; have := Boxed.new (((w.alloc (.cells #[.slice p bs.length cap] 29)).alloc (.cells #[.bool false] 4)).alloc (.cells #[.int .i64 (-1)] 3)) 3 (.int .i64 0); simp only [World.size_alloc] at this; exact this
  have hB0 : Below w.heap.size w W0 := by
    rw [← hW0]; exact ((((Below.refl _ w).alloc (Nat.le_refl _) _).alloc (by simp) _).alloc (by simp; omega) _).alloc (by simp; omega) _
  have k1 := where_any _ bs (by omega) W0 (h.later hB0)
  rw [← hW0] at k1
  refine callsIn_wide.1 (callsIn_of_wp_marks (n := 3) Try.func4 rfl trivial ?_ rfl)
  simp only [Try.ntmps4, List.size_toArray, List.length_cons, List.length_nil, Nat.reduceAdd, Nat.reduceSub, Array.replicate_succ, Array.replicate_zero, List.push_toArray, List.append_toArray, List.nil_append, List.cons_append]
  have HW := Lib.hid hW0
  clear hW0
  gi_wp2_with (refine ⟨trivial, ?_⟩; (try refine ⟨wide_depth _, ?_⟩); gi_at_call 13; refine (callsIn_wide.2 k1).mono ?_; clear k1; rw [HW.out]; rintro e w1 ⟨B, b, rfl, hbB, hbw, hseq, hb1⟩)
  have bI1 := boxed_later bI hb1
  have bR1 := boxed_later bR hb1
  have bL1 := boxed_later bL hb1
  have bC1 := boxed_later bC hb1
  have hB1 := below_on hB0 hb1
  have hsz1 := hb1.size
  clear bI bR bL bC HW
  apply wpIn_rangeFunc_ownG rfl (n := 3) (by omega) (gf := 20) (lb := #[.pointer (some ⟨B, 0, none⟩)]) rfl trivial enters20
    (hseq (3 - 1)) KeepsBlk.trans (keepsBlk_b hbw) (Below.refl _ _) (fun _ => rfl)
    (fun pre W => Boxed W (w.heap.size + 1 + 1) 3 (.int .i64 (lastOf pre)) ∧ (Boxed W (w.heap.size + 1 + 1 + 1) 3 (.int .i64 (pre.length : Int)) ∧ (Boxed W w.heap.size 29 (.slice p bs.length cap) ∧ (Boxed W (w.heap.size + 1) 4 (.bool false) ∧ (-1 ≤ lastOf pre ∧ Below w.heap.size w W)))))
    (fun _ pre _ => BadAt bs pre)
    ?own ?ownx ?start
  case own => exact OwnFrom.and (Own.from (boxed_own _ 3 (fun pre : List Int => .int .i64 (lastOf pre))) _) (OwnFrom.and (Own.from (boxed_own _ 3 (fun pre : List Int => .int .i64 (pre.length : Int))) _) (OwnFrom.and (Own.from (boxed_own _ 29 (fun _ => .slice p bs.length cap)) _) (OwnFrom.and (Own.from (boxed_own _ 4 (fun _ => .bool false)) _) (OwnFrom.and (ownFrom_pure _ _) (ownFrom_below (Nat.le_refl _) (by omega))))))
  case ownx => exact fun c => ownFrom_pure _ _
  case start => exact ⟨bL1, bC1, bI1, bR1, by simp [lastOf], hB1⟩
  case hassign =>
    intro l x W K hK
    gi_wp2
    exact hK
  case hbody =>
    rintro l pre x W ⟨hL, hC, hI, hR, hl0, hB⟩ hlt
    have hlt2 : pre.length < 501 := by have := whereTo_length_le bs bs.length; omega
    clear hlt
    have c1 := hL.cell
    have f1 := hL.frozen
    have c2 := hC.cell
    have f2 := hC.frozen
    have c3 := hI.cell
    have c4 := hR.cell
    have f4 := hR.frozen
    have hbad : ∀ W', KeepsOthers W W' → (x ≤ lastOf pre ∨ (bs.length : Int) ≤ x ∨ bs[x.toNat]?.getD false = false) → KeepsFrom w1.heap.size W W' ∧ BadAt bs (pre ++ [x]) := fun W' hk hx => ⟨hk.from _, pre, x, rfl, hx⟩
    have hset := KeepsOthers.setCell W ⟨w.heap.size + 1, 0, none⟩ (.bool false)
    have hlast := lastOf_snoc pre x
    generalize lastOf pre = L at *
    have Hlast := Lib.hid hlast
    clear hlast
    by_cases h1 : x ≤ L
    · have Hb := Lib.hid (hbad _ hset (.inl h1))
      clear hbad hset
      gi_wp2
      exact Hb.out
    · by_cases h2 : (bs.length : Int) ≤ x
      · have Hb := Lib.hid (hbad _ hset (.inr (.inl h2)))
        clear hbad hset
        gi_wp2
        exact Hb.out
      · obtain ⟨j, rfl⟩ := Int.eq_ofNat_of_zero_le (show 0 ≤ x by omega)
        obtain ⟨b0, off, rfl, hb0, hcs⟩ := hsh (by omega)
        have c5 := (hB.cell (p := ⟨b0, off + j, none⟩) hb0).trans (hcs j (by omega))
        have hbad2 := fun e => hbad _ hset (.inr (.inr e))
        rw [Int.toNat_natCast] at hbad2
        clear hbad hset hcs
        generalize bs[j]?.getD false = xb at *
        cases xb with
        | false =>
          have Hb := Lib.hid (hbad2 rfl)
          clear hbad2
          gi_wp2
          exact Hb.out
        | true =>
          clear hbad2
          have hL2 := (hL.set (.int .i64 (j : Int))).other (B' := w.heap.size + 1 + 1 + 1) (by omega) (.int .i64 ((pre.length : Int) + 1))
          have hC2 := (hC.other (B' := w.heap.size + 1 + 1) (by omega) (.int .i64 (j : Int))).set (.int .i64 ((pre.length : Int) + 1))
          have hI2 := (hI.other (B' := w.heap.size + 1 + 1) (by omega) (.int .i64 (j : Int))).other (B' := w.heap.size + 1 + 1 + 1) (by omega) (.int .i64 ((pre.length : Int) + 1))
          have hR2 := (hR.other (B' := w.heap.size + 1 + 1) (by omega) (.int .i64 (j : Int))).other (B' := w.heap.size + 1 + 1 + 1) (by omega) (.int .i64 ((pre.length : Int) + 1))
          have hB2 := (hB.setCell (p := ⟨w.heap.size + 1 + 1, 0, none⟩) (by simp; omega) (.int .i64 (j : Int))).setCell (p := ⟨w.heap.size + 1 + 1 + 1, 0, none⟩) (by simp; omega) (.int .i64 ((pre.length : Int) + 1))
          have hk2 := ((KeepsOthers.setCell W ⟨w.heap.size + 1 + 1, 0, none⟩ (.int .i64 (j : Int))).trans (KeepsOthers.setCell _ ⟨w.heap.size + 1 + 1 + 1, 0, none⟩ (.int .i64 ((pre.length : Int) + 1)))).from w1.heap.size
          have hkb : KeepsBlk b W ((W.setCell ⟨w.heap.size + 1 + 1, 0, none⟩ (.int .i64 (j : Int))).setCell ⟨w.heap.size + 1 + 1 + 1, 0, none⟩ (.int .i64 ((pre.length : Int) + 1))) :=
            (KeepsBlk.setCell _ _ (by simp; omega) _).trans (KeepsBlk.setCell _ _ (by simp; omega) _)
          gi_wp2
          refine ⟨hk2, hkb, ?_, ?_, hI2, hR2, ?_, hB2⟩
          · rw [Hlast.out]; exact hL2
          · simpa using hC2
          · rw [Hlast.out]; omega
  case hdone =>
    rintro D ys W hD rfl ⟨hL, hC, hI, hR, hl0, hB⟩ hK
    have hl5 : (whereTo bs bs.length).length ≤ 500 := by have := whereTo_length_le bs bs.length; omega
    have c3 := hI.cell
    have hDlt := (Array.getElem?_eq_some_iff.1 hK).1
    gi_wp2
    gi_loopw [40] (fun i wr => ∃ k : Nat, k ≤ bs.length ∧ i = .int .i64 k ∧ Boxed wr (w.heap.size + 1 + 1 + 1) 3 (.int .i64 ((whereTo bs bs.length).length - (whereTo bs k).length : Int)) ∧ (∀ b', b' ≠ w.heap.size + 1 + 1 + 1 → wr.heap[b']? = W.heap[b']?) ∧ Below w.heap.size w wr) (fun i _ => bs.length - (intOf i).toNat)
    case atStart => exact ⟨0, Nat.zero_le _, rfl, by simpa [whereTo] using hC, fun _ _ => rfl, hB⟩
    case round =>
      clear hC hB hL
      obtain ⟨k, hk, rfl, hC, hsame, hB⟩ := hrel
      have hR1 : Boxed wr (w.heap.size + 1) 4 (.bool false) := (hsame _ (by omega)).trans hR
      have hK1 : wr.heap[D]? = some (.deferred (some [])) := (hsame _ (by omega)).trans hK
      have c1 := hC.cell
      have f1 := hC.frozen
      by_cases hkl : k < bs.length
      · obtain ⟨b0, off, rfl, hb0, hcs⟩ := hsh (by omega)
        have c5 := (hB.cell (p := ⟨b0, off + k, none⟩) hb0).trans (hcs k hkl)
        have ht : (whereTo bs k).length ≤ 500 := by have := whereTo_length_le bs k; omega
        have hhit := fun h => congrArg List.length (whereTo_hit (bs := bs) (k := k) h)
        have hmiss := fun h => congrArg List.length (whereTo_miss (bs := bs) (k := k) h)
        simp only [List.length_append, List.length_cons, List.length_nil, Nat.zero_add] at hhit
        clear hcs hsh
        generalize (whereTo bs k).length = t at *
        generalize (whereTo bs bs.length).length = T at *
        generalize bs[k]?.getD false = xb at *
        cases xb with
        | true =>
          have Hh := Lib.hid (hhit rfl)
          clear hhit hmiss
          have hC2 := hC.set (.int .i64 ((T : Int) - t - 1))
          have hB2 := hB.setCell (p := ⟨w.heap.size + 1 + 1 + 1, 0, none⟩) (by simp; omega) (.int .i64 ((T : Int) - t - 1))
          have hs2 : ∀ b', b' ≠ w.heap.size + 1 + 1 + 1 → (wr.setCell ⟨w.heap.size + 1 + 1 + 1, 0, none⟩ (.int .i64 ((T : Int) - t - 1))).heap[b']? = W.heap[b']? := fun b' hb' => (Below.heap_setCell wr ⟨w.heap.size + 1 + 1 + 1, 0, none⟩ _ b' (by simpa using hb')).trans (hsame b' hb')
          have Hs2 := Lib.hid hs2
          clear hsame hs2
          gi_wp2
          go_roundw
          case rel => exact ⟨k + 1, by omega, by simp, by rw [Hh.out, show (T : Int) - ((t + 1 : Nat) : Int) = (T : Int) - t - 1 by omega]; exact hC2, Hs2.out, hB2⟩
          case measure => simp [intOf]; omega
        | false =>
          have Hh := Lib.hid (hmiss rfl)
          have Hs2 := Lib.hid hsame
          clear hhit hmiss hsame
          gi_wp2
          go_roundw
          case rel => exact ⟨k + 1, by omega, by simp, by rw [Hh.out]; exact hC, Hs2.out, hB⟩
          case measure => simp [intOf]; omega
      · obtain rfl : bs.length = k := by omega
        rw [Int.sub_self] at hC c1
        have hsame2 := Lib.hid hsame
        clear hsame hseq hsh
        gi_wp2_with (refine ⟨trivial, ?_⟩; (try refine ⟨wide_depth _, ?_⟩); gi_at_call 10; refine (callsIn_wide.2 (awake_any _)).mono ?_; rintro e w8 ⟨rfl, hb8⟩; have hR8 := boxed_later hR1 hb8; have c8 := hR8.cell; have f8 := hR8.frozen)
        have hK8 : w8.heap[D]? = some (.deferred (some [])) := (hb8.block D (Array.getElem?_eq_some_iff.1 hK1).1).trans hK1
        have hK9 := (KeepsOthers.setCell w8 ⟨w.heap.size + 1, 0, none⟩ (.bool true)).same D _ hK8 rfl
        have hc9 := cell_kept (hR8.set (.bool true)).cell (grownBy_putObj' _ D (.deferred none)) (fun r e => by cases e; exact ⟨_, hK9, rfl⟩)
        refine ⟨by simp, .inl ⟨_, _, rfl, run_takeDeferred hK9, ?_⟩⟩
        refine ⟨.bool true, by simp [results, Try.f4, go_sem, hc9], rfl, ?_⟩
        exact ((below_on hB hb8).setCell (p := ⟨w.heap.size + 1, 0, none⟩) (by simp) _).trans (belowK_b (w := w) (Nat.le_refl _) _ D _ _ (by omega) hK9 rfl rfl)
  case hstop =>
    rintro D c pre W hD hpre hbad hK
    exact (not_bad hbad hpre).elim

theorem where_law_any (a0 : Option Addr) (len cap : Nat) (w : World) (h : BoolsArg w a0 len cap) : Calls Try.prog 4 #[.slice a0 len cap] w (Holds w) := by
  obtain ⟨hm, bs, rfl, hb⟩ := h.list
  unfold maxLen at hm
  by_cases h3 : 500 < bs.length
  · exact where_law_big a0 _ cap w h3 (by omega)
  · exact where_law_in _ bs (by omega) w hb
end Go.Proofs.Ytemallklldebpaa
