/- BlockChip: of a chip's blocks, which are clean, and how many pages are left: the law's walk. -/
import Derived.Test.YteghegojhhoppaaBlkTurns
import Derived.Test.YteghegojhhoppaaLBlocks2
import Derived.Test.YteghegojhhoppaaLHeld
namespace Go.Proofs.Yteghegojhhoppaa
open Go.RowKit

theorem Tm.unset {t : Tm} (h : t.set = false) : t.hit = false ∧ t.tick = t := by
  unfold Tm.hit Tm.tick
  rw [h]
  exact ⟨rfl, rfl⟩
/-- A chip of four blocks, with nothing to come; so many pages of each are programmed. -/
structure Four (S : LS) (np : Nat) (U : List Nat) : Prop where
  n : S.bl.length = 4
  u : U.length = 4
  npe : S.np = np
  dark : S.dark = false
  f : S.f.set = false
  c : S.c.set = false
  w : S.w.set = false
  bk : ∀ i (h : i < S.bl.length) (h' : i < U.length), S.bl[i].bad = false ∧ S.bl[i].next = (U[i] : Int) ∧ U[i] ≤ np
theorem four_new (np : Nat) : Four (madeS 4 np []) np [0, 0, 0, 0] where
  n := by simp [madeS, badL, newS]
  u := rfl
  npe := rfl
  dark := rfl
  f := rfl
  c := rfl
  w := rfl
  bk := fun i h h' => by
    have e : (madeS 4 np []).bl = List.replicate 4 (newBk np) := rfl
    have hi : i < 4 := by simpa using h'
    have e2 : (madeS 4 np []).bl[i] = newBk np := List.eq_of_mem_replicate (n := 4) (by rw [← e]; exact List.getElem_mem h)
    have e3 : ([0, 0, 0, 0] : List Nat)[i] = 0 := by
      match i, hi with
      | 0, _ => rfl
      | 1, _ => rfl
      | 2, _ => rfl
      | 3, _ => rfl
    exact ⟨congrArg Bk.bad e2, (congrArg Bk.next e2).trans (by rw [e3]; rfl), by rw [e3]; exact Nat.zero_le _⟩
section
variable {S : LS} {np : Nat} {U : List Nat}
theorem Four.set (h : Four S np U) {i : Nat} (_hi : i < 4) {b : Bk} {x : Nat} (S' : LS) (hb : S'.bl = S.bl.set i b) (h1 : S'.np = S.np) (h2 : S'.dark = S.dark) (h3 : S'.f = S.f) (h4 : S'.c = S.c) (h5 : S'.w = S.w) (hx : b.bad = false ∧ b.next = (x : Int) ∧ x ≤ np) : Four S' np (U.set i x) where
  n := by rw [hb, List.length_set]; exact h.n
  u := by rw [List.length_set]; exact h.u
  npe := h1.trans h.npe
  dark := h2.trans h.dark
  f := by rw [h3]; exact h.f
  c := by rw [h4]; exact h.c
  w := by rw [h5]; exact h.w
  bk := fun j hj hj' => by
    have hl : j < S.bl.length := by rw [hb] at hj; simpa using hj
    have hl' : j < U.length := by simpa using hj'
    have e : S'.bl[j] = (S.bl.set i b)[j]'(by simpa using hl) := by simp [hb]
    rw [e, List.getElem_set, List.getElem_set]
    by_cases hij : i = j
    · subst hij
      simp only [if_true]
      exact hx
    · simp only [if_neg hij]
      exact h.bk j hl hl'
theorem Four.at (h : Four S np U) {i : Nat} (hi : i < 4) : hasL S i (U.getD i 0) = decide (U.getD i 0 < np) ∧ isL S i = true ∧ (blkL S i).bad = false ∧ (blkL S i).next = (U.getD i 0 : Int) ∧ U.getD i 0 ≤ np := by
  have h1 : i < S.bl.length := by rw [h.n]; exact hi
  have h2 : i < U.length := by rw [h.u]; exact hi
  have e : U.getD i 0 = U[i] := by simp [h2]
  have e2 : blkL S i = S.bl[i] := blkL_at h1
  obtain ⟨a, b, c⟩ := h.bk i h1 h2
  rw [e, e2]
  refine ⟨?_, ?_, a, b, c⟩
  · simp [hasL, h.n, h.npe]; omega
  · simp [isL, h.n]; omega
theorem four_prog (h : Four S np U) {i : Nat} (hi : i < 4) {y : UInt8} (hlt : U.getD i 0 < np) : (progL S i (U.getD i 0) [y]).1 = 0 ∧ Four (progL S i (U.getD i 0) [y]).2 np (U.set i (U.getD i 0 + 1)) := by
  obtain ⟨a1, a2, a3, a4, a5⟩ := h.at hi
  have hr : refS S i (U.getD i 0) [y].length = 0 := by
    unfold refS barS
    have hd : decide (U.getD i 0 < np) = true := by simpa using hlt
    rw [a1, hd, if_neg (bad3 (by simp) (by simp)), a2, a3, a4, h.dark]
    simp
  have e : progL S i (U.getD i 0) [y] = (0, { S with pr := wrap64 (S.pr + 1), f := S.f.tick, c := S.c.tick, bl := putL S i (U.getD i 0) false [y] }) := by
    unfold progL
    rw [if_neg (by rw [hr]; decide), (Tm.unset h.c).1, (Tm.unset h.f).1]
    rfl
  rw [e]
  refine ⟨rfl, h.set hi (b := { blkL S i with bad := false, next := (blkL S i).next + 1, pages := (blkL S i).pages.set (U.getD i 0) [y] }) (x := U.getD i 0 + 1) _ ?_ rfl rfl (Tm.unset h.f).2 (Tm.unset h.c).2 rfl ⟨rfl, ?_, ?_⟩⟩
  · simp [putL]
  · show (blkL S i).next + 1 = _
    rw [a4]; push_cast; rfl
  · omega
theorem four_full (h : Four S np U) {i : Nat} (hi : i < 4) (l : List UInt8) (hlt : ¬ U.getD i 0 < np) : progL S i (U.getD i 0) l = (1, S) := by
  obtain ⟨a1, _⟩ := h.at hi
  have hh : hasL S i (U.getD i 0) = false := by rw [a1]; simpa using hlt
  have e : refS S i (U.getD i 0) l.length = 1 := by unfold refS; rw [if_pos (.inl hh)]
  unfold progL
  rw [if_pos (by rw [e]; decide), e]
theorem four_erase (h : Four S np U) {i : Nat} (hi : i < 4) : (eraseL S i).1 = 0 ∧ Four (eraseL S i).2 np (U.set i 0) := by
  obtain ⟨_, a2, a3, a4, a5⟩ := h.at hi
  have hb : barS S i = 0 := by unfold barS; rw [a2, h.dark, a3]; rfl
  have e : eraseL S i = (0, { S with er := wrap64 (S.er + 1), w := S.w.tick, c := S.c.tick, bl := S.bl.set i (emptyB (cntB (blkL S i)) S.np S.np) }) := by
    unfold eraseL
    rw [if_neg (by rw [hb]; decide), (Tm.unset h.c).1, (Tm.unset h.w).1]
    simp
  rw [e]
  exact ⟨rfl, h.set hi (b := emptyB (cntB (blkL S i)) S.np S.np) (x := 0) _ rfl rfl rfl rfl (Tm.unset h.c).2 (Tm.unset h.w).2 ⟨a3, by simp [emptyB], Nat.zero_le _⟩⟩
theorem countP_pt {α β : Type} (p : α → Bool) (q : β → Bool) : ∀ (l : List α) (m : List β), l.length = m.length → (∀ i (h : i < l.length) (h' : i < m.length), p l[i] = q m[i]) → l.countP p = m.countP q
  | [], [], _, _ => rfl
  | [], _ :: _, h, _ => by simp at h
  | _ :: _, [], h, _ => by simp at h
  | x :: l, y :: m, h, hp => by
    have h0 := hp 0 (by simp) (by simp)
    simp at h0
    rw [List.countP_cons, List.countP_cons, countP_pt p q l m (by simpa using h) (fun i h1 h2 => hp (i + 1) (Nat.succ_lt_succ h1) (Nat.succ_lt_succ h2)), h0]
theorem four_bad (h : Four S np U) : badB S.bl = 0 := by
  unfold badB
  rw [List.countP_eq_zero]
  intro b hb
  obtain ⟨i, hi, rfl⟩ := List.mem_iff_getElem.1 hb
  have := (h.bk i hi (by rw [h.u]; rw [h.n] at hi; exact hi)).1
  simp [this]
theorem four_clean (h : Four S np U) {i : Nat} (h1 : i < S.bl.length) (h2 : i < U.length) : cleanB S.bl[i] = (U[i] == 0) := by
  obtain ⟨a, b, _⟩ := h.bk i h1 h2
  unfold cleanB
  rw [a, b, Bool.eq_iff_iff]
  simp
theorem four_cleans (h : Four S np U) : S.bl.countP cleanB = U.countP (· == 0) := countP_pt _ _ _ _ (by rw [h.n, h.u]) fun _ h1 h2 => four_clean h h1 h2
theorem four_left (h : Four S np U) (hn : np ≤ 100) {i : Nat} (h1 : i < S.bl.length) (h2 : i < U.length) : leftB S.bl[i] np = (np : Int) - (U[i] : Int) := by
  obtain ⟨a, b, c⟩ := h.bk i h1 h2
  unfold leftB
  rw [a, b, if_neg (by decide), if_neg (by omega), if_neg (by omega)]
end
theorem one_cb (w : World) (x : Nat → Prop) : CB (w.alloc (.cells #[.int .u8 1] 5)) (fun b => x b ∨ b = w.heap.size) (some ⟨w.heap.size, 0, none⟩) [1] := fun _ => by
  refine ⟨_, rfl, .inr rfl, fun j hj => ?_⟩
  obtain rfl : j = 0 := by simpa using hj
  exact (cell_one_new _ _ _) 0 _ rfl
theorem held_blocks {w : World} {p : Nat} {x : Nat → Prop} {S : LS} (h : Held w p x S) (h1 : 1 ≤ S.bl.length) : Calls Try.prog 15 #[.pointer (some ⟨p, 0, none⟩)] w fun e w' => ∃ g cap, e = .returned (.slice (some ⟨g, 0, none⟩) S.bl.length cap) ∧ BLies w' (some ⟨g, 0, none⟩) S.bl ∧ Below w.heap.size w w' := by
  obtain ⟨q, cap, g, C, h2, _⟩ := h
  refine (blocks_any h2 h1).mono ?_
  rintro e w' ⟨v, rfl, ⟨L, hL, hown, hp⟩, hb⟩
  have hl : L.length = S.bl.length := by rw [← hL]; simp
  rcases hown.2 with ⟨_, h0⟩ | ⟨g', cap', cur, rfl, _⟩
  · omega
  · refine ⟨g', cap', rfl, ?_, hb⟩
    have := own_lies (L := L) hl.symm hown (fun y hy => by
      obtain ⟨A9, c9, e9, _⟩ := hp y hy
      exact ⟨A9, _, c9, e9⟩)
    rwa [hL] at this
theorem held_prog_n {w : World} {p : Nat} {x : Nat → Prop} {S : LS} (A : Option Addr) (m c : Nat) (l : List UInt8) (b pg : Int) (hm : m = l.length) (h : Held w p x S) (hl : CB w x A l) :
    Calls Try.prog 13 #[.pointer (some ⟨p, 0, none⟩), .agg #[.int .i64 b, .int .i64 pg], .slice A m c] w fun e w' => e = .returned (.int .i64 (progL S b pg l).1) ∧ Held w' p x (progL S b pg l).2 ∧ Safe x w w' := by
  subst hm
  exact held_prog A c l b pg h hl
theorem zero_take (U : List Nat) (j : Nat) (h : j < U.length) : (U.take (j + 1)).countP (· == 0) = (U.take j).countP (· == 0) + if (U[j] == 0) = true then 1 else 0 := by
  rw [List.take_succ_eq_append_getElem h, List.countP_append, List.countP_singleton]
/-- A safe block is written. -/
theorem Held.wrote {w : World} {p : Nat} {x : Nat → Prop} {S : LS} (h : Held w p x S) {a : Addr} (ha : x a.block) (v : Value) : Held (w.setCell a v) p x S := by
  obtain ⟨q, cap, g, C, h1, h2⟩ := h
  exact ⟨q, cap, g, C, h1.kept (by simp) (fun b hb => Below.heap_setCell w a v b (fun e => (h2 _ ha).2 (e ▸ hb))), fun b hb => ⟨by simpa using (h2 b hb).1, (h2 b hb).2⟩⟩
set_option maxRecDepth 100000 in
set_option maxHeartbeats 4000000 in
theorem chip8_any (A : Option Addr) (c : Nat) (l : List Int) (pages : Int) (w : World) (_hc : l.length ≤ maxLen) (hA : IA w A l) :
    Calls Try.prog 4 #[.slice A l.length c, .int .i64 pages] w (Holds w) := by
  unfold maxLen at _hc
  by_cases hl : 80 < l.length
  · clear hA
    have r0 := u64_rng pages
    go_enter Try.func4, Try.ntmps4
    go_wp2_with (go_at_call 6; refine (awake_any _).mono ?_; rintro e w1 ⟨rfl, hb1⟩)
    go_ret
    exact ⟨rfl, hb1⟩
  have HA := Lib.hid hA
  have r0 := u64_rng pages
  obtain ⟨np, hP, p1, p2⟩ : ∃ np : Nat, 1 + IntKind.u64.wrap pages % 8 = (np : Int) ∧ 1 ≤ np ∧ np ≤ 8 := ⟨(1 + IntKind.u64.wrap pages % 8).toNat, by omega, by omega, by omega⟩
  have HN := Lib.hid (held_new (w := w) 4 np none 0 [] (fun h => absurd h (by simp)) (by decide) (by decide) (by decide) p1 (by omega))
  clear hA
  go_enter Try.func4, Try.ntmps4
  go_wp2_with (go_at_call 12; refine HN.out.mono ?_; rintro e w1 ⟨p, rfl, hH, hB⟩; have H0 := Lib.hid hH; have HB0 := Lib.hid hB; clear hH hB)
  clear hP r0
  have HX0 := Lib.hid (heap_alloc_new w1 (.cells #[.int .i64 0, .int .i64 0, .int .i64 0, .int .i64 0] 38))
  have HH0 := Lib.hid (H0.out.alloc (.cells #[.int .i64 0, .int .i64 0, .int .i64 0, .int .i64 0] 38))
  have HB1 := Lib.hid (HB0.out.alloc HB0.out.size (.cells #[.int .i64 0, .int .i64 0, .int .i64 0, .int .i64 0] 38))
  obtain ⟨u, hu⟩ : ∃ u, w1.heap.size = u := ⟨_, rfl⟩
  have hwu : w.heap.size ≤ u := by rw [← hu]; exact HB0.out.size
  rw [hu] at HX0 HH0 ⊢
  generalize w1.alloc (.cells #[.int .i64 0, .int .i64 0, .int .i64 0, .int .i64 0] 38) = w2 at HX0 HH0 HB1 ⊢
  clear hu HB0 H0 HN
  go_loopw [27] (fun v27 wr => ∃ (j : Nat) (U : List Nat) (S : LS), j ≤ l.length ∧ v27 = .int .i64 j ∧ Four S np U ∧ wr.heap[u]? = some (.cells ((U.map fun x : Nat => (x : Int)).map (Value.int .i64)).toArray 38 (0, 0)) ∧ Held wr p (fun b => b < w.heap.size ∨ b = u) S ∧ Below w.heap.size w wr) (fun v27 _ => l.length - (intOf v27).toNat)
  case atStart => exact ⟨0, [0, 0, 0, 0], _, Nat.zero_le _, rfl, four_new np, HX0.out, HH0.out, HB1.out⟩
  case round =>
    obtain ⟨j, U, S, hj, rfl, hF, hx, hH, hB⟩ := hrel
    have HF := Lib.hid hF
    have HX := Lib.hid hx
    have HH := Lib.hid hH
    have HB := Lib.hid hB
    clear hF hx hH hB
    by_cases hj1 : j < l.length
    · obtain ⟨B, o, rfl, hBs, hc⟩ := HA.out (by omega)
      have q1 := (HB.out.cell (p := ⟨B, o + j, none⟩) hBs).trans (hc j hj1)
      clear hc
      generalize l[j] = x at q1
      have r0 := u64_rng x
      obtain ⟨i, hi, hie⟩ : ∃ i : Nat, i < 4 ∧ IntKind.u64.wrap x / 2 % 4 = (i : Int) := ⟨(IntKind.u64.wrap x / 2 % 4).toNat, by omega, by omega⟩
      have hUl : i < U.length := by rw [HF.out.u]; exact hi
      have hq := row_cell HX.out i (by simp; exact hUl)
      have q3 := row_frozen HX.out i
      obtain ⟨d, hd⟩ : ∃ d, U.getD i 0 = d := ⟨_, rfl⟩
      have q2 : wr.cell? ⟨u, i, none⟩ = some (.int .i64 (d : Int)) := by
        rw [hq, ← hd]
        simp [hUl]
      have hdn : d ≤ np := by rw [← hd]; exact (HF.out.at hi).2.2.2.2
      have hul : u < wr.heap.size := lt_size HX.out
      have hsz := HB.out.size
      have hset : ∀ (W : World) (y : Nat), W.heap[u]? = wr.heap[u]? → (W.setCell ⟨u, i, none⟩ (.int .i64 (y : Int))).heap[u]? = some (.cells (((U.set i y).map fun x : Nat => (x : Int)).map (Value.int .i64)).toArray 38 (0, 0)) := fun W y hW => by
        have := row_set (hW.trans HX.out) i (y : Int)
        rwa [← List.map_set] at this
      have HSet := Lib.hid hset
      clear hq hset
      cases hbit : (bits BinOp.and IntKind.i64 x 1 == 0) with
      | true =>
        have HPg := Lib.hid (held_prog_n (some ⟨wr.heap.size, 0, none⟩) 1 1 [1] (i : Int) (d : Int) rfl (HH.out.alloc (.cells #[.int .u8 1] 5)) (one_cb wr _))
        by_cases hlt : d < np
        · obtain ⟨e1, e2⟩ := four_prog HF.out hi (y := 1) (by rw [hd]; exact hlt)
          rw [hd] at e1 e2
          generalize progL S (i : Int) (d : Int) [1] = R at e1 e2 HPg
          obtain ⟨r, S'⟩ := R
          obtain rfl : r = 0 := e1
          have E2 := Lib.hid e2
          clear e2 hd
          go_wp2_with (go_at_call 13; refine HPg.out.mono ?_; rintro e w3 ⟨rfl, hH3, hs3⟩; have hb3 := (Safe.block hs3 (b := u) (by simp; omega) (.inl (.inr rfl))).trans (Below.heap_alloc _ _ _ hul); have k2 := (World.cell?_of_block (a := ⟨u, i, none⟩) hb3).trans q2; have k3 : w3.frozen? ⟨u, i, none⟩ = false := row_frozen (hb3.trans HX.out) i; have H3 := Lib.hid hH3; have S3 := Lib.hid hs3; have HB3 := Lib.hid hb3; clear hH3 hs3 hb3)
          go_roundw
          case rel => exact ⟨j + 1, _, _, by omega, by go_num, E2.out, by have := HSet.out w3 (d + 1) HB3.out; simpa using this, (H3.out.less fun b hb => .inl hb).wrote (a := ⟨u, i, none⟩) (.inr rfl) _, ((HB.out.alloc hsz _).trans (Safe.below S3.out (fun b hb => .inl (.inl hb)) (by simp; omega))).setCell (p := ⟨u, i, none⟩) hwu _⟩
          case measure => simp [intOf]; omega
        · have e1 := four_full HF.out hi [1] (by rw [hd]; exact hlt)
          rw [hd] at e1
          rw [e1] at HPg
          clear e1 hd
          go_wp2_with (go_at_call 13; refine HPg.out.mono ?_; rintro e w3 ⟨rfl, hH3, hs3⟩; have hb3 := (Safe.block hs3 (b := u) (by simp; omega) (.inl (.inr rfl))).trans (Below.heap_alloc _ _ _ hul); have H3 := Lib.hid hH3; have S3 := Lib.hid hs3; have HB3 := Lib.hid hb3; clear hH3 hs3 hb3)
          go_roundw
          case rel => exact ⟨j + 1, _, _, by omega, by go_num, HF.out, HB3.out.trans HX.out, H3.out.less fun b hb => .inl hb, (HB.out.alloc hsz _).trans (Safe.below S3.out (fun b hb => .inl (.inl hb)) (by simp; omega))⟩
          case measure => simp [intOf]; omega
      | false =>
        have HPe := Lib.hid (held_erase (i : Int) HH.out)
        obtain ⟨e1, e2⟩ := four_erase HF.out hi
        generalize eraseL S (i : Int) = R at e1 e2 HPe
        obtain ⟨r, S'⟩ := R
        obtain rfl : r = 0 := e1
        have E2 := Lib.hid e2
        clear e2 hd
        go_wp2_with (go_at_call 14; refine HPe.out.mono ?_; rintro e w3 ⟨rfl, hH3, hs3⟩; have hb3 := Safe.block hs3 (b := u) hul (.inr rfl); have k2 := (World.cell?_of_block (a := ⟨u, i, none⟩) hb3).trans q2; have k3 : w3.frozen? ⟨u, i, none⟩ = false := row_frozen (hb3.trans HX.out) i; have H3 := Lib.hid hH3; have S3 := Lib.hid hs3; have HB3 := Lib.hid hb3; clear hH3 hs3 hb3)
        go_roundw
        case rel => exact ⟨j + 1, _, _, by omega, by go_num, E2.out, HSet.out w3 0 HB3.out, H3.out.wrote (a := ⟨u, i, none⟩) (.inr rfl) _, (HB.out.trans (Safe.below S3.out (fun b hb => .inl hb) hsz)).setCell (p := ⟨u, i, none⟩) hwu _⟩
        case measure => simp [intOf]; omega
    · obtain rfl : j = l.length := by omega
      obtain ⟨a0, a1, a2, a3, rfl⟩ : ∃ a0 a1 a2 a3, U = [a0, a1, a2, a3] := by
        match U, HF.out.u with
        | [a0, a1, a2, a3], _ => exact ⟨a0, a1, a2, a3, rfl⟩
      have HBl := Lib.hid (held_blocks HH.out (by rw [HF.out.n]; decide))
      have hn4 := HF.out.n
      rw [hn4] at HBl
      have hul : u < wr.heap.size := lt_size HX.out
      go_wp2_with (first
        | (go_at_call 15; refine HBl.out.mono ?_; rintro e w4 ⟨g, cap, rfl, hL4, hb4⟩; have HL4 := Lib.hid hL4; have HB4 := Lib.hid (HB.out.trans (hb4.mono HB.out.size)); have HX4 := Lib.hid ((hb4.block u hul).trans HX.out); clear hL4 hb4; have HBd := Lib.hid (bad_any (some ⟨g, 0, none⟩) cap S.bl w4 (by omega) HL4.out); rw [hn4, four_bad HF.out] at HBd)
        | (go_at_call 9; refine HBd.out.mono ?_; rintro e w5 ⟨rfl, hb5⟩; have HL5 := Lib.hid (HL4.out.below hb5); have HB5 := Lib.hid (HB4.out.trans (hb5.mono HB4.out.size)); have HX5 := Lib.hid ((hb5.block u (lt_size HX4.out)).trans HX4.out); clear hb5; obtain ⟨z0, z1, z2, z3⟩ := cells4 HX5.out))
      have hg5 : g < w5.heap.size := by
        obtain ⟨g', o', e', hg', _⟩ := HL5.out (by omega)
        cases e'
        exact hg'
      go_loopw [11, 71] (fun v11 v71 wx => ∃ k : Nat, k ≤ 4 ∧ v71 = .int .i64 k ∧ v11 = .int .i64 ((([a0, a1, a2, a3].take k).countP (· == 0) : Nat) : Int) ∧ Below w5.heap.size w5 wx) (fun _ v71 _ => 4 - (intOf v71).toNat)
      case atStart => exact ⟨0, Nat.zero_le _, rfl, rfl, Below.refl _ _⟩
      case round =>
        obtain ⟨k, hk, rfl, rfl, hB⟩ := hrel
        have HBx := Lib.hid hB
        have hgx := Nat.lt_of_lt_of_le hg5 hB.size
        clear hB
        have hk4 : k = 0 ∨ k = 1 ∨ k = 2 ∨ k = 3 ∨ k = 4 := by omega
        rcases hk4 with h | h | h | h | h
        · obtain rfl : k = 0 := by omega
          have HT : Hid (([a0, a1, a2, a3].take (0 + 1)).countP (· == 0) = ([a0, a1, a2, a3].take 0).countP (· == 0) + if (a0 == 0) = true then 1 else 0) := Lib.hid (zero_take [a0, a1, a2, a3] 0 (by simp))
          have hy : ([a0, a1, a2, a3].take 0).countP (· == 0) ≤ 4 := Nat.le_trans List.countP_le_length (by simp)
          generalize ([a0, a1, a2, a3].take 0).countP (· == 0) = y at HT hy ⊢
          have h1 : 0 < S.bl.length := by rw [HF.out.n]; omega
          have hC := four_clean HF.out h1 (show 0 < [a0, a1, a2, a3].length by simp)
          have hL := four_left HF.out (by omega) h1 (show 0 < [a0, a1, a2, a3].length by simp)
          have hW : S.bl[0].next = (a0 : Int) := (HF.out.bk 0 h1 (show 0 < [a0, a1, a2, a3].length by simp)).2.1
          have hLe : a0 ≤ np := (HF.out.bk 0 h1 (show 0 < [a0, a1, a2, a3].length by simp)).2.2
          have hC' : cleanB S.bl[0] = (a0 == 0) := hC
          have hL' : leftB S.bl[0] np = (np : Int) - (a0 : Int) := hL
          obtain ⟨g', o', e', _, hcs⟩ := (HL5.out.below HBx.out) (by omega)
          cases e'
          obtain ⟨k0, k1, k2, A1, n1, c1, k3⟩ := hcs 0 h1
          have HK := Lib.hid (show BkC _ g (0 + 0 * 4) S.bl[0] from ⟨k0, k1, k2, A1, n1, c1, k3⟩)
          simp only [Nat.zero_add, Nat.zero_mul] at k0 k1 k2 k3
          have HCn := Lib.hid (fun W => clean_any S.bl[0] A1 n1 c1 W)
          have HLf := Lib.hid (fun A1 n1 c1 W => left_any S.bl[0] A1 n1 c1 np W (by rw [hW]; exact wf_of (by omega)) (wf_of (by omega)))
          rw [hC'] at HCn
          simp only [hL'] at HLf
          have HLq := HLf
          clear HLf
          generalize S.bl[0] = b at *
          clear hC hL hC' hL' hcs hW
          have hix : ∀ W : World, (Instr.index 38 (.agg #[.int .i64 (a0 : Int), .int .i64 (a1 : Int), .int .i64 (a2 : Int), .int .i64 (a3 : Int)]) (.int .i64 0)).run Try.prog W = .ok (.int .i64 (a0 : Int)) W := fun W => by simp [Instr.index, go_sem] <;> rfl
          rcases Nat.eq_zero_or_pos a0 with h0 | h0
          · have hz : (a0 == 0) = true := by simp [h0]
            have hzi : ((a0 : Int) == 0) = true := by simp [h0]
            have H0 := Lib.hid h0
            clear h0
            rw [hz] at HCn HT
            go_wp2_with (first
              | (go_at_call 8; refine (HCn.out _).mono ?_; rintro e w7 ⟨rfl, hb7⟩; have HB7 := Lib.hid (HBx.out.trans (hb7.mono HBx.out.size)); obtain ⟨m0, m1, m2, A7, n7, c7, m3⟩ := HK.out.kept (hb7.block g hgx); simp only [Nat.zero_add, Nat.zero_mul] at m0 m1 m2 m3; have HLf := Lib.hid (HLq.out A7 n7 c7); clear hb7)
              | (go_at_call 7; refine (HLf.out _).mono ?_; rintro e w8 ⟨rfl, hb8⟩; have HB8 := Lib.hid (HB7.out.trans (hb8.mono HB7.out.size)); clear hb8))
            go_roundw
            case rel => exact ⟨0 + 1, by omega, by go_num, by rw [HT.out]; go_num, HB8.out⟩
            case measure => simp [intOf]
          · have hz : (a0 == 0) = false := by simp; omega
            have hzi : ((a0 : Int) == 0) = false := by simp; omega
            have H0 := Lib.hid h0
            clear h0
            rw [hz] at HCn HT
            go_wp2_with (first
              | (go_at_call 8; refine (HCn.out _).mono ?_; rintro e w7 ⟨rfl, hb7⟩; have HB7 := Lib.hid (HBx.out.trans (hb7.mono HBx.out.size)); obtain ⟨m0, m1, m2, A7, n7, c7, m3⟩ := HK.out.kept (hb7.block g hgx); simp only [Nat.zero_add, Nat.zero_mul] at m0 m1 m2 m3; have HLf := Lib.hid (HLq.out A7 n7 c7); clear hb7)
              | (go_at_call 7; refine (HLf.out _).mono ?_; rintro e w8 ⟨rfl, hb8⟩; have HB8 := Lib.hid (HB7.out.trans (hb8.mono HB7.out.size)); clear hb8))
            go_roundw
            case rel => exact ⟨0 + 1, by omega, by go_num, by rw [HT.out]; go_num, HB8.out⟩
            case measure => simp [intOf]
        · obtain rfl : k = 1 := by omega
          have HT : Hid (([a0, a1, a2, a3].take (1 + 1)).countP (· == 0) = ([a0, a1, a2, a3].take 1).countP (· == 0) + if (a1 == 0) = true then 1 else 0) := Lib.hid (zero_take [a0, a1, a2, a3] 1 (by simp))
          have hy : ([a0, a1, a2, a3].take 1).countP (· == 0) ≤ 4 := Nat.le_trans List.countP_le_length (by simp)
          generalize ([a0, a1, a2, a3].take 1).countP (· == 0) = y at HT hy ⊢
          have h1 : 1 < S.bl.length := by rw [HF.out.n]; omega
          have hC := four_clean HF.out h1 (show 1 < [a0, a1, a2, a3].length by simp)
          have hL := four_left HF.out (by omega) h1 (show 1 < [a0, a1, a2, a3].length by simp)
          have hW : S.bl[1].next = (a1 : Int) := (HF.out.bk 1 h1 (show 1 < [a0, a1, a2, a3].length by simp)).2.1
          have hLe : a1 ≤ np := (HF.out.bk 1 h1 (show 1 < [a0, a1, a2, a3].length by simp)).2.2
          have hC' : cleanB S.bl[1] = (a1 == 0) := hC
          have hL' : leftB S.bl[1] np = (np : Int) - (a1 : Int) := hL
          obtain ⟨g', o', e', _, hcs⟩ := (HL5.out.below HBx.out) (by omega)
          cases e'
          obtain ⟨k0, k1, k2, A1, n1, c1, k3⟩ := hcs 1 h1
          have HK := Lib.hid (show BkC _ g (0 + 1 * 4) S.bl[1] from ⟨k0, k1, k2, A1, n1, c1, k3⟩)
          simp only [Nat.zero_add, Nat.reduceMul, Nat.reduceAdd] at k0 k1 k2 k3
          have HCn := Lib.hid (fun W => clean_any S.bl[1] A1 n1 c1 W)
          have HLf := Lib.hid (fun A1 n1 c1 W => left_any S.bl[1] A1 n1 c1 np W (by rw [hW]; exact wf_of (by omega)) (wf_of (by omega)))
          rw [hC'] at HCn
          simp only [hL'] at HLf
          have HLq := HLf
          clear HLf
          generalize S.bl[1] = b at *
          clear hC hL hC' hL' hcs hW
          have hix : ∀ W : World, (Instr.index 38 (.agg #[.int .i64 (a0 : Int), .int .i64 (a1 : Int), .int .i64 (a2 : Int), .int .i64 (a3 : Int)]) (.int .i64 1)).run Try.prog W = .ok (.int .i64 (a1 : Int)) W := fun W => by simp [Instr.index, go_sem] <;> rfl
          rcases Nat.eq_zero_or_pos a1 with h0 | h0
          · have hz : (a1 == 0) = true := by simp [h0]
            have hzi : ((a1 : Int) == 0) = true := by simp [h0]
            have H0 := Lib.hid h0
            clear h0
            rw [hz] at HCn HT
            go_wp2_with (first
              | (go_at_call 8; refine (HCn.out _).mono ?_; rintro e w7 ⟨rfl, hb7⟩; have HB7 := Lib.hid (HBx.out.trans (hb7.mono HBx.out.size)); obtain ⟨m0, m1, m2, A7, n7, c7, m3⟩ := HK.out.kept (hb7.block g hgx); simp only [Nat.zero_add, Nat.reduceMul, Nat.reduceAdd] at m0 m1 m2 m3; have HLf := Lib.hid (HLq.out A7 n7 c7); clear hb7)
              | (go_at_call 7; refine (HLf.out _).mono ?_; rintro e w8 ⟨rfl, hb8⟩; have HB8 := Lib.hid (HB7.out.trans (hb8.mono HB7.out.size)); clear hb8))
            go_roundw
            case rel => exact ⟨1 + 1, by omega, by go_num, by rw [HT.out]; go_num, HB8.out⟩
            case measure => simp [intOf]
          · have hz : (a1 == 0) = false := by simp; omega
            have hzi : ((a1 : Int) == 0) = false := by simp; omega
            have H0 := Lib.hid h0
            clear h0
            rw [hz] at HCn HT
            go_wp2_with (first
              | (go_at_call 8; refine (HCn.out _).mono ?_; rintro e w7 ⟨rfl, hb7⟩; have HB7 := Lib.hid (HBx.out.trans (hb7.mono HBx.out.size)); obtain ⟨m0, m1, m2, A7, n7, c7, m3⟩ := HK.out.kept (hb7.block g hgx); simp only [Nat.zero_add, Nat.reduceMul, Nat.reduceAdd] at m0 m1 m2 m3; have HLf := Lib.hid (HLq.out A7 n7 c7); clear hb7)
              | (go_at_call 7; refine (HLf.out _).mono ?_; rintro e w8 ⟨rfl, hb8⟩; have HB8 := Lib.hid (HB7.out.trans (hb8.mono HB7.out.size)); clear hb8))
            go_roundw
            case rel => exact ⟨1 + 1, by omega, by go_num, by rw [HT.out]; go_num, HB8.out⟩
            case measure => simp [intOf]
        · obtain rfl : k = 2 := by omega
          have HT : Hid (([a0, a1, a2, a3].take (2 + 1)).countP (· == 0) = ([a0, a1, a2, a3].take 2).countP (· == 0) + if (a2 == 0) = true then 1 else 0) := Lib.hid (zero_take [a0, a1, a2, a3] 2 (by simp))
          have hy : ([a0, a1, a2, a3].take 2).countP (· == 0) ≤ 4 := Nat.le_trans List.countP_le_length (by simp)
          generalize ([a0, a1, a2, a3].take 2).countP (· == 0) = y at HT hy ⊢
          have h1 : 2 < S.bl.length := by rw [HF.out.n]; omega
          have hC := four_clean HF.out h1 (show 2 < [a0, a1, a2, a3].length by simp)
          have hL := four_left HF.out (by omega) h1 (show 2 < [a0, a1, a2, a3].length by simp)
          have hW : S.bl[2].next = (a2 : Int) := (HF.out.bk 2 h1 (show 2 < [a0, a1, a2, a3].length by simp)).2.1
          have hLe : a2 ≤ np := (HF.out.bk 2 h1 (show 2 < [a0, a1, a2, a3].length by simp)).2.2
          have hC' : cleanB S.bl[2] = (a2 == 0) := hC
          have hL' : leftB S.bl[2] np = (np : Int) - (a2 : Int) := hL
          obtain ⟨g', o', e', _, hcs⟩ := (HL5.out.below HBx.out) (by omega)
          cases e'
          obtain ⟨k0, k1, k2, A1, n1, c1, k3⟩ := hcs 2 h1
          have HK := Lib.hid (show BkC _ g (0 + 2 * 4) S.bl[2] from ⟨k0, k1, k2, A1, n1, c1, k3⟩)
          simp only [Nat.zero_add, Nat.reduceMul, Nat.reduceAdd] at k0 k1 k2 k3
          have HCn := Lib.hid (fun W => clean_any S.bl[2] A1 n1 c1 W)
          have HLf := Lib.hid (fun A1 n1 c1 W => left_any S.bl[2] A1 n1 c1 np W (by rw [hW]; exact wf_of (by omega)) (wf_of (by omega)))
          rw [hC'] at HCn
          simp only [hL'] at HLf
          have HLq := HLf
          clear HLf
          generalize S.bl[2] = b at *
          clear hC hL hC' hL' hcs hW
          have hix : ∀ W : World, (Instr.index 38 (.agg #[.int .i64 (a0 : Int), .int .i64 (a1 : Int), .int .i64 (a2 : Int), .int .i64 (a3 : Int)]) (.int .i64 2)).run Try.prog W = .ok (.int .i64 (a2 : Int)) W := fun W => by simp [Instr.index, go_sem] <;> rfl
          rcases Nat.eq_zero_or_pos a2 with h0 | h0
          · have hz : (a2 == 0) = true := by simp [h0]
            have hzi : ((a2 : Int) == 0) = true := by simp [h0]
            have H0 := Lib.hid h0
            clear h0
            rw [hz] at HCn HT
            go_wp2_with (first
              | (go_at_call 8; refine (HCn.out _).mono ?_; rintro e w7 ⟨rfl, hb7⟩; have HB7 := Lib.hid (HBx.out.trans (hb7.mono HBx.out.size)); obtain ⟨m0, m1, m2, A7, n7, c7, m3⟩ := HK.out.kept (hb7.block g hgx); simp only [Nat.zero_add, Nat.reduceMul, Nat.reduceAdd] at m0 m1 m2 m3; have HLf := Lib.hid (HLq.out A7 n7 c7); clear hb7)
              | (go_at_call 7; refine (HLf.out _).mono ?_; rintro e w8 ⟨rfl, hb8⟩; have HB8 := Lib.hid (HB7.out.trans (hb8.mono HB7.out.size)); clear hb8))
            go_roundw
            case rel => exact ⟨2 + 1, by omega, by go_num, by rw [HT.out]; go_num, HB8.out⟩
            case measure => simp [intOf]
          · have hz : (a2 == 0) = false := by simp; omega
            have hzi : ((a2 : Int) == 0) = false := by simp; omega
            have H0 := Lib.hid h0
            clear h0
            rw [hz] at HCn HT
            go_wp2_with (first
              | (go_at_call 8; refine (HCn.out _).mono ?_; rintro e w7 ⟨rfl, hb7⟩; have HB7 := Lib.hid (HBx.out.trans (hb7.mono HBx.out.size)); obtain ⟨m0, m1, m2, A7, n7, c7, m3⟩ := HK.out.kept (hb7.block g hgx); simp only [Nat.zero_add, Nat.reduceMul, Nat.reduceAdd] at m0 m1 m2 m3; have HLf := Lib.hid (HLq.out A7 n7 c7); clear hb7)
              | (go_at_call 7; refine (HLf.out _).mono ?_; rintro e w8 ⟨rfl, hb8⟩; have HB8 := Lib.hid (HB7.out.trans (hb8.mono HB7.out.size)); clear hb8))
            go_roundw
            case rel => exact ⟨2 + 1, by omega, by go_num, by rw [HT.out]; go_num, HB8.out⟩
            case measure => simp [intOf]
        · obtain rfl : k = 3 := by omega
          have HT : Hid (([a0, a1, a2, a3].take (3 + 1)).countP (· == 0) = ([a0, a1, a2, a3].take 3).countP (· == 0) + if (a3 == 0) = true then 1 else 0) := Lib.hid (zero_take [a0, a1, a2, a3] 3 (by simp))
          have hy : ([a0, a1, a2, a3].take 3).countP (· == 0) ≤ 4 := Nat.le_trans List.countP_le_length (by simp)
          generalize ([a0, a1, a2, a3].take 3).countP (· == 0) = y at HT hy ⊢
          have h1 : 3 < S.bl.length := by rw [HF.out.n]; omega
          have hC := four_clean HF.out h1 (show 3 < [a0, a1, a2, a3].length by simp)
          have hL := four_left HF.out (by omega) h1 (show 3 < [a0, a1, a2, a3].length by simp)
          have hW : S.bl[3].next = (a3 : Int) := (HF.out.bk 3 h1 (show 3 < [a0, a1, a2, a3].length by simp)).2.1
          have hLe : a3 ≤ np := (HF.out.bk 3 h1 (show 3 < [a0, a1, a2, a3].length by simp)).2.2
          have hC' : cleanB S.bl[3] = (a3 == 0) := hC
          have hL' : leftB S.bl[3] np = (np : Int) - (a3 : Int) := hL
          obtain ⟨g', o', e', _, hcs⟩ := (HL5.out.below HBx.out) (by omega)
          cases e'
          obtain ⟨k0, k1, k2, A1, n1, c1, k3⟩ := hcs 3 h1
          have HK := Lib.hid (show BkC _ g (0 + 3 * 4) S.bl[3] from ⟨k0, k1, k2, A1, n1, c1, k3⟩)
          simp only [Nat.zero_add, Nat.reduceMul, Nat.reduceAdd] at k0 k1 k2 k3
          have HCn := Lib.hid (fun W => clean_any S.bl[3] A1 n1 c1 W)
          have HLf := Lib.hid (fun A1 n1 c1 W => left_any S.bl[3] A1 n1 c1 np W (by rw [hW]; exact wf_of (by omega)) (wf_of (by omega)))
          rw [hC'] at HCn
          simp only [hL'] at HLf
          have HLq := HLf
          clear HLf
          generalize S.bl[3] = b at *
          clear hC hL hC' hL' hcs hW
          have hix : ∀ W : World, (Instr.index 38 (.agg #[.int .i64 (a0 : Int), .int .i64 (a1 : Int), .int .i64 (a2 : Int), .int .i64 (a3 : Int)]) (.int .i64 3)).run Try.prog W = .ok (.int .i64 (a3 : Int)) W := fun W => by simp [Instr.index, go_sem] <;> rfl
          rcases Nat.eq_zero_or_pos a3 with h0 | h0
          · have hz : (a3 == 0) = true := by simp [h0]
            have hzi : ((a3 : Int) == 0) = true := by simp [h0]
            have H0 := Lib.hid h0
            clear h0
            rw [hz] at HCn HT
            go_wp2_with (first
              | (go_at_call 8; refine (HCn.out _).mono ?_; rintro e w7 ⟨rfl, hb7⟩; have HB7 := Lib.hid (HBx.out.trans (hb7.mono HBx.out.size)); obtain ⟨m0, m1, m2, A7, n7, c7, m3⟩ := HK.out.kept (hb7.block g hgx); simp only [Nat.zero_add, Nat.reduceMul, Nat.reduceAdd] at m0 m1 m2 m3; have HLf := Lib.hid (HLq.out A7 n7 c7); clear hb7)
              | (go_at_call 7; refine (HLf.out _).mono ?_; rintro e w8 ⟨rfl, hb8⟩; have HB8 := Lib.hid (HB7.out.trans (hb8.mono HB7.out.size)); clear hb8))
            go_roundw
            case rel => exact ⟨3 + 1, by omega, by go_num, by rw [HT.out]; go_num, HB8.out⟩
            case measure => simp [intOf]
          · have hz : (a3 == 0) = false := by simp; omega
            have hzi : ((a3 : Int) == 0) = false := by simp; omega
            have H0 := Lib.hid h0
            clear h0
            rw [hz] at HCn HT
            go_wp2_with (first
              | (go_at_call 8; refine (HCn.out _).mono ?_; rintro e w7 ⟨rfl, hb7⟩; have HB7 := Lib.hid (HBx.out.trans (hb7.mono HBx.out.size)); obtain ⟨m0, m1, m2, A7, n7, c7, m3⟩ := HK.out.kept (hb7.block g hgx); simp only [Nat.zero_add, Nat.reduceMul, Nat.reduceAdd] at m0 m1 m2 m3; have HLf := Lib.hid (HLq.out A7 n7 c7); clear hb7)
              | (go_at_call 7; refine (HLf.out _).mono ?_; rintro e w8 ⟨rfl, hb8⟩; have HB8 := Lib.hid (HB7.out.trans (hb8.mono HB7.out.size)); clear hb8))
            go_roundw
            case rel => exact ⟨3 + 1, by omega, by go_num, by rw [HT.out]; go_num, HB8.out⟩
            case measure => simp [intOf]
        · subst h
          have hBw := HB5.out.trans (HBx.out.mono HB5.out.size)
          have HCl : Hid (∀ w1, Below w5.heap.size w5 w1 → Calls Try.prog 10 #[.slice (some ⟨g, 0, none⟩) 4 cap] w1 fun e w' => ∃ A2 c2, e = .returned (.slice A2 ([a0, a1, a2, a3].countP (· == 0)) c2) ∧ Below w1.heap.size w1 w') := Lib.hid fun w1 h1 => by
            have h := cleans_any (some ⟨g, 0, none⟩) cap S.bl w1 (by omega) (HL5.out.below h1)
            rw [hn4] at h
            refine h.mono ?_
            rintro e w' ⟨A2, c2, rfl, _, _, hb2⟩
            exact ⟨A2, c2, by rw [cleans_len, four_cleans HF.out], hb2⟩
          have hta : [a0, a1, a2, a3].take 4 = [a0, a1, a2, a3] := rfl
          rw [hta]
          have hle : [a0, a1, a2, a3].countP (· == 0) ≤ 4 := List.countP_le_length
          generalize [a0, a1, a2, a3].countP (· == 0) = m at *
          have HBw := Lib.hid hBw
          clear hBw
          go_wp2_with (first
            | (go_at_call 10; refine (HCl.out _ HBx.out).mono ?_; rintro e w7 ⟨A7, c7, rfl, hb7⟩; have HB7 := Lib.hid (HBw.out.trans (hb7.mono HBw.out.size)); clear hb7)
            | (go_at_call 6; refine (awake_any _).mono ?_; rintro e w8 ⟨rfl, hb8⟩; have HB8 := Lib.hid (HB7.out.trans (hb8.mono HB7.out.size)); clear hb8))
          go_ret
          exact ⟨rfl, HB8.out⟩
end Go.Proofs.Yteghegojhhoppaa
