/- LeastBetween: the least is no more than any count, the most no less; both are named. -/
import Derived.Test.YtdoaacfonkgokaaAwake
import Derived.Test.YtdoaacfonkgokaaOpen
namespace Go.Proofs.Ytdoaacfonkgokaa
open Go.RowKit Go.Maps

theorem addr_plain {w : World} {ad : Addr} {v : Value} (h : w.cell? ad = some v) : ad = ⟨ad.block, ad.off, none⟩ ∧ ad.block < w.heap.size := by
  refine ⟨?_, World.block_lt_of_cell? w _ h⟩
  obtain ⟨b, o, s⟩ := ad
  cases s with
  | none => rfl
  | some x =>
    exfalso
    unfold World.cell? at h
    simp only [Option.isSome_some, if_true] at h
    split at h <;> cases h
theorem prow_form {w : World} {sv : Value} {l : List (Int × Int)} (h : PRow w sv l) : ∃ A cap, sv = .slice A l.length cap ∧ ∀ j (h : j < l.length), ∃ b off, A = some ⟨b, off, none⟩ ∧ b < w.heap.size ∧ w.cell? ⟨b, off + j * 2, none⟩ = some (.int .i64 l[j].1) ∧ w.cell? ⟨b, off + j * 2 + 1, none⟩ = some (.int .i64 l[j].2) := by
  rcases h with ⟨rfl, rfl⟩ | ⟨ad, cap, rfl, hc⟩
  · exact ⟨_, _, rfl, fun j h => by simp at h⟩
  · refine ⟨_, _, rfl, fun j h => ?_⟩
    obtain ⟨e, hb⟩ := addr_plain (w := w) (ad := ad) (v := .int .i64 l[0].1) (by simpa [Addr.add] using (hc 0 (by omega)).1)
    obtain ⟨b, off, s⟩ := ad
    obtain rfl : s = none := by simpa using e
    refine ⟨b, off, rfl, hb, ?_, ?_⟩
    · have := (hc j h).1
      by_cases hj : j = 0
      · subst hj; simpa [Addr.add] using this
      · have hj2 : ¬ j * 2 = 0 := by omega
        simpa only [Addr.add, hj2, if_false] using this
    · have := (hc j h).2
      simpa [Addr.add, Nat.add_assoc] using this

/-- What a tally at p, made and filled by the law, is good for: its map is new as well; its keys are ints. -/
def Mine (B : Nat) (w wr : World) (p n : Nat) (f : Int → Int) : Prop :=
  ∃ ob, Tally_int wr p ob n f ∧ (∀ b, ob = some b → B ≤ b) ∧ B ≤ p ∧ Below B w wr ∧ B ≤ wr.heap.size ∧ ∀ k, f k ≠ 0 → (Lit.int .i64 k).wf = true
theorem mine_new {w w1 : World} (h : NewPost_int w (.returned (.pointer (some ⟨w.heap.size, 0, none⟩))) w1) : Mine w.heap.size w w1 w.heap.size 0 (fun _ => 0) :=
  ⟨none, h.2.1, (fun b e => by cases e), Nat.le_refl _, h.2.2, h.2.2.size, fun k h => absurd rfl h⟩
theorem mine_alloc {B : Nat} {w wr : World} {p n : Nat} {f : Int → Int} (h : Mine B w wr p n f) (o : Obj) : Mine B w (wr.alloc o) p n f := by
  obtain ⟨ob, ht, h1, h2, h3, h4, h5⟩ := h
  exact ⟨ob, ht.below ((Below.refl _ _).alloc (Nat.le_refl _) o), h1, h2, h3.alloc h4 o, by simp; omega, h5⟩
theorem mine_below {B : Nat} {w wr w' : World} {p n : Nat} {f : Int → Int} (h : Mine B w wr p n f) (hb : Below wr.heap.size wr w') : Mine B w w' p n f := by
  obtain ⟨ob, ht, h1, h2, h3, h4, h5⟩ := h
  exact ⟨ob, ht.below hb, h1, h2, h3.trans (hb.mono h4), Nat.le_trans h4 hb.size, h5⟩
/-- Add at a tally of the law's own. -/
def AddPost (B : Nat) (w : World) (p n : Nat) (f : Int → Int) (v : Int) (e : Ending) (w' : World) : Prop := e = .returned (.int .i64 v) ∧ Mine B w w' p (n + 1) f
theorem mine_add {B : Nat} {w wr : World} {p n : Nat} {f : Int → Int} (h : Mine B w wr p n f) (k v : Int) (hk : (Lit.int .i64 k).wf = true) (hn : n < 1000000) :
    Calls Try.prog 11 #[.pointer (some ⟨p, 0, none⟩), .int .i64 k, .int .i64 v] wr (AddPost B w p n (upd f k (heldN (f k) v)) (heldN (f k) v)) := by
  obtain ⟨ob, ht, h1, h2, h3, h4, h5⟩ := h
  refine (add_int p ob n f k v wr ht hk hn).mono ?_
  rintro e w' ⟨rfl, ob', ht', hto, hob⟩
  refine ⟨rfl, ob', ht', fun b e => ?_, h2, h3.trans (hto.below h2 h1 h4), Nat.le_trans h4 hto.size, fun j hj => ?_⟩
  · rcases hob b e with h | h
    · exact h1 b h
    · omega
  · by_cases e : j = k
    · rw [e]; exact hk
    · rw [upd_other _ e] at hj; exact h5 j hj

theorem between_big (sv : Value) (l : List (Int × Int)) (w : World) (h : PRow w sv l) (hl : l.length ≤ 9223372036854775807) (hb : 60 < l.length) : Calls Try.prog 8 #[sv] w (Holds w) := by
  obtain ⟨A, cap, rfl, _⟩ := prow_form h
  clear h
  go_enter Try.func8, Try.ntmps8
  go_wp2_with (go_at_call 9; refine (awake_any _).mono ?_; rintro e w' ⟨rfl, hb⟩)
  go_ret
  exact ⟨rfl, hb⟩

/-- Is x among the first j? -/
def cntTo (ks : List Int) (x : Int) (j : Nat) : Nat := if x ∈ ks.take j then 1 else 0
theorem cntTo_le (ks : List Int) (x : Int) (j : Nat) : cntTo ks x j ≤ 1 := by unfold cntTo; split <;> omega
theorem cntTo_hit {ks : List Int} (hn : ks.Nodup) {j : Nat} (hj : j < ks.length) : cntTo ks ks[j] j = 0 ∧ cntTo ks ks[j] (j + 1) = 1 := by
  unfold cntTo
  rw [take_more ks j hj]
  have : ks[j] ∉ ks.take j := fun h => by
    obtain ⟨i, hi, e⟩ := List.mem_take_iff_getElem.1 h
    exact List.pairwise_iff_getElem.1 hn i j (by omega) hj (by omega) e
  simp only [List.mem_append, List.mem_singleton, this, or_true, if_true, if_false, and_self]
theorem cntTo_miss {ks : List Int} {x : Int} {j : Nat} (hj : j < ks.length) (h : ks[j] ≠ x) : cntTo ks x (j + 1) = cntTo ks x j := by
  unfold cntTo
  rw [take_more ks j hj]
  simp only [List.mem_append, List.mem_singleton, Ne.symm h, or_false]
theorem between_step {ks : List Int} (hn : ks.Nodup) {x y : Int} {j : Nat} {b c : Bool} (hj : j < ks.length) (h1 : (ks[j] == x) = b) (h2 : (ks[j] == y) = c) :
    (Value.int .i64 (((cntTo ks x j + cntTo ks y j : Nat) : Int) + (if b then 1 else 0) + (if c then 1 else 0)) : Value) = .int .i64 ((cntTo ks x (j + 1) + cntTo ks y (j + 1) : Nat) : Int) := by
  have a1 : cntTo ks x (j + 1) = cntTo ks x j + if b then 1 else 0 := by
    cases b with
    | true =>
      obtain rfl : ks[j] = x := by simpa using h1
      rw [(cntTo_hit hn hj).1, (cntTo_hit hn hj).2]; rfl
    | false => rw [cntTo_miss hj (by simpa using h1)]; rfl
  have a2 : cntTo ks y (j + 1) = cntTo ks y j + if c then 1 else 0 := by
    cases c with
    | true =>
      obtain rfl : ks[j] = y := by simpa using h2
      rw [(cntTo_hit hn hj).1, (cntTo_hit hn hj).2]; rfl
    | false => rw [cntTo_miss hj (by simpa using h2)]; rfl
  rw [a1, a2]
  congr 1
  cases b <;> cases c <;> simp <;> omega
theorem cntTo_end {ks : List Int} {x : Int} (h : x ∈ ks) : cntTo ks x ks.length = 1 := by simp [cntTo, h]
/-- The least, the most and the keys of one tally fit one another. -/
theorem between_pick {f : Int → Int} {v0 v1 v2 u0 u1 u2 : Value} {ks : List Int} (h1 : PickIs_least_int f v0 v1 v2) (h2 : PickIs_most_int f u0 u1 u2) (_hk1 : ks.Pairwise (· < ·)) (hk2 : ∀ k, k ∈ ks ↔ f k ≠ 0) :
    (v0 = .int .i64 0 ∧ v1 = .int .i64 0 ∧ v2 = .bool false ∧ u0 = .int .i64 0 ∧ u1 = .int .i64 0 ∧ u2 = .bool false ∧ ks = []) ∨
    ∃ x y, v0 = .int .i64 x ∧ v1 = .int .i64 (f x) ∧ v2 = .bool true ∧ u0 = .int .i64 y ∧ u1 = .int .i64 (f y) ∧ u2 = .bool true ∧ x ∈ ks ∧ y ∈ ks ∧ ∀ k, k ∈ ks → f x ≤ f k ∧ f k ≤ f y := by
  rcases h1 with ⟨h0, rfl, rfl, rfl⟩ | ⟨x, hx, hbx, rfl, rfl, rfl⟩
  · rcases h2 with ⟨_, rfl, rfl, rfl⟩ | ⟨y, hy, _⟩
    · refine .inl ⟨rfl, rfl, rfl, rfl, rfl, rfl, ?_⟩
      cases ks with
      | nil => rfl
      | cons k ks => exact absurd (h0 k) ((hk2 k).1 (by simp))
    · exact absurd (h0 y) hy
  · rcases h2 with ⟨h0, _⟩ | ⟨y, hy, hby, rfl, rfl, rfl⟩
    · exact absurd (h0 x) hx
    · refine .inr ⟨x, y, rfl, rfl, rfl, rfl, rfl, rfl, (hk2 x).2 hx, (hk2 y).2 hy, fun k hk => ?_⟩
      have a := hbx k ((hk2 k).1 hk)
      have b := hby k ((hk2 k).1 hk)
      simp only [byCount, ltInt, gtInt, Bool.or_eq_false_iff, decide_eq_false_iff_not] at a b
      omega

set_option maxRecDepth 100000 in
set_option maxHeartbeats 4000000 in
theorem between_small (sv : Value) (l : List (Int × Int)) (w : World) (h : PRow w sv l) (hl : l.length ≤ 60) (hw : PWf l) : Calls Try.prog 8 #[sv] w (Holds w) := by
  obtain ⟨A, cap, rfl, hc⟩ := prow_form h
  have Hc := Lib.hid hc
  have Hw := Lib.hid hw
  clear h hc hw
  go_enter Try.func8, Try.ntmps8
  go_wp2_with fail
  refine (new_int _).mono ?_
  rintro e w1 ⟨rfl, hnew⟩
  have hm1 := Lib.hid (mine_new ⟨rfl, hnew⟩)
  clear hnew
  go_wp2_with fail
  go_loopw [24] (fun i wr => ∃ j : Nat, j ≤ l.length ∧ i = .int .i64 j ∧ ∃ f, Mine w.heap.size w wr w.heap.size j f) (fun i _ => l.length - (intOf i).toNat)
  case atStart => exact ⟨0, Nat.zero_le _, rfl, _, hm1.out⟩
  case round =>
    obtain ⟨j, hj, rfl, f, hm⟩ := hrel
    have Hm := Lib.hid hm
    by_cases hlt : j < l.length
    · obtain ⟨b, off, rfl, hbl, hk0, hk1⟩ := Hc.out j hlt
      obtain ⟨ob, _, _, _, hbw, _⟩ := hm
      have hk0' := (hbw.cell (p := ⟨b, off + j * 2, none⟩) hbl).trans hk0
      have hk1' := (hbw.cell (p := ⟨b, off + j * 2 + 1, none⟩) hbl).trans hk1
      clear hbw hk0 hk1
      go_wp2_with fail
      refine (mine_add (mine_alloc Hm.out _) _ _ (Hw.out _ (List.getElem_mem hlt)).1 (by omega)).mono ?_
      rintro e w3 ⟨rfl, hm3⟩
      have Hm3 := Lib.hid hm3
      clear hm3
      go_wp2
      go_roundw
      case rel => exact ⟨j + 1, by omega, by go_num, _, Hm3.out⟩
      case measure => simp [intOf]; omega
    · obtain ⟨ob, ht, hob, hB, hbw, hsz, hwf⟩ := hm
      have Hwf := Lib.hid hwf
      have hbig : j ≤ 1000000 := by omega
      clear hwf hob hB
      go_wp2_with fail
      refine (least_int _ ob j f _ ht hbig).mono ?_
      rintro e w4 ⟨v0, v1, v2, rfl, hb4, hpl⟩
      have ht4 := ht.below hb4
      have hbw4 := hbw.trans (hb4.mono hsz)
      have Hpl := Lib.hid hpl
      clear hpl ht hbw hb4
      go_wp2_with fail
      refine (most_int _ ob j f _ ht4 hbig).mono ?_
      rintro e w5 ⟨u0, u1, u2, rfl, hb5, hpm⟩
      have ht5 := ht4.below hb5
      have hbw5 := hbw4.trans (hb5.mono hbw4.size)
      have Hpm := Lib.hid hpm
      clear hpm ht4 hbw4 hb5
      go_wp2_with fail
      refine (keys_int _ ob j f _ ht5 hbig).mono ?_
      rintro e w6 ⟨sv, ks, rfl, hk1, hk2, hk3, hown, hb6⟩
      obtain ⟨q, cap2, rfl⟩ := own_slice hown
      have ht6 := ht5.below hb6
      have hbw6 := hbw5.trans (hb6.mono hbw5.size)
      clear ht5 hbw5 hb6
      rcases between_pick Hpl.out Hpm.out hk1 hk2 with ⟨rfl, rfl, rfl, rfl, rfl, rfl, rfl⟩ | ⟨x, y, rfl, rfl, rfl, rfl, rfl, rfl, hx, hy, hall⟩
      · go_wp2
        refine wp_loop_rounds 1 ?_
        rw [rounds_succ]
        go_wp2_with (go_at_call 9; refine (awake_any _).mono ?_; rintro e w' ⟨rfl, hb⟩)
        go_ret
        exact ⟨rfl, hbw6.trans (hb.mono hbw6.size)⟩
      · have hn : ks.Nodup := hk1.imp fun {a b} (h : a < b) => fun (e : a = b) => by omega
        have Hn := Lib.hid hn
        have Hx := Lib.hid hx
        have Hy := Lib.hid hy
        have Hall := Lib.hid hall
        have hpos : 0 < ks.length := List.length_pos_of_mem hx
        have hkl : ks.length ≤ 9223372036854775807 := by omega
        obtain ⟨g, cap3, hsl⟩ := own_succ hown hpos
        cases hsl
        have Hown := Lib.hid hown
        have Hk2 := Lib.hid hk2
        clear hk1 hk2 hn hx hy hall hown
        go_wp2
        go_loop [13, 64] (fun c i => ∃ j : Nat, j ≤ ks.length ∧ i = .int .i64 j ∧ c = .int .i64 ((cntTo ks x j + cntTo ks y j : Nat) : Int)) (fun _ i => ks.length - (intOf i).toNat)
        case atStart => exact ⟨0, Nat.zero_le _, rfl, by simp [cntTo]⟩
        case round =>
          obtain ⟨j, hj, rfl, rfl⟩ := hrel
          have hle := cntTo_le ks x j
          have hle2 := cntTo_le ks y j
          by_cases hlt2 : j < ks.length
          · have hcell := Hown.out.cellAt j (by omega)
            have hmem := List.getElem_mem hlt2
            obtain ⟨a1, a2⟩ := Hall.out _ hmem
            have a3 := (ht6.2.1 ks[j]).1
            have a4 : f ks[j] ≠ 0 := (Hk2.out _).1 hmem
            have a5 : 1 ≤ f ks[j] := by omega
            have hwfk := Hwf.out _ a4
            have hcell2 : w6.cell? ⟨g, j, none⟩ = some (.int .i64 ks[j]) := by simpa [hlt2] using hcell
            clear hcell hmem a3 a4
            cases e1 : (ks[j] == x)
            all_goals
              cases e2 : (ks[j] == y)
              all_goals
                have E1 := Lib.hid e1
                have E2 := Lib.hid e2
                go_wp2_with (go_at_call 12; refine (of_int _ ob _ f ks[j] _ ht6 hwfk).mono ?_; rintro e w' ⟨rfl, rfl⟩)
                go_round
                case rel => exact ⟨j + 1, by omega, by go_num, between_step Hn.out hlt2 E1.out E2.out⟩
                case measure => simp [intOf]; omega
          · obtain rfl : j = ks.length := by omega
            have Hcx := Lib.hid (cntTo_end Hx.out)
            have Hcy := Lib.hid (cntTo_end Hy.out)
            rw [Hcx.out, Hcy.out]
            go_wp2_with (go_at_call 9; refine (awake_any _).mono ?_; rintro e w' ⟨rfl, hb⟩)
            go_ret
            exact ⟨rfl, hbw6.trans (hb.mono hbw6.size)⟩

theorem between_any (sv : Value) (l : List (Int × Int)) (w : World) (h : PRow w sv l) (hl : l.length ≤ 9223372036854775807) (hw : PWf l) : Calls Try.prog 8 #[sv] w (Holds w) := by
  by_cases hb : 60 < l.length
  · exact between_big sv l w h hl hb
  · exact between_small sv l w h (by omega) hw
end Go.Proofs.Ytdoaacfonkgokaa
