/- LeastPlays: what a tally does: each count, the least, the most, all in order. -/
import Derived.Test.YtdoaacfonkgokaaSt
import Derived.Deep.RegionHeld3
import Derived.Deep.CutBlock
import Derived.Deep.DeepCutAuto
namespace Go.Proofs.Ytdoaacfonkgokaa
open Go.RowKit Go.Maps

/-- Of the keys that have a count those that are no longer to come. -/
def Seen (F : Int → Int) (left : Lit → Bool) (L : List Int) : Prop := L.Nodup ∧ ∀ k, k ∈ L ↔ (F k ≠ 0 ∧ left (.int .i64 k) = false)
theorem seen_start (F : Int → Int) (D : DataW Unit) (h : ∀ k, D.atKey (.int .i64 k) (.lit (.int .i64 0)) = .lit (.int .i64 (F k))) : Seen F (Maps.has D) [] :=
  ⟨List.nodup_nil, fun k => by
    constructor
    · intro h; simp at h
    · rintro ⟨h1, h2⟩
      have := h k
      rw [Maps.atKey_of_not_has h2] at this
      exact absurd (by simpa using this.symm) h1⟩
theorem seen_skip {F : Int → Int} {left : Lit → Bool} {L : List Int} (h : Seen F left L) {x : Int} (hx : F x = 0) : Seen F (fun z => left z && !z.sameKey (.int .i64 x)) L :=
  ⟨h.1, fun k => by
    rw [h.2 k]
    by_cases e : k = x
    · subst e; simp [hx]
    · have : (Lit.int .i64 k).sameKey (.int .i64 x) = false := by simp [Lit.sameKey, e]
      simp [this]⟩
theorem seen_more {F : Int → Int} {left : Lit → Bool} {L : List Int} (h : Seen F left L) {x : Int} (hx : F x ≠ 0) (hl : left (.int .i64 x) = true) : Seen F (fun z => left z && !z.sameKey (.int .i64 x)) (L ++ [x]) := by
  have hn : x ∉ L := fun hm => by have := ((h.2 x).1 hm).2; rw [hl] at this; cases this
  refine ⟨List.nodup_append.2 ⟨h.1, by simp, fun a ha b hb => ?_⟩, fun k => ?_⟩
  · obtain rfl : b = x := by simpa using hb
    exact fun e => hn (e ▸ ha)
  · by_cases e : k = x
    · subst e; simp [hx, Lit.sameKey]
    · have : (Lit.int .i64 k).sameKey (.int .i64 x) = false := by simp [Lit.sameKey, e]
      simp [h.2 k, e, this]
/-- The lowest and the highest of the keys met. -/
def PK (F : Int → Int) (L : List Int) (lo hi : Value) : Prop :=
  (L = [] ∧ lo = .int .i64 0 ∧ hi = .int .i64 0) ∨
    ∃ x y, x ∈ L ∧ y ∈ L ∧ (∀ z, z ∈ L → byCount ltInt ltInt F z x = false) ∧ (∀ z, z ∈ L → byCount gtInt ltInt F z y = false) ∧ lo = .int .i64 x ∧ hi = .int .i64 y
theorem pk_one (F : Int → Int) (x : Int) : PK F [x] (.int .i64 x) (.int .i64 x) :=
  .inr ⟨x, x, by simp, by simp, fun z hz => by rw [List.mem_singleton.1 hz]; exact (ord_least ord_ltInt F).irr x, fun z hz => by rw [List.mem_singleton.1 hz]; exact (ord_most ord_ltInt F).irr x, rfl, rfl⟩
theorem best_more {α : Type} {bt : α → α → Bool} (O : Ord bt) {L : List α} {a x : α} (ha : a ∈ L) (h : ∀ z, z ∈ L → bt z a = false) {b : Bool} (hb : bt x a = b) :
    (if b then x else a) ∈ L ++ [x] ∧ ∀ z, z ∈ L ++ [x] → bt z (if b then x else a) = false := by
  cases b with
  | true =>
    refine ⟨by simp, fun z hz => ?_⟩
    rcases List.mem_append.1 hz with h1 | h1
    · exact O.asym _ _ (O.tr _ _ _ hb (h z h1))
    · rw [List.mem_singleton.1 h1]; exact O.irr x
  | false =>
    refine ⟨by simp [ha], fun z hz => ?_⟩
    rcases List.mem_append.1 hz with h1 | h1
    · exact h z h1
    · rw [List.mem_singleton.1 h1]; exact hb
theorem pk_more {F : Int → Int} {L : List Int} {a b x : Int} (ha : a ∈ L) (hb : b ∈ L) (hA : ∀ z, z ∈ L → byCount ltInt ltInt F z a = false) (hB : ∀ z, z ∈ L → byCount gtInt ltInt F z b = false) {c d : Bool}
    (hc : byCount ltInt ltInt F x a = c) (hd : byCount gtInt ltInt F x b = d) : PK F (L ++ [x]) (.int .i64 (if c then x else a)) (.int .i64 (if d then x else b)) := by
  obtain ⟨h1, h2⟩ := best_more (ord_least ord_ltInt F) ha hA hc
  obtain ⟨h3, h4⟩ := best_more (ord_most ord_ltInt F) hb hB hd
  exact .inr ⟨_, _, h1, h3, h2, h4, rfl, rfl⟩
def PickR (F : Int → Int) (lo hi c : Value) : Prop := ∃ L : List Int, L.Nodup ∧ (∀ k, k ∈ L ↔ F k ≠ 0) ∧ c = .int .i64 L.length ∧ PK F L lo hi

def litInt : Lit → Int
  | .int _ n => n
  | _ => 0
theorem nodup_len (l : List Int) : l.Nodup → ∀ m : List Int, (∀ x, x ∈ l → x ∈ m) → l.length ≤ m.length := by
  induction l with
  | nil => intro _ m _; simp
  | cons a l ih =>
    intro hn m hm
    obtain ⟨ha, hl⟩ := List.nodup_cons.1 hn
    have h1 := ih hl (m.erase a) fun x hx => (List.mem_erase_of_ne (fun e : x = a => ha (by rw [← e]; exact hx))).2 (hm x (by simp [hx]))
    have ham := hm a (by simp)
    rw [List.length_erase_of_mem ham] at h1
    have := List.length_pos_of_mem ham
    simp
    omega
theorem St.below {B : Nat} {w : World} {p bw : Nat} {ob : Option Nat} {D : DataW Unit} {n : Nat} {f g : Int → Int} {wr w' : World} (h : St B w p bw ob D n f g wr) (hb : Below wr.heap.size wr w') : St B w p bw ob D n f g w' :=
  h.grown (row := none) ⟨hb.os, hb.tape, hb.output, hb.size, fun k hk _ => hb.block k hk⟩ (by simp) (by simp) (fun _ _ => by simp) (fun k e => by cases e)
theorem byCount_one {ah : Int → Int → Bool} (T : ∀ u v, ah u v = false → ah v u = false → u = v) {F : Int → Int} {x y : Int} (h1 : byCount ah ltInt F x y = false) (h2 : byCount ah ltInt F y x = false) : x = y := by
  simp only [byCount, Bool.or_eq_false_iff, Bool.and_eq_false_iff] at h1 h2
  have e := T _ _ h1.1 h2.1
  rcases h1.2 with h | h
  · simp [e] at h
  · rcases h2.2 with h' | h'
    · simp [e] at h'
    · simp [ltInt] at h h'; omega
theorem plays_pick {F : Int → Int} {L : List Int} {lo hi v0 v1 v2 u0 u1 u2 : Value} (hm : ∀ k, k ∈ L ↔ F k ≠ 0) (hp : PK F L lo hi) (h1 : PickIs_least_int F v0 v1 v2) (h2 : PickIs_most_int F u0 u1 u2) :
    (lo = .int .i64 0 ∧ hi = .int .i64 0 ∧ v0 = .int .i64 0 ∧ v1 = .int .i64 0 ∧ v2 = .bool false ∧ u0 = .int .i64 0 ∧ u1 = .int .i64 0 ∧ u2 = .bool false ∧ L = []) ∨
    ∃ x y, lo = .int .i64 x ∧ hi = .int .i64 y ∧ v0 = .int .i64 x ∧ v1 = .int .i64 (F x) ∧ v2 = .bool true ∧ u0 = .int .i64 y ∧ u1 = .int .i64 (F y) ∧ u2 = .bool true ∧ F x ≠ 0 ∧ F y ≠ 0 ∧ 0 < L.length := by
  rcases hp with ⟨rfl, rfl, rfl⟩ | ⟨x, y, hx, hy, hA, hB, rfl, rfl⟩
  · have hz : ∀ k, F k = 0 := fun k => by
      by_cases e : F k = 0
      · exact e
      · exact absurd ((hm k).2 e) (by simp)
    rcases h1 with ⟨_, rfl, rfl, rfl⟩ | ⟨x, hx, _⟩
    · rcases h2 with ⟨_, rfl, rfl, rfl⟩ | ⟨y, hy, _⟩
      · exact .inl ⟨rfl, rfl, rfl, rfl, rfl, rfl, rfl, rfl, rfl⟩
      · exact absurd (hz y) hy
    · exact absurd (hz x) hx
  · have fx := (hm x).1 hx
    have fy := (hm y).1 hy
    rcases h1 with ⟨h0, _⟩ | ⟨x', hx', hbx, rfl, rfl, rfl⟩
    · exact absurd (h0 x) fx
    · rcases h2 with ⟨h0, _⟩ | ⟨y', hy', hby, rfl, rfl, rfl⟩
      · exact absurd (h0 x) fx
      · obtain rfl : x = x' := byCount_one (fun u v a b => by simp [ltInt] at a b; omega) (hbx x fx) (hA x' ((hm x').2 hx'))
        obtain rfl : y = y' := byCount_one (fun u v a b => by simp [gtInt] at a b; omega) (hby y fy) (hB y' ((hm y').2 hy'))
        exact .inr ⟨x, y, rfl, rfl, rfl, rfl, rfl, rfl, rfl, rfl, fx, fy, List.length_pos_of_mem hx⟩
theorem plays_keys {F : Int → Int} {L ks : List Int} (hn : L.Nodup) (hm : ∀ k, k ∈ L ↔ F k ≠ 0) (h1 : ks.Pairwise (· < ·)) (h2 : ∀ k, k ∈ ks ↔ F k ≠ 0) : L.length = ks.length := by
  have hk : ks.Nodup := h1.imp fun {a b} (h : a < b) => fun (e : a = b) => by omega
  exact ((List.perm_ext_iff_of_nodup hn hk).2 fun k => (hm k).trans (h2 k).symm).length_eq
theorem plays_len {B : Nat} {w : World} {p bw : Nat} {ob : Option Nat} {D : DataW Unit} {n : Nat} {F : Int → Int} {wr : World} (h : St B w p bw ob D n F F wr) {L : List Int} (hn : L.Nodup) (hm : ∀ k, k ∈ L ↔ F k ≠ 0) : L.length ≤ n := by
  have hh : ∀ k, k ∈ L → Maps.has D (.int .i64 k) = true := fun k hk => by
    cases e : Maps.has D (.int .i64 k) with
    | true => rfl
    | false =>
      have := h.val k
      rw [Maps.atKey_of_not_has e] at this
      exact absurd (by simpa using this.symm) ((hm k).1 hk)
  obtain ⟨es, hD, hap, _⟩ := h.own.entries law_int
  have hs := h.own.size_le
  rw [hD] at hs hh
  have : L.length ≤ (es.map fun p => litInt p.1).length := nodup_len L hn (es.map fun p => litInt p.1) fun k hk => by
    have := hh k hk
    rw [Maps.has_eq, List.any_eq_true] at this
    obtain ⟨e, he, hs⟩ := this
    exact List.mem_map.2 ⟨e, he, by rw [WideAt.sameKey_eq hs]; rfl⟩
  rw [Maps.size_eq] at hs
  simp at this
  omega

set_option maxRecDepth 100000 in
theorem plays_big (sv : Value) (l : List (Int × Int)) (w : World) (h : PRow w sv l) (hl : l.length ≤ 9223372036854775807) (hb : 100 < l.length) : Calls Try.prog 3 #[sv] w (Holds w) := by
  obtain ⟨A, cap, rfl, _⟩ := prow_form h
  clear h
  go_enter Try.func3, Try.ntmps3
  go_wp2_with (go_at_call 9; refine (awake_any _).mono ?_; rintro e w' ⟨rfl, hb⟩)
  go_ret
  exact ⟨rfl, hb⟩

set_option maxRecDepth 100000 in
set_option maxHeartbeats 4000000 in
theorem plays_small (sv : Value) (l : List (Int × Int)) (w : World) (h : PRow w sv l) (hl : l.length ≤ 100) (hw : PWf l) : Calls Try.prog 3 #[sv] w (Holds w) := by
  obtain ⟨A, cap, rfl, hc⟩ := prow_form h
  have Hc := Lib.hid hc
  have Hw := Lib.hid hw
  clear h hc hw
  have hmm := @run_makeMap Try.prog
  go_enter Try.func3, Try.ntmps3
  go_wp2_with fail
  refine (new_int _).mono ?_
  rintro e w1 ⟨rfl, hnew⟩
  have hm1 := Lib.hid (st_start ⟨rfl, hnew⟩)
  clear hnew
  have hbw := Lib.hid hm1.out.npb
  go_wp2_with fail
  obtain ⟨bw, hbwe⟩ : ∃ bw, bw = w1.heap.size := ⟨_, rfl⟩
  have Hbwe := Lib.hid hbwe
  rw [← hbwe] at hm1 ⊢
  clear hbwe hmm hbw
  go_loopw [30] (fun i wr => ∃ j : Nat, j ≤ l.length ∧ i = .int .i64 j ∧ ∃ ob D f, St w.heap.size w w.heap.size bw ob D (2 * j) f f wr) (fun i _ => l.length - (intOf i).toNat)
  case atStart => exact ⟨0, Nat.zero_le _, rfl, _, _, _, hm1.out⟩
  case round =>
    obtain ⟨j, hj, rfl, ob, D, f, hst⟩ := hrel
    have Hst := Lib.hid hst
    by_cases hlt : j < l.length
    · obtain ⟨b, off, rfl, hbl, hk0, hk1⟩ := Hc.out j hlt
      have hbw := hst.bel
      have hk0' := (hbw.cell (p := ⟨b, off + j * 2, none⟩) hbl).trans hk0
      have hk1' := (hbw.cell (p := ⟨b, off + j * 2 + 1, none⟩) hbl).trans hk1
      obtain ⟨wk, wv⟩ := Hw.out _ (List.getElem_mem hlt)
      clear hbw hk0 hk1
      generalize l[j].1 = k at hk0' wk
      generalize l[j].2 = v at hk1' wv
      have hf := hst.tal.2.1 k
      have Wk := Lib.hid wk
      have Wv := Lib.hid wv
      have hst1 := hst.alloc (.cells #[.int .i64 k, .int .i64 v] 28)
      have hlk := hst1.look wk
      have hjb : 2 * j + 1 < 1000000 := by omega
      have hjm : 2 * j < maxLen := by unfold maxLen; omega
      have hown := hst1.own
      have hkey := key_int wk
      have Hst1 := Lib.hid hst1
      obtain ⟨q, hq⟩ : ∃ q, q = wr.heap.size := ⟨_, rfl⟩
      have Hq := Lib.hid hq
      have Hqp := Lib.hid (show wr.heap.size ≠ w.heap.size ∧ some wr.heap.size ≠ ob from ⟨fun e => by have := hst.tal.lt.1; omega, fun e => by have := hst.tal.lt.2 _ e.symm; omega⟩)
      have Hqb := Lib.hid (show some wr.heap.size ≠ some bw from fun e => by have := hst.own.lt; simp at e; omega)
      have hqlt : wr.heap.size < (wr.alloc (.cells #[.int .i64 k, .int .i64 v] 28)).heap.size := by simp
      clear hst hst1 wk wv hq
      go_upto_block 2 with fail
      go_cut [] (fun wx => ∃ D', St w.heap.size w w.heap.size bw ob D' (2 * j + 1) f (upd f k (heldN (f k) v)) wx ∧ wx.heap[wr.heap.size]? = some (.cells #[.int .i64 k, .int .i64 v] 28 (0, 0)))
      case first => as_aux_lemma =>
        by_cases c1 : 1099511627776 ≤ v
        · have hh := Lib.hid (held_high hf.2 hf.1 c1)
          go_wp2_with (at_mapUpdate; refine wpList_mapUpdate_own _ rfl _ _ _ 26 rfl 3 3 law_int Try.underlying26 _ bw (2 * j) _ rfl hown hjm _ _ _ rfl rfl hkey _ [] (plainElem_int Try.underlying3 (wf_small (by omega) (by omega))) ?_; intro w2 hown2 hgrow2)
          go_meet
          case rel => exact ⟨_, by rw [hh.out]; exact Hst1.out.stored Wk.out hown2 hgrow2, (hgrow2.block _ hqlt (Hqb.out)).trans (heap_alloc_new wr _)⟩
        · by_cases c2 : v ≤ -1099511627776
          · have hh := Lib.hid (held_low hf.2 hf.1 c2)
            go_wp2_with (at_mapUpdate; refine wpList_mapUpdate_own _ rfl _ _ _ 26 rfl 3 3 law_int Try.underlying26 _ bw (2 * j) _ rfl hown hjm _ _ _ rfl rfl hkey _ [] (plainElem_int Try.underlying3 (wf_small (by omega) (by omega))) ?_; intro w2 hown2 hgrow2)
            go_meet
            case rel => exact ⟨_, by rw [hh.out]; exact Hst1.out.stored Wk.out hown2 hgrow2, (hgrow2.block _ hqlt (Hqb.out)).trans (heap_alloc_new wr _)⟩
          · have hh := Lib.hid (held_mid (f k) v)
            have hv1 : -1099511627776 < v := by omega
            have hv2 : v < 1099511627776 := by omega
            go_wp2_with (at_mapUpdate; refine wpList_mapUpdate_own _ rfl _ _ _ 26 rfl 3 3 law_int Try.underlying26 _ bw (2 * j) _ rfl hown hjm _ _ _ rfl rfl hkey _ [] (plainElem_int Try.underlying3 (wf_small (by omega) (by omega))) ?_; intro w2 hown2 hgrow2)
            go_meet
            case rel => exact ⟨_, by rw [hh.out]; exact Hst1.out.stored Wk.out hown2 hgrow2, (hgrow2.block _ hqlt (Hqb.out)).trans (heap_alloc_new wr _)⟩
      case rest =>
        obtain ⟨D2, hst2, hblk⟩ := hcut
        have Hst2 := Lib.hid hst2
        have Hblk := Lib.hid hblk
        have Hqw := Lib.hid (lt_size hblk)
        have hq0 : wc.cell? ⟨wr.heap.size, 0, none⟩ = some (.int .i64 k) := by simp [World.cell?, hblk]
        have hq1 : wc.cell? ⟨wr.heap.size, 1, none⟩ = some (.int .i64 v) := by simp [World.cell?, hblk]
        have hl2 := hst2.drew.look Wk.out
        rw [upd_same] at hl2
        have Hl2 := Lib.hid hl2
        clear hst2 hblk hl2 hown hkey hlk
        go_upto_region 14 with fail
        go_cut [82] (fun c wx => c = .bool false ∧ ∃ ob' D', St w.heap.size w w.heap.size bw ob' D' (2 * j + 2) (upd f k (heldN (f k) v)) (upd f k (heldN (f k) v)) wx)
        case first => as_aux_lemma =>
          go_region_held3 (fun w' => w'.cell? ⟨wr.heap.size, 0, none⟩ = some (.int .i64 k) ∧ w'.cell? ⟨wr.heap.size, 1, none⟩ = some (.int .i64 v) ∧ (Instr.lookup 26 (.map (some bw)) (.int .i64 k) false).run Try.prog w' = .ok (.int .i64 (heldN (f k) v)) w')
            (first
              | exact ⟨hq0, hq1, Hl2.out⟩
              | exact ⟨(World.cell?_of_block (a := ⟨wr.heap.size, 0, none⟩) (hto3.block _ Hqw.out Hqp.out.1 Hqp.out.2)).trans hq0, (World.cell?_of_block (a := ⟨wr.heap.size, 1, none⟩) (hto3.block _ Hqw.out Hqp.out.1 Hqp.out.2)).trans hq1, Hl3.out⟩)
            (first
              | (go_at_call 11; refine (Hst2.out.drew.add v Wk.out hjb).mono ?_; rintro e w3 ⟨rfl, ob3, hst3, hto3⟩; have Hst3 := Lib.hid hst3; have hl3 := hst3.look Wk.out; rw [upd_same] at hl3; have Hl3 := Lib.hid hl3; clear hl3 hst3)
              | (go_at_call 12; have hof := Hst3.out.of_ Wk.out; rw [upd_same] at hof; refine hof.mono ?_; rintro e w4 ⟨rfl, rfl⟩))
          all_goals
            go_wp2_with fail
            go_meet
            case rel => exact ⟨rfl, ob3, _, Hst3.out⟩
        case rest =>
          obtain ⟨rfl, ob4, D4, hst4⟩ := hcut
          obtain ⟨w5, rfl⟩ : ∃ w5 : World, w5 = wc := ⟨_, rfl⟩
          generalize upd f k (heldN (f k) v) = F at hst4
          clear hq0 hq1 Hst2 Hblk Hqw Hl2 Hqb Hqp Hq Hst1 hf Hst
          have Hst4 := Lib.hid hst4
          have hbl4 := Lib.hid hst4.own.lt
          have hsz4 := Lib.hid hst4.own.size_le
          have hown4 := hst4.own
          clear hst4
          go_upto_block 3 with (at_range; refine wpList_range_own _ rfl _ 26 rfl 3 3 law_int Try.underlying26 _ bw (2 * j + 2) D4 rfl hown4 ?_; intro w6 hrg0 hg0 hs0)
          go_frame
          have Hs0 := Lib.hid hs0
          have hst6 := Lib.hid (Hst4.out.grown hg0 (by simp) (by simp) (fun _ _ => by simp) (fun k e => by cases e))
          have hr0 := Lib.hid (show some w5.heap.size ≠ some w.heap.size ∧ some w5.heap.size ≠ some bw ∧ (∀ b, ob4 = some b → some b ≠ some w5.heap.size) ∧ w.heap.size ≤ w5.heap.size from
            ⟨fun e => by have := Hst4.out.tal.lt.1; simp at e; omega, fun e => by have := hbl4.out; simp at e; omega, fun b e e' => by have := Hst4.out.tal.lt.2 b e; simp at e'; omega, Hst4.out.siz⟩)
          clear hs0 hown4
          go_cut [8, 9, 10] (fun lo hi c wx => PickR F lo hi c ∧ St w.heap.size w w.heap.size bw ob4 D4 (2 * j + 2) F F wx)
          case first => as_aux_lemma =>
            go_wp2_with fail
            go_loopw [8, 9, 10] (fun lo hi c wr => ∃ (left : Lit → Bool) (cnt : Nat) (L : List Int), wr.ranges Try.prog 3 (plainElem Try.prog 3) bw w5.heap.size (2 * j + 2) D4 left cnt ∧ L.length + cnt ≤ 2 * j + 2 ∧ Seen F left L ∧ PK F L lo hi ∧ c = .int .i64 L.length ∧ St w.heap.size w w.heap.size bw ob4 D4 (2 * j + 2) F F wr)
              (fun _ _ _ wr => wr.rangeLeft bw w5.heap.size)
            case atStart => exact ⟨_, _, [], hrg0, by simpa using hsz4.out, seen_start _ D4 Hst4.out.val, .inl ⟨rfl, rfl, rfl⟩, rfl, hst6.out⟩
            case round =>
              obtain ⟨left, cnt, L, hrg, hcs, hseen, hpk, rfl, hst7⟩ := hrel
              have Hseen := Lib.hid hseen
              have Hst7 := Lib.hid hst7
              have Hpk := Lib.hid hpk
              clear hseen hst7 hpk
              go_wp2_with (at_next; refine wpList_next_ranges_ii _ rfl _ rfl 3 3 .i64 .i64 law_int Try.underlying3 Try.underlying3 bw w5.heap.size (2 * j + 2) D4 left cnt rfl hrg ?_ ?_)
              · intro _ hl0
                go_wp2_with fail
                go_meet
                case rel => exact ⟨⟨L, Hseen.out.1, fun k => by rw [Hseen.out.2 k, hl0]; simp, rfl, Hpk.out⟩, Hst7.out⟩
              · intro x c w7 cnt2 hwx hwc hlx hat hrg2 hlt2 hg2 hs2 hen
                obtain rfl : c = F x := by
                  have h1 := hat (.lit (.int .i64 0))
                  rw [Hst4.out.val x] at h1
                  simpa using h1.symm
                have Hst8 := Lib.hid (Hst7.out.grown hg2 (Ne.symm hr0.out.1) (Ne.symm hr0.out.2.1) hr0.out.2.2.1 (fun k e => by cases e; exact hr0.out.2.2.2))
                have Hrg := Lib.hid hrg
                have Hrg2 := Lib.hid hrg2
                clear hs2 hat hwc hrg hg2 hrg2
                by_cases hz : F x = 0
                · have hzb : (F x == 0) = true := by simpa using hz
                  have Hz := Lib.hid hz
                  clear hz
                  go_wp2_with fail
                  go_roundw
                  case rel => exact ⟨_, cnt2, L, Hrg2.out, by omega, seen_skip Hseen.out Hz.out, Hpk.out, rfl, Hst8.out⟩
                  case measure => rw [Hrg2.out.left_eq, Hrg.out.left_eq]; exact hlt2
                · have hzb : (F x == 0) = false := by simpa using hz
                  have Hz := Lib.hid hz
                  clear hz
                  rcases Hpk.out with ⟨rfl, rfl, rfl⟩ | ⟨a, b, ha, hb, hA, hB, rfl, rfl⟩
                  · go_wp2_with fail
                    go_roundw
                    case rel => exact ⟨_, cnt2, [x], Hrg2.out, by simp; omega, by simpa using seen_more Hseen.out Hz.out hlx, pk_one F x, rfl, Hst8.out⟩
                    case measure => rw [Hrg2.out.left_eq, Hrg.out.left_eq]; exact hlt2
                  · have hwa := Hst4.out.wf a ((Hseen.out.2 a).1 ha).1
                    have hwb := Hst4.out.wf b ((Hseen.out.2 b).1 hb).1
                    have hla := Hst8.out.look hwa
                    have hlb := Hst8.out.look hwb
                    have hL0 : ((L.length : Int) == 0) = false := by have := List.length_pos_of_mem ha; simp; intro e; simp [e] at this
                    have HA := Lib.hid hA
                    have HB := Lib.hid hB
                    have Hab := Lib.hid (And.intro ha hb)
                    clear hA hB ha hb hwa hwb Hpk
                    go_upto_region 21 with fail
                    go_cut [112] (fun c wx => c = .bool (byCount ltInt ltInt F x a) ∧ wx = w7)
                    case first => as_aux_lemma =>
                      cases e1 : decide (F x < F a)
                      all_goals
                        cases e2 : (F x == F a)
                        all_goals
                          cases e3 : decide (x < a)
                          all_goals
                            have he := Lib.hid (show byCount ltInt ltInt F x a = (decide (F x < F a) || ((F x == F a) && decide (x < a))) from rfl)
                            rw [e1, e2, e3] at he
                            go_wp2_with fail
                            go_meet
                            case rel => exact ⟨by rw [he.out]; rfl, rfl⟩
                    case rest =>
                      obtain ⟨rfl, rfl⟩ := hcut
                      cases h1 : byCount ltInt ltInt F x a
                      all_goals
                        have H1 := Lib.hid h1
                        go_upto_region 23 with fail
                        obtain ⟨w8, hw8⟩ : ∃ w8 : World, w8 = wc := ⟨_, rfl⟩
                        subst hw8
                        go_cut [134] (fun c wx => c = .bool (byCount gtInt ltInt F x b) ∧ wx = w8)
                        case first => as_aux_lemma =>
                          cases e1 : decide (F b < F x)
                          all_goals
                            cases e2 : (F x == F b)
                            all_goals
                              cases e3 : decide (x < b)
                              all_goals
                                have he := Lib.hid (show byCount gtInt ltInt F x b = (decide (F b < F x) || ((F x == F b) && decide (x < b))) from rfl)
                                rw [e1, e2, e3] at he
                                go_wp2_with fail
                                go_meet
                                case rel => exact ⟨by rw [he.out]; rfl, rfl⟩
                        case rest => as_aux_lemma =>
                          obtain ⟨rfl, rfl⟩ := hcut
                          cases h2 : byCount gtInt ltInt F x b
                          all_goals
                            have H2 := Lib.hid h2
                            go_wp2_with fail
                            go_roundw
                            case rel => exact ⟨_, cnt2, L ++ [x], Hrg2.out, by simp; omega, seen_more Hseen.out Hz.out hlx, pk_more Hab.out.1 Hab.out.2 HA.out HB.out H1.out H2.out, by simp, Hst8.out⟩
                            case measure => rw [Hrg2.out.left_eq, Hrg.out.left_eq]; exact hlt2
          case rest =>
            obtain ⟨⟨L, hnd, hmem, rfl, hpk⟩, hst9⟩ := hcut
            obtain ⟨w9, rfl⟩ : ∃ w9 : World, w9 = wc := ⟨_, rfl⟩
            have Hmem := Lib.hid hmem
            have Hpk := Lib.hid hpk
            have Hnd := Lib.hid hnd
            have Hst9 := Lib.hid hst9
            have hjb2 : 2 * j + 2 ≤ 1000000 := by omega
            have hLl : L.length ≤ 2 * j + 2 := plays_len hst9 hnd hmem
            clear hmem hpk hnd hst9 hst6 Hs0 hrg0 hg0 hr0 Hst4 hbl4 hsz4
            go_wp2_with fail
            refine (least_int _ ob4 (2 * j + 2) F _ Hst9.out.tal hjb2).mono ?_
            rintro e w10 ⟨v0, v1, v2, rfl, hb10, hpl⟩
            have Hst10 := Lib.hid (Hst9.out.below hb10)
            have Hpl := Lib.hid hpl
            clear hb10 hpl
            go_wp2_with fail
            refine (most_int _ ob4 (2 * j + 2) F _ Hst10.out.tal hjb2).mono ?_
            rintro e w11 ⟨u0, u1, u2, rfl, hb11, hpm⟩
            have Hst11 := Lib.hid (Hst10.out.below hb11)
            have Hpm := Lib.hid hpm
            clear hb11 hpm
            go_upto_region 28 with fail
            go_cut [205] (fun c wx => c = .bool false ∧ wx = w11)
            case first => as_aux_lemma =>
              rcases plays_pick Hmem.out Hpk.out Hpl.out Hpm.out with ⟨rfl, rfl, rfl, rfl, rfl, rfl, rfl, rfl, rfl⟩ | ⟨x, y, rfl, rfl, rfl, rfl, rfl, rfl, rfl, rfl, hx, hy, hL⟩
              · go_wp2_with fail
                go_meet
                case rel => exact ⟨rfl, rfl⟩
              · have hlx := Hst11.out.look (Hst11.out.wf x hx)
                have hly := Hst11.out.look (Hst11.out.wf y hy)
                clear hx hy
                go_wp2_with fail
                go_meet
                case rel => exact ⟨rfl, rfl⟩
            case rest => as_aux_lemma =>
              obtain ⟨rfl, rfl⟩ := hcut
              obtain ⟨w11, rfl⟩ : ∃ w11 : World, w11 = wc := ⟨_, rfl⟩
              go_wp2_with fail
              refine (keys_int _ ob4 (2 * j + 2) F _ Hst11.out.tal hjb2).mono ?_
              rintro e w12 ⟨sv, ks, rfl, hk1, hk2, hk3, hown, hb12⟩
              have Hst12 := Lib.hid (Hst11.out.below hb12)
              have hlen := Lib.hid (plays_keys Hnd.out Hmem.out hk1 hk2)
              obtain ⟨q, cap2, rfl⟩ := own_slice hown
              rw [hlen.out]
              have Hk1 := Lib.hid hk1
              have Hk2 := Lib.hid hk2
              have Hown := Lib.hid hown
              have hkl : ks.length ≤ 9223372036854775807 := by omega
              clear hk1 hk2 hown hb12
              go_wp2_with fail
              go_loop [214] (fun i => ∃ m : Nat, m ≤ ks.length ∧ i = .int .i64 m) (fun i => ks.length - (intOf i).toNat)
              case atStart => exact ⟨0, Nat.zero_le _, rfl⟩
              case round =>
                obtain ⟨m, hm, rfl⟩ := hrel
                by_cases hlt3 : m < ks.length
                · have hwk3 := (Hk2.out _).1 (List.getElem_mem hlt3)
                  have hl3 := Hst12.out.look (Hst12.out.wf _ hwk3)
                  have hz3 : (F ks[m] == 0) = false := by simpa using hwk3
                  obtain ⟨g, cap3, hsl⟩ := own_succ Hown.out (by omega)
                  cases hsl
                  have hc1 : w12.cell? ⟨g, m, none⟩ = some (.int .i64 ks[m]) := by
                    have := Hown.out.cellAt m (by omega)
                    simpa [hlt3] using this
                  clear hwk3
                  by_cases hm0 : m = 0
                  · subst hm0
                    clear hm
                    go_wp2_with fail
                    go_round
                    case rel => exact ⟨1, by omega, rfl⟩
                    case measure => simp [intOf]; omega
                  · have hc2 : w12.cell? ⟨g, m - 1, none⟩ = some (.int .i64 ks[m - 1]) := by
                      have := Hown.out.cellAt (m - 1) (by omega)
                      simpa [show m - 1 < ks.length by omega] using this
                    have hgt : ks[m - 1] < ks[m] := List.pairwise_iff_getElem.1 Hk1.out (m - 1) m (by omega) hlt3 (by omega)
                    have hmp : 0 < m := by omega
                    have hlt4 : m - 1 < ks.length := by omega
                    clear hm0
                    go_wp2_with fail
                    go_round
                    case rel => exact ⟨m + 1, by omega, by go_num⟩
                    case measure => simp [intOf]; omega
                · go_wp2_with fail
                  go_roundw
                  case rel => exact ⟨j + 1, by omega, by go_num, ob4, D4, F, by rw [show 2 * (j + 1) = 2 * j + 2 by omega]; exact Hst12.out⟩
                  case measure => simp [intOf]; omega
    · go_wp2_with (go_at_call 9; refine (awake_any _).mono ?_; rintro e w' ⟨rfl, hb⟩)
      go_ret
      exact ⟨rfl, hst.bel.trans (hb.mono hst.siz)⟩

theorem plays_any (sv : Value) (l : List (Int × Int)) (w : World) (h : PRow w sv l) (hl : l.length ≤ 9223372036854775807) (hw : PWf l) : Calls Try.prog 3 #[sv] w (Holds w) := by
  by_cases hb : 100 < l.length
  · exact plays_big sv l w h hl hb
  · exact plays_small sv l w h (by omega) hw
end Go.Proofs.Ytdoaacfonkgokaa
