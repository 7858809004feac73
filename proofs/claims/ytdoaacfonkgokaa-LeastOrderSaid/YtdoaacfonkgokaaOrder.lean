/- LeastOrder: in whatever order it is added, the counts are the same. -/
import Derived.Test.YtdoaacfonkgokaaTwo
import Derived.Deep.CutBlock
import Derived.Deep.DeepCutAuto
import Derived.Deep.QuietTactic
import Derived.BigQuiet
namespace Go.Proofs.Ytdoaacfonkgokaa
open Go.RowKit Go.Maps

theorem info_pair : (Try.prog.info? 28).map (fun i => (i.zero, i.size, i.bytes)) = some (some (.agg #[.int .i64 0, .int .i64 0]), 2, 16) := by kernel_rfl

/-- The cells of a list of pairs. -/
def pflat (l : List (Int × Int)) : List Value := l.flatMap fun x => [.int .i64 x.1, .int .i64 x.2]
theorem pflat_append (l r : List (Int × Int)) : pflat l ++ pflat r = pflat (l ++ r) := by simp [pflat]
theorem pflat_length (l : List (Int × Int)) : (pflat l).length = l.length * 2 := by
  induction l with
  | nil => rfl
  | cons x l ih => simp only [pflat, List.flatMap_cons, List.length_append] at ih ⊢; rw [ih]; simp; omega
theorem pflat_at (l : List (Int × Int)) (i : Nat) (h : i < l.length) : (pflat l)[i * 2]? = some (.int .i64 l[i].1) ∧ (pflat l)[i * 2 + 1]? = some (.int .i64 l[i].2) := by
  induction l generalizing i with
  | nil => simp at h
  | cons x l ih =>
    cases i with
    | zero => simp [pflat]
    | succ i =>
      have := ih i (by simpa using h)
      have e : pflat (x :: l) = .int .i64 x.1 :: .int .i64 x.2 :: pflat l := by simp [pflat]
      rw [e, show (i + 1) * 2 = i * 2 + 2 by omega]
      simpa using this
theorem pflat_one (l : List (Int × Int)) : ∀ u ∈ pflat l, u.oneCell' = true := by
  intro u hu
  obtain ⟨x, _, hx⟩ := List.mem_flatMap.1 hu
  simp at hx
  rcases hx with rfl | rfl <;> rfl
theorem block_add (a : Addr) (n : Nat) : (a.add n).block = a.block := by unfold Addr.add; split <;> rfl
theorem prow_cells {w W : World} {ad : Addr} {n c : Nat} {l : List (Int × Int)} (h : PRow w (.slice (some ad) n c) l) (hb : Below w.heap.size w W) (k : Nat) (hk : k ≤ l.length) :
    (∀ j u, (pflat (l.take k))[j]? = some u → W.cell? (ad.add j) = some u) ∧ (∀ j u, (pflat (l.drop k))[j]? = some u → W.cell? ((ad.add (k * 2)).add j) = some u) := by
  have all : ∀ j u, (pflat l)[j]? = some u → W.cell? (ad.add j) = some u := by
    intro j u hu
    have hj : j < (pflat l).length := (List.getElem?_eq_some_iff.1 hu).1
    rw [pflat_length] at hj
    rcases h with ⟨h0, _⟩ | ⟨ad', cap, he, hc⟩
    · cases h0
    · cases he
      have key : w.cell? (ad.add j) = some u := by
        obtain ⟨i, hi⟩ : ∃ i, j = i * 2 ∨ j = i * 2 + 1 := ⟨j / 2, by omega⟩
        rcases hi with rfl | rfl
        · rw [(pflat_at l i (by omega)).1] at hu
          rw [(hc i (by omega)).1]; exact hu
        · rw [(pflat_at l i (by omega)).2] at hu
          rw [(hc i (by omega)).2]; exact hu
      exact (hb.cell (World.block_lt_of_cell? w _ key)).trans key
  have hsplit : pflat l = pflat (l.take k) ++ pflat (l.drop k) := by rw [pflat_append, List.take_append_drop]
  have hlt : (pflat (l.take k)).length = k * 2 := by rw [pflat_length, List.length_take, Nat.min_eq_left hk]
  constructor
  · intro j u hu
    refine all j u ?_
    have hj : j < (pflat (l.take k)).length := (List.getElem?_eq_some_iff.1 hu).1
    rw [hsplit, List.getElem?_append_left hj]; exact hu
  · intro j u hu
    rw [Deep.add_add]
    refine all _ u ?_
    rw [hsplit, List.getElem?_append_right (by omega), hlt, Nat.add_sub_cancel_left]; exact hu

theorem TT.row {B : Nat} {w : World} {p q : Nat} {ob oc : Option Nat} {n m : Nat} {f g : Int → Int} {wr w' : World} {v : Value} {c : Nat} {xs : List Value} (h : TT B w p q ob oc n m f g wr) (ho : wr.ownsRow B 28 2 v c xs) (hg : wr.grownBy w' v.ownBlock) : TT B w p q ob oc n m f g w' := by
  have hm : ∀ {p : Nat} {ob : Option Nat} {n : Nat} {f : Int → Int}, Tally_int wr p ob n f → Tally_int w' p ob n f := fun ht => by
    refine ht.kept (hg.block _ ht.lt.1 (own_apart ho ht.1 (by decide))) fun b e => hg.block _ (ht.lt.2 b e) fun e' => ?_
    rcases ho.2 with ⟨rfl, _⟩ | ⟨g', cap, cur, rfl, _, hb, _⟩
    · cases e'
    · have : b = g' := by simpa [Value.ownBlock] using e'
      subst this
      exact map_not_row ht hb b e rfl
  exact { h with t1 := hm h.t1, t2 := hm h.t2, bel := h.bel.grown hg h.siz (fun k e => (ho.lt k e).1), siz := Nat.le_trans h.siz hg.size }
theorem TT.of1q {B : Nat} {w : World} {p q : Nat} {ob oc : Option Nat} {n m : Nat} {f g : Int → Int} {wr : World} (h : TT B w p q ob oc n m f g wr) {k : Int} (hk : (Lit.int .i64 k).wf = true) (d : Nat) :
    Calls Try.prog 12 #[.pointer (some ⟨p, 0, none⟩), .int .i64 k] (wr.drewN d) fun e w' => e = .returned (.int .i64 (f k)) ∧ w' = wr.drewN d :=
  (of_int p ob n f k _ ((h.t1.kept (w' := wr.drewN d) rfl fun _ _ => rfl)) hk).mono fun _ _ ⟨a, b⟩ => ⟨a, b.symm⟩
theorem own_touch {wr w' : World} {B p : Nat} {ob : Option Nat} {n : Nat} {f : Int → Int} {v : Value} {c : Nat} {xs : List Value} (ho : wr.ownsRow B 28 2 v c xs) (ht : Tally_int wr p ob n f) (hto : Touch p ob wr w') : w'.ownsRow B 28 2 v c xs := by
  refine ⟨ho.1, ?_⟩
  rcases ho.2 with h0 | ⟨g, cap, cur, rfl, hb, hg, rest⟩
  · exact .inl h0
  · refine .inr ⟨g, cap, cur, rfl, hb, (hto.block g (lt_size hg) (fun e => ?_) (fun e => map_not_row ht hg g e.symm rfl)).trans hg, rest⟩
    subst e
    rw [ht.1] at hg
    cases hg
/-- Behind an append onto the new block that is empty nothing that is older has turned. -/
theorem order_below {w wr w3 : World} {o : Obj} {n c : Nat} (hb : Below w.heap.size w (wr.alloc o).drew) (hg : (wr.alloc o).drew.grownBy w3 (Value.ownBlock (.slice (some ⟨wr.heap.size, 0, none⟩) n c))) (hs : w.heap.size ≤ wr.heap.size) : Below w.heap.size w w3 :=
  hb.grown hg (by simp; omega) (fun k e => by
    have : wr.heap.size = k := by simpa [Value.ownBlock] using e
    omega)

set_option maxRecDepth 100000 in
theorem cap_pairs {H : Type} {enc : TypeId × Value → H} {W : World} {v : Value} {d : DataW H} {p : List MemPlace} (h : DataW.Trod enc Try.prog W 0 (fun _ => true) true 22 v d p) :
    ∀ A n c, v = .slice A n c → n ≤ c ∧ c ≤ maxLen ∧ (A = none → c = 0) := by
  intro A n c hv
  subst hv
  obtain ⟨fuel, hf⟩ := h
  rcases Deep.open_slice_pairs Try.underlying22 Try.underlying28 cells_pair rfl rfl cells_int cells_int hf with ⟨hcs, _⟩ | ⟨a, len', cap', m, n, V0, V1, D0, D1, P0, P1, hcs, _, hl, hm, _⟩
  · simp [Value.cells] at hcs
    obtain ⟨rfl, rfl, rfl⟩ := hcs
    exact ⟨Nat.le_refl _, by simp, fun _ => rfl⟩
  · simp [Value.cells] at hcs
    obtain ⟨rfl, rfl, rfl⟩ := hcs
    exact ⟨hl, hm, fun e => by cases e⟩

set_option maxRecDepth 100000 in
theorem order_big (sv : Value) (l : List (Int × Int)) (n : Int) (w : World) (h : PRow w sv l) (hl : l.length ≤ 9223372036854775807) (hb : 100 < l.length) : Calls Try.prog 6 #[sv, .int .i64 n] w (Holds w) := by
  obtain ⟨A, cap, rfl, _⟩ := prow_form h
  clear h
  go_enter Try.func6, Try.ntmps6
  go_wp2_with (go_at_call 9; refine (awake_any _).mono ?_; rintro e w' ⟨rfl, hb⟩)
  go_ret
  exact ⟨rfl, hb⟩

set_option maxRecDepth 100000 in
set_option maxHeartbeats 4000000 in
theorem order_small (sv : Value) (l : List (Int × Int)) (n : Int) (w : World) (h : PRow w sv l) (hcap : ∀ A n c, sv = .slice A n c → n ≤ c ∧ c ≤ maxLen ∧ (A = none → c = 0)) (hl : l.length ≤ 100) (hw : PWf l) : Calls Try.prog 6 #[sv, .int .i64 n] w (Holds w) := by
  obtain ⟨A, cap, rfl, hc⟩ := prow_form h
  obtain ⟨hc1, hc2, hc3⟩ := hcap _ _ _ rfl
  have Hc := Lib.hid hc
  have Hw := Lib.hid hw
  have Hc3 := Lib.hid hc3
  have Hrow := Lib.hid h
  unfold maxLen at hc2
  clear h hc hw hc3 hcap
  have hu := u64_rng n
  have hm1 : 0 ≤ IntKind.u64.wrap n % ((l.length : Int) + 1) := Int.emod_nonneg _ (by omega)
  have hm2 : IntKind.u64.wrap n % ((l.length : Int) + 1) < (l.length : Int) + 1 := Int.emod_lt_of_pos _ (by omega)
  go_enter Try.func6, Try.ntmps6
  go_wp2_with fail
  generalize IntKind.u64.wrap n % ((l.length : Int) + 1) = kk at hm1 hm2 ⊢
  obtain ⟨k, rfl⟩ := Int.eq_ofNat_of_zero_le hm1
  refine (new_int _).mono ?_
  rintro e w1 ⟨rfl, hnew1⟩
  go_wp2_with fail
  refine (new_int _).mono ?_
  rintro e w2 ⟨rfl, hnew2⟩
  have htt := Lib.hid (TT.start ⟨rfl, hnew1⟩ ⟨rfl, hnew2⟩)
  clear hnew1 hnew2
  go_wp2_with fail
  have hk : k ≤ l.length := by omega
  have hkc : k ≤ cap := by omega
  go_loopw [30] (fun i wr => ∃ j : Nat, j ≤ l.length ∧ i = .int .i64 j ∧ ∃ ob, TT w.heap.size w w.heap.size w1.heap.size ob none j 0 (sumAt (l.take j)) (fun _ => 0) wr) (fun i _ => l.length - (intOf i).toNat)
  case atStart => exact ⟨0, Nat.zero_le _, rfl, _, htt.out⟩
  case round =>
    obtain ⟨j, hj, rfl, ob, hst⟩ := hrel
    have Hst := Lib.hid hst
    have hbw := hst.bel
    clear hst
    by_cases hlt : j < l.length
    · obtain ⟨b, off, rfl, hbl, hk0, hk1⟩ := Hc.out j hlt
      have hk0' := (hbw.cell (p := ⟨b, off + j * 2, none⟩) hbl).trans hk0
      have hk1' := (hbw.cell (p := ⟨b, off + j * 2 + 1, none⟩) hbl).trans hk1
      have hu2 := (u64_rng l[j].2).1
      clear hbw hk0 hk1
      go_wp2_with fail
      have hadd := (Hst.out.alloc (.cells #[.int .i64 l[j].1, .int .i64 l[j].2] 28)).add (IntKind.u64.wrap l[j].2 % 1000) (Hw.out _ (List.getElem_mem hlt)).1 (by omega)
      rw [sumAt_step l j hlt hl] at hadd
      refine hadd.mono ?_
      rintro e w3 ⟨rfl, ob3, hst3, _⟩
      have Hst3 := Lib.hid hst3
      clear hst3 hadd
      go_wp2
      go_roundw
      case rel => exact ⟨j + 1, by omega, by go_num, _, Hst3.out⟩
      case measure => simp [intOf]; omega
    · obtain rfl : j = l.length := by omega
      obtain ⟨i0, hi, hz0, hz1, hz2⟩ := info_parts info_pair
      go_upto_region 10 with fail
      go_cut [52, 53, 54] (fun s c i wx => ∃ q4 cap4, s = .slice q4 l.length cap4 ∧ c = .int .i64 l.length ∧ i = .int .i64 0 ∧ TT w.heap.size w w.heap.size w1.heap.size ob none l.length 0 (sumAt (l.take l.length)) (fun _ => 0) wx ∧ wx.ownsRow w.heap.size 28 2 (.slice q4 l.length cap4) l.length (pflat (l.drop k ++ l.take k)))
      case first =>
        cases A with
        | none =>
          obtain ⟨rfl, rfl⟩ : l = [] ∧ cap = 0 := by
            rcases Hrow.out with ⟨h0, h1⟩ | ⟨_, _, h0, _⟩
            · subst h1; exact ⟨rfl, by simpa using h0⟩
            · cases h0
          obtain rfl : k = 0 := by simpa using hk
          have hb1 := Lib.hid ((Hst.out.bel.alloc Hst.out.siz (.cells #[] 28)).drew)
          have hlit := Lib.hid (World.ownsRow_lit (base := w.heap.size) (e := 28) (size := 2) wr #[] 0 Hst.out.siz (by omega) rfl)
          have hsz := Hst.out.siz
          have htt2 := Lib.hid (Hst.out.alloc (.cells #[] 28)).drew
          have tok1 : True := trivial
          have tok2 : True := trivial
          go_region_law (first
            | (have _t := tok1; refine step_append_any (by rfl) (.tmp 44) (.tmp 47) 22 (by rfl) w.heap.size 28 i0 _ 2 16 Try.underlying22 hi hz0 hz1 hz2 rfl (by omega) _ 0 [] (by rfl) hlit.out.drew _ _ _ (pflat []) (by rfl) (by rfl) (by intro _; exact ⟨rfl, rfl⟩) (by intro ad h; cases h) (pflat_one _) (by unfold maxLen; omega) (by omega) (by simp; omega) ?_; intro q3 cap3 w3 hown3 hgrow3; have Hown3 := Lib.hid (show w3.ownsRow w.heap.size 28 2 (.slice q3 (0) cap3) (0) (pflat []) by simpa using hown3); have Hgrow3 := Lib.hid hgrow3; have hs3 := hgrow3.size; rw [show ((wr.alloc (.cells #[] 28)).drew).heap.size = wr.heap.size + 1 by simp] at hs3; clear hown3 hgrow3; clear tok1)
            | (have _t := tok2; refine step_append_any (by rfl) (.tmp 48) (.tmp 51) 22 (by rfl) w.heap.size 28 i0 _ 2 16 Try.underlying22 hi hz0 hz1 hz2 rfl (by omega) (.slice q3 (0) cap3) (0) (pflat []) (by rfl) Hown3.out _ _ _ (pflat []) (by rfl) (by rfl) (by intro _; exact ⟨rfl, rfl⟩) (by intro ad h; cases h) (pflat_one _) (by unfold maxLen; omega) (by omega) (by omega) ?_; intro q4 cap4 w4 hown4 hgrow4; have Hown4 := Lib.hid hown4; have Hgrow4 := Lib.hid hgrow4; clear hown4 hgrow4; clear tok2))
          go_wp2_with fail
          go_meet
          case rel =>
            refine ⟨q4, cap4, ?_, ?_, ?_, (htt2.out.row hlit.out.drew Hgrow3.out).row Hown3.out Hgrow4.out, ?_⟩
            · first | rfl | (simp; done) | (simp; omega)
            · first | rfl | (simp; done) | (simp; omega)
            · rfl
            · have := Hown4.out; rw [pflat_append] at this; simpa using this
        | some ad =>
          have hcells := Lib.hid (fun (W : World) (hb : Below w.heap.size w W) => prow_cells Hrow.out hb k hk)
          by_cases hck : cap = k
          · subst hck
            have hdrop : l.drop cap = [] := List.drop_eq_nil_of_le hc1
            have hb1 := Lib.hid ((Hst.out.bel.alloc Hst.out.siz (.cells #[] 28)).drew)
            have hlit := Lib.hid (World.ownsRow_lit (base := w.heap.size) (e := 28) (size := 2) wr #[] 0 Hst.out.siz (by omega) rfl)
            have hsz := Hst.out.siz
            have htt2 := Lib.hid (Hst.out.alloc (.cells #[] 28)).drew
            have tok1 : True := trivial
            have tok2 : True := trivial
            go_region_law (first
              | (have _t := tok1; refine step_append_any (by rfl) (.tmp 44) (.tmp 47) 22 (by rfl) w.heap.size 28 i0 _ 2 16 Try.underlying22 hi hz0 hz1 hz2 rfl (by omega) _ 0 [] (by rfl) hlit.out.drew _ _ _ (pflat []) (by rfl) (by rfl) (by intro h; cases h) (by intro ad' e j u hu; simp [pflat] at hu) (pflat_one _) (by unfold maxLen; omega) (by omega) (by simp; omega) ?_; intro q3 cap3 w3 hown3 hgrow3; have Hown3 := Lib.hid (show w3.ownsRow w.heap.size 28 2 (.slice q3 0 cap3) 0 (pflat []) by simpa using hown3); have Hgrow3 := Lib.hid hgrow3; have hs3 := hgrow3.size; rw [show ((wr.alloc (.cells #[] 28)).drew).heap.size = wr.heap.size + 1 by simp] at hs3; clear hown3 hgrow3; clear tok1)
              | (have _t := tok2; refine step_append_any (by rfl) (.tmp 48) (.tmp 51) 22 (by rfl) w.heap.size 28 i0 _ 2 16 Try.underlying22 hi hz0 hz1 hz2 rfl (by omega) (.slice q3 0 cap3) 0 (pflat []) (by rfl) Hown3.out _ _ _ (pflat (l.take cap)) (by rfl) (by rw [pflat_length, List.length_take, Nat.min_eq_left hk]) (by intro h; cases h) (by intro ad' e; cases e; exact (hcells.out _ (order_below hb1.out Hgrow3.out Hst.out.siz)).1) (pflat_one _) (by unfold maxLen; omega) (by omega) (by omega) ?_; intro q4 cap4 w4 hown4 hgrow4; have Hown4 := Lib.hid hown4; have Hgrow4 := Lib.hid hgrow4; clear hown4 hgrow4; clear tok2))
            go_wp2_with fail
            go_meet
            case rel =>
              refine ⟨q4, cap4, ?_, ?_, ?_, (htt2.out.row hlit.out.drew Hgrow3.out).row Hown3.out Hgrow4.out, ?_⟩
              · first | rfl | (simp; done) | (simp; omega)
              · first | rfl | (simp; done) | (simp; omega)
              · rfl
              · have := Hown4.out; rw [pflat_append] at this; rw [hdrop]; simpa [show l.length = cap by omega] using this
          · skip
            have hb1 := Lib.hid ((Hst.out.bel.alloc Hst.out.siz (.cells #[] 28)).drew)
            have hlit := Lib.hid (World.ownsRow_lit (base := w.heap.size) (e := 28) (size := 2) wr #[] 0 Hst.out.siz (by omega) rfl)
            have hsz := Hst.out.siz
            have htt2 := Lib.hid (Hst.out.alloc (.cells #[] 28)).drew
            have tok1 : True := trivial
            have tok2 : True := trivial
            go_region_law (first
              | (have _t := tok1; refine step_append_any (by rfl) (.tmp 44) (.tmp 47) 22 (by rfl) w.heap.size 28 i0 _ 2 16 Try.underlying22 hi hz0 hz1 hz2 rfl (by omega) _ 0 [] (by rfl) hlit.out.drew _ _ _ (pflat (l.drop k)) (by rfl) (by rw [pflat_length, List.length_drop]) (by intro h; cases h) (by intro ad' e; cases e; exact (hcells.out _ hb1.out).2) (pflat_one _) (by unfold maxLen; omega) (by omega) (by simp; omega) ?_; intro q3 cap3 w3 hown3 hgrow3; have Hown3 := Lib.hid (show w3.ownsRow w.heap.size 28 2 (.slice q3 (l.length - k) cap3) (l.length - k) (pflat (l.drop k)) by simpa using hown3); have Hgrow3 := Lib.hid hgrow3; have hs3 := hgrow3.size; rw [show ((wr.alloc (.cells #[] 28)).drew).heap.size = wr.heap.size + 1 by simp] at hs3; clear hown3 hgrow3; clear tok1)
              | (have _t := tok2; refine step_append_any (by rfl) (.tmp 48) (.tmp 51) 22 (by rfl) w.heap.size 28 i0 _ 2 16 Try.underlying22 hi hz0 hz1 hz2 rfl (by omega) (.slice q3 (l.length - k) cap3) (l.length - k) (pflat (l.drop k)) (by rfl) Hown3.out _ _ _ (pflat (l.take k)) (by rfl) (by rw [pflat_length, List.length_take, Nat.min_eq_left hk]) (by intro h; cases h) (by intro ad' e; cases e; exact (hcells.out _ (order_below hb1.out Hgrow3.out Hst.out.siz)).1) (pflat_one _) (by unfold maxLen; omega) (by omega) (by omega) ?_; intro q4 cap4 w4 hown4 hgrow4; have Hown4 := Lib.hid hown4; have Hgrow4 := Lib.hid hgrow4; clear hown4 hgrow4; clear tok2))
            go_wp2_with fail
            go_meet
            case rel =>
              refine ⟨q4, cap4, ?_, ?_, ?_, (htt2.out.row hlit.out.drew Hgrow3.out).row Hown3.out Hgrow4.out, ?_⟩
              · first | rfl | (simp; done) | (simp; omega)
              · first | rfl | (simp; done) | (simp; omega)
              · rfl
              · have := Hown4.out; rw [Nat.sub_add_cancel hk, pflat_append] at this; exact this
      case rest =>
        obtain ⟨q4, cap4, rfl, rfl, rfl, htt, hown⟩ := hcut
        obtain ⟨w5, rfl⟩ : ∃ w5 : World, w5 = wc := ⟨_, rfl⟩
        rw [List.take_length] at htt
        have Htt5 := Lib.hid htt
        have Hown5 := Lib.hid hown
        obtain ⟨L, hL⟩ : ∃ L, L = l.drop k ++ l.take k := ⟨_, rfl⟩
        have HL := Lib.hid hL
        rw [← hL] at Hown5
        have hLl : L.length = l.length := by rw [hL]; simp; omega
        have HLl := Lib.hid hLl
        have hLw : PWf L := by
          intro x hx
          rw [hL] at hx
          rcases List.mem_append.1 hx with h | h
          · exact Hw.out x (List.mem_of_mem_drop h)
          · exact Hw.out x (List.mem_of_mem_take h)
        have HLw := Lib.hid hLw
        clear htt hown hL hLl hLw Hst hbw
        go_wp2_with fail
        go_loopw [54] (fun i wr => ∃ j : Nat, j ≤ l.length ∧ i = .int .i64 j ∧ ∃ oc, TT w.heap.size w w.heap.size w1.heap.size ob oc l.length j (sumAt l) (sumAt (L.take j)) wr ∧ wr.ownsRow w.heap.size 28 2 (.slice q4 l.length cap4) l.length (pflat L)) (fun i _ => l.length - (intOf i).toNat)
        case atStart => exact ⟨0, Nat.zero_le _, rfl, _, Htt5.out, Hown5.out⟩
        case round =>
          obtain ⟨j, hj2, rfl, oc, hst, hown⟩ := hrel
          have Hst := Lib.hid hst
          have Hown := Lib.hid hown
          by_cases hlt2 : j < l.length
          · have hjL : j < L.length := by rw [HLl.out]; exact hlt2
            obtain ⟨g, cap3, hsl⟩ := own_succ hown (by omega)
            cases hsl
            have hk0 : wr.cell? ⟨g, j * 2, none⟩ = some (.int .i64 L[j].1) := by
              have := hown.cellAt (j * 2) (by omega)
              exact this.trans (pflat_at L j hjL).1
            have hk1 : wr.cell? ⟨g, j * 2 + 1, none⟩ = some (.int .i64 L[j].2) := by
              have := hown.cellAt (j * 2 + 1) (by omega)
              exact this.trans (pflat_at L j hjL).2
            have hu2 := (u64_rng L[j].2).1
            clear hst hown
            go_wp2_with fail
            have hst2 := (Hst.out.alloc (.cells #[.int .i64 L[j].1, .int .i64 L[j].2] 28)).swap
            have hadd := hst2.add (IntKind.u64.wrap L[j].2 % 1000) (HLw.out _ (List.getElem_mem hjL)).1 (by omega)
            rw [sumAt_step L j hjL (by rw [HLl.out]; exact hl)] at hadd
            refine hadd.mono ?_
            rintro e w3 ⟨rfl, oc3, hst3, hto⟩
            have Hst3 := Lib.hid hst3.swap
            have Hown3 := Lib.hid (own_touch (Hown.out.alloc (.cells #[.int .i64 L[j].1, .int .i64 L[j].2] 28)) hst2.t1 hto)
            clear hst3 hadd hto hst2
            go_wp2
            go_roundw
            case rel => exact ⟨j + 1, by omega, by go_num, _, Hst3.out, Hown3.out⟩
            case measure => simp [intOf]; omega
          · obtain rfl : j = l.length := by omega
            have hsum : sumAt (L.take l.length) = sumAt l := by rw [← HLl.out, List.take_length, HL.out, sumAt_turn]
            rw [hsum] at hst
            have Hst6 := Lib.hid hst
            clear hst hown hsum Hst Hown
            go_wp2_with fail
            go_loopw [70] (fun i wx => ∃ m : Nat, m ≤ l.length ∧ i = .int .i64 m ∧ TT w.heap.size w w.heap.size w1.heap.size ob oc l.length l.length (sumAt l) (sumAt l) wx) (fun i _ => l.length - (intOf i).toNat)
            case atStart => exact ⟨0, Nat.zero_le _, rfl, Hst6.out⟩
            case round =>
              obtain ⟨m, hm, rfl, hst⟩ := hrel
              have Hst7 := Lib.hid hst
              have hbw := hst.bel
              clear hst
              by_cases hlt3 : m < l.length
              · obtain ⟨b, off, rfl, hbl, hk0, hk1⟩ := Hc.out m hlt3
                have hk0' := (hbw.cell (p := ⟨b, off + m * 2, none⟩) hbl).trans hk0
                have hk1' := (hbw.cell (p := ⟨b, off + m * 2 + 1, none⟩) hbl).trans hk1
                have Hst8 := Lib.hid (Hst7.out.alloc (.cells #[.int .i64 l[m].1, .int .i64 l[m].2] 28))
                have Hwk := Lib.hid (Hw.out _ (List.getElem_mem hlt3)).1
                clear hbw hk0 hk1
                go_wp2_with fail
                go_quiet ((first
                  | (go_at_call_of 12 (Value.pointer (some ⟨w.heap.size, 0, none⟩)); refine Calls.quiet_of_same (Hst8.out.of1q Hwk.out _))
                  | (go_at_call_of 12 (Value.pointer (some ⟨w1.heap.size, 0, none⟩)); refine Calls.quiet_of_same (Hst8.out.swap.of1q Hwk.out _))))
                go_wp2_with fail
                go_roundw
                case rel => exact ⟨m + 1, by omega, by go_num, Hst8.out.below ⟨rfl, rfl, rfl, Nat.le_refl _, fun _ _ => rfl⟩⟩
                case measure => simp [intOf]; omega
              · go_wp2_with (go_at_call 9; refine (awake_any _).mono ?_; rintro e w' ⟨rfl, hb⟩)
                go_ret
                exact ⟨rfl, hbw.trans (hb.mono Hst7.out.siz)⟩

theorem order_any (sv : Value) (l : List (Int × Int)) (n : Int) (w : World) (h : PRow w sv l) (hcap : ∀ A n c, sv = .slice A n c → n ≤ c ∧ c ≤ maxLen ∧ (A = none → c = 0)) (hl : l.length ≤ 9223372036854775807) (hw : PWf l) : Calls Try.prog 6 #[sv, .int .i64 n] w (Holds w) := by
  by_cases hb : 100 < l.length
  · exact order_big sv l n w h hl hb
  · exact order_small sv l n w h hcap (by omega) hw
end Go.Proofs.Ytdoaacfonkgokaa
