/- NodeBounds: at its bounds a file may be; beyond them it may not (written by mkbo.py). -/
import Derived.Test.YtohiabkjbieflaaNdZ
namespace Go.Proofs.Ytohiabkjbieflaa
open Go.RowKit Go.Lib

theorem bool_eql (V U : Bool) (w : World) : (binOp .eql 4 (.bool V) (.bool U)).run Try.prog w = .ok (.bool (V == U)) w := by cases V <;> cases U <;> rfl
/-- What a copy's rows are, of a file without names. -/
structure Res5 (w0 w : World) (sq : List Int) (g : Nat) (B : Option Addr) (c d : Nat) : Prop where
  i : IOwn w w0.heap.size (.slice (some ⟨g, 0, none⟩) 5 c) sq
  e : EOwn w w0.heap.size (.slice B 0 d) []
theorem Res5.below {w0 w w' : World} {sq : List Int} {g : Nat} {B : Option Addr} {c d : Nat} (h : Res5 w0 w sq g B c d) (hb : Below w.heap.size w w') : Res5 w0 w' sq g B c d :=
  ⟨own_keep h.i fun g e => hb.block g (h.i.lt g e).2, own_keep h.e fun g e => hb.block g (h.e.lt g e).2⟩
theorem Res5.keep {w0 w w' : World} {sq : List Int} {g : Nat} {B : Option Addr} {c d : Nat} (h : Res5 w0 w sq g B c d) (hi : ∀ b, (Value.slice (some ⟨g, 0, none⟩) 5 c).ownBlock = some b → w'.heap[b]? = w.heap[b]?) (he : ∀ b, (Value.slice B 0 d).ownBlock = some b → w'.heap[b]? = w.heap[b]?) : Res5 w0 w' sq g B c d :=
  ⟨own_keep h.i hi, own_keep h.e he⟩
theorem own_not_box {w : World} {base p : Nat} {v : Value} {l : List Int} {S T : Value} {k a z : Int} (h : IOwn w base v l) (hb : BoxAt w p k a z S T) : v.ownBlock ≠ some p := fun e => by
  rcases h.2 with ⟨rfl, _⟩ | ⟨g, cap, cur, rfl, _, hg, _⟩
  · cases e
  · cases e
    have hb2 : w.heap[g]? = _ := hb
    rw [hg] at hb2
    simp at hb2
theorem may_size1 : mayNd ⟨0, 0, 1, [], []⟩ = false := rfl
set_option maxRecDepth 100000 in
set_option maxHeartbeats 8000000 in
theorem bounds_law (z s pg l : Int) (w : World) :
    Calls Try.prog 6 #[.int .i64 z, .int .i64 s, .int .i64 pg, .int .i64 l] w fun e w' => e = .returned (.bool true) ∧ Below w.heap.size w w' := by
  obtain ⟨q, hq, hq5⟩ := small5 pg
  have hqw : IntKind.i64.wrap (q : Int) = (q : Int) := i64w_idE _ (by omega)
  go_enter Try.func6, Try.ntmps6
  go_upto_region 2 with (first
    | (go_at_call 16; (with_reducible refine (emptyf_any _).mono ?_); rintro e w1 ⟨g1, c1, rfl, hO1, hb1⟩; replace hO1 := Lib.hid hO1; replace hb1 := Lib.hid hb1)
    | fail)
  obtain ⟨W1, hW1⟩ : ∃ X, X = w1.alloc (.cells #[.int .i64 1, .int .i64 1, .int .i64 0, .slice (some ⟨g1, 0, none⟩) 5 c1, .slice none 0 0] 25) := ⟨_, rfl⟩
  obtain ⟨p1, hp1⟩ : ∃ p, p = w1.heap.size := ⟨_, rfl⟩
  rw [← hW1, ← hp1]
  have BX1 : Hid (BoxAt W1 p1 1 1 0 (.slice (some ⟨g1, 0, none⟩) 5 c1) (.slice none 0 0)) := Lib.hid (by rw [hW1, hp1]; exact heap_alloc_new _ _)
  have HB1 : Hid (Below w.heap.size w W1) := Lib.hid (by rw [hW1]; exact hb1.out.alloc hb1.out.size _)
  have HO1 : Hid (IOwn W1 w.heap.size (.slice (some ⟨g1, 0, none⟩) 5 c1) [0, 0, 0, 0, 0]) := Lib.hid (by rw [hW1]; exact own_keep hO1.out fun g e => ((Below.refl _ _).alloc (Nat.le_refl _) _).block g (hO1.out.lt g e).2)
  have hgp : Hid (w.heap.size ≤ g1 ∧ g1 < p1 ∧ w.heap.size ≤ p1) := Lib.hid (by have := hO1.out.lt g1 rfl; have := hb1.out.size; rw [hp1]; exact ⟨by omega, by omega, by omega⟩)
  obtain ⟨r0, r1, r2, r3, r4⟩ := BX1.out.cells
  have f1 := BX1.out.frozen 1
  have f2 := BX1.out.frozen 2
  clear hW1 hp1 hb1 hO1
  go_upto_region 6 with (fail)
  obtain ⟨W2, hW2⟩ : ∃ X, X = (W1.setCell ⟨p1, 2, none⟩ (.int .i64 z)).setCell ⟨p1, 1, none⟩ (.int .i64 l) := ⟨_, rfl⟩
  rw [← hW2]
  have BX2 : Hid (BoxAt W2 p1 1 l z (.slice (some ⟨g1, 0, none⟩) 5 c1) (.slice none 0 0)) := Lib.hid (by rw [hW2]; exact (BX1.out.set2 z).set1 l)
  have HB2 : Hid (Below w.heap.size w W2) := Lib.hid (by rw [hW2]; exact (HB1.out.setCell hgp.out.2.2 _).setCell hgp.out.2.2 _)
  have HO2 : Hid (IOwn W2 w.heap.size (.slice (some ⟨g1, 0, none⟩) 5 c1) [0, 0, 0, 0, 0]) := Lib.hid (own_keep HO1.out fun g e => by
    have : g ≠ p1 := by have := hgp.out; cases e; show g1 ≠ p1; omega
    rw [hW2, Below.heap_setCell _ _ _ _ this, Below.heap_setCell _ _ _ _ this])
  clear hW2 r0 r1 r2 r3 r4 f1 f2 HB1 HO1 BX1
  obtain ⟨r0, r1, r2, r3, r4⟩ := BX2.out.cells
  obtain ⟨t0, t1⟩ := HO2.out.at q (by simpa using hq5)
  go_upto_region 7 with (fail)
  obtain ⟨V, hV⟩ : ∃ X, X = W2.setCell ⟨g1, q, none⟩ (.int .i64 s) := ⟨_, rfl⟩
  rw [← hV]
  have BX3 : Hid (BoxAt V p1 1 l z (.slice (some ⟨g1, 0, none⟩) 5 c1) (.slice none 0 0)) := Lib.hid (by rw [hV]; exact BX2.out.other (by have := hgp.out; omega))
  have HB3 : Hid (Below w.heap.size w V) := Lib.hid (by rw [hV]; exact HB2.out.setCell hgp.out.1 _)
  have HO3 : Hid (IOwn V w.heap.size (.slice (some ⟨g1, 0, none⟩) 5 c1) ([0, 0, 0, 0, 0].set q s)) := Lib.hid (by rw [hV]; exact HO2.out.set q s)
  have HMB : Hid (mayNd ⟨1, l, z, [0, 0, 0, 0, 0].set q s, []⟩ = _) := Lib.hid (may_bounds hq5)
  have HSQ : Hid (([0, 0, 0, 0, 0].set q s : List Int).length = 5) := Lib.hid (by simp)
  obtain ⟨SQ, hSQ⟩ : ∃ SQ, ([0, 0, 0, 0, 0].set q s : List Int) = SQ := ⟨_, rfl⟩
  rw [hSQ] at HO3 HSQ HMB
  obtain ⟨OK, hOK⟩ : ∃ b, mayNd ⟨1, l, z, SQ, []⟩ = b := ⟨_, rfl⟩
  have HMay := Lib.hid hOK
  rw [hOK] at HMB
  clear hV hSQ hOK r0 r1 r2 r3 r4 t0 t1 HB2 HO2 BX2
  go_cut [10] from 31 to 62 (fun v10 wx => v10 = .bool OK ∧ wx = V)
  case first =>
    obtain ⟨x1, h1⟩ : ∃ x, decide (0 ≤ z) = x := ⟨_, rfl⟩
    obtain ⟨x2, h2⟩ : ∃ x, decide (z ≤ 80) = x := ⟨_, rfl⟩
    obtain ⟨x3, h3⟩ : ∃ x, decide (0 ≤ l) = x := ⟨_, rfl⟩
    obtain ⟨x4, h4⟩ : ∃ x, decide (l ≤ 120) = x := ⟨_, rfl⟩
    obtain ⟨x5, h5⟩ : ∃ x, decide (0 ≤ s) = x := ⟨_, rfl⟩
    obtain ⟨x6, h6⟩ : ∃ x, decide (s ≤ 1099511627776) = x := ⟨_, rfl⟩
    obtain ⟨x7, h7⟩ : ∃ x, (s == 0) = x := ⟨_, rfl⟩
    obtain ⟨x8, h8⟩ : ∃ x, decide ((q : Int) * 16 < z) = x := ⟨_, rfl⟩
    have h7' : decide (s = 0) = x7 := h7
    have HOK : Hid (OK = (x1 && x2 && x3 && x4 && x5 && x6 && (x7 || x8))) := Lib.hid (by rw [HMB.out, h1, h2, h3, h4, h5, h6, h7', h8])
    have hw : IntKind.i64.wrap ((q : Int) * 16) = (q : Int) * 16 := i64w_idE _ (by omega)
    clear h7'
    cases x1 with
    | false =>
      go_wp2_with fail
      go_meet
      case rel => exact ⟨by rw [HOK.out]; rfl, rfl⟩
    | true =>
    cases x2 with
    | false =>
      go_wp2_with fail
      go_meet
      case rel => exact ⟨by rw [HOK.out]; rfl, rfl⟩
    | true =>
    cases x3 with
    | false =>
      go_wp2_with fail
      go_meet
      case rel => exact ⟨by rw [HOK.out]; rfl, rfl⟩
    | true =>
    cases x4 with
    | false =>
      go_wp2_with fail
      go_meet
      case rel => exact ⟨by rw [HOK.out]; rfl, rfl⟩
    | true =>
    cases x5 with
    | false =>
      go_wp2_with fail
      go_meet
      case rel => exact ⟨by rw [HOK.out]; rfl, rfl⟩
    | true =>
    cases x6 with
    | false =>
      go_wp2_with fail
      go_meet
      case rel => exact ⟨by rw [HOK.out]; rfl, rfl⟩
    | true =>
    cases x7 with
    | true =>
      go_wp2_with fail
      go_meet
      case rel => exact ⟨by rw [HOK.out]; rfl, rfl⟩
    | false =>
    cases x8
    all_goals
      go_wp2_with fail
      go_meet
      case rel => exact ⟨by rw [HOK.out]; rfl, rfl⟩
  case rest =>
  obtain ⟨rfl, hwx⟩ := hcut
  rw [hwx]
  clear HMB hwx
  have hp1V : Hid (p1 < V.heap.size) := Lib.hid (lt_size BX3.out)
  have HN : Hid (∀ w1, Below V.heap.size V w1 → NLies w1 ⟨1, l, z, SQ, []⟩ (some ⟨g1, 0, none⟩) none c1 0) := Lib.hid fun w1 hb => by
    have h5 := HSQ.out
    have := nlies_own (n := ⟨1, l, z, SQ, []⟩) (A := some ⟨g1, 0, none⟩) (B := none) (c := c1) (d := 0) (w := V) (base := w.heap.size) (base' := 0) (by dsimp only; rw [h5]; exact HO3.out) (eown_nil _ _) (by unfold maxLen; dsimp only; omega) (by simp)
    exact this.below hb
  have HK : Hid (∀ w1, Below V.heap.size V w1 → BoxAt w1 p1 1 l z (.slice (some ⟨g1, 0, none⟩) 5 c1) (.slice none 0 0)) := Lib.hid fun w1 hb => BX3.out.below hb hp1V.out
  have HCP : Hid (∀ w1, NLies w1 ⟨1, l, z, SQ, []⟩ (some ⟨g1, 0, none⟩) none c1 0 → Calls Try.prog 20 #[.agg #[.int .i64 1, .int .i64 l, .int .i64 z, .slice (some ⟨g1, 0, none⟩) 5 c1, .slice none 0 0]] w1 fun e w' => ∃ g B' c' d', e = .returned (.agg #[.int .i64 1, .int .i64 l, .int .i64 z, .slice (some ⟨g, 0, none⟩) 5 c', .slice B' 0 d']) ∧ IOwn w' w1.heap.size (.slice (some ⟨g, 0, none⟩) 5 c') SQ ∧ EOwn w' w1.heap.size (.slice B' 0 d') [] ∧ Below w1.heap.size w1 w') := Lib.hid fun w1 h => copyf_any w1 1 l z SQ [] _ _ _ _ 5 0 HSQ (Lib.hid rfl) h (by omega) (by omega) (by omega)
  go_upto_region 8 with (fail)
  refine region_tail 6 (fun j v w' => match j with | 0 => v = .agg #[.int .i64 1, .int .i64 l, .int .i64 z, .slice (some ⟨g1, 0, none⟩) 5 c1, .slice none 0 0] | 1 => ∃ g2 B2 c2 d2, v = .agg #[.int .i64 1, .int .i64 l, .int .i64 z, .slice (some ⟨g2, 0, none⟩) 5 c2, .slice B2 0 d2] ∧ Res5 V w' SQ g2 B2 c2 d2 | 2 => v = .agg #[.int .i64 1, .int .i64 l, .int .i64 z, .slice (some ⟨g1, 0, none⟩) 5 c1, .slice none 0 0] | 3 => ∃ g3 B3 c3 d3, v = .agg #[.int .i64 1, .int .i64 l, .int .i64 z, .slice (some ⟨g3, 0, none⟩) 5 c3, .slice B3 0 d3] ∧ Res5 V w' SQ g3 B3 c3 d3 | 4 => ∃ p, v = .pointer (some ⟨p, 0, none⟩) ∧ NewBox V w' p (zeroN) 25 | 5 => ∃ q, v = .pointer (some ⟨q, 0, none⟩) ∧ NewBox V w' q (zeroN) 25 | _ => True) (fun vs w' => Below V.heap.size V w' ∧ Apart2 [1, 3, 4, 5] vs w') (fun w1 w2 => Below w1.heap.size w1 w2) (by kernel_rfl) (by kernel_rfl) (by kernel_rfl) (by kernel_rfl) (by kernel_rfl) (by kernel_rfl) ?hR ?hG ?hops ?hend
  case hR =>
    intro j v w1 w2 hv hb
    match j, hv with
    | 0, hv => exact hv
    | 1, ⟨g2, B2, c2, d2, e, h⟩ => exact ⟨g2, B2, c2, d2, e, h.below hb⟩
    | 2, hv => exact hv
    | 3, ⟨g3, B3, c3, d3, e, h⟩ => exact ⟨g3, B3, c3, d3, e, h.below hb⟩
    | 4, ⟨p, e, h⟩ => exact ⟨p, e, h.below hb⟩
    | 5, ⟨q, e, h⟩ => exact ⟨q, e, h.below hb⟩
    | _ + 6, _ => exact trivial
  case hG => exact ⟨(Below.refl _ _).drew, Apart2.start (by intro i hi; simp only [List.mem_cons, List.not_mem_nil, or_false] at hi; rcases hi with rfl | rfl | rfl | rfl <;> rfl)⟩
  case hops =>
    refine OpsOkS.cons ?o0 (OpsOkS.cons ?o1 (OpsOkS.cons ?o2 (OpsOkS.cons ?o3 (OpsOkS.cons ?o4 (OpsOkS.cons ?o5 OpsOkS.nil)))))
    case o0 =>
      intro a w1 Kx hG need old hsz fresh hKx
      have e0 : a.tmps[9]?.getD undef = .pointer (some ⟨p1, 0, none⟩) := by rw [← Array.getD_eq_getD_getElem?]; exact old 9 (by kernel_rfl)
      obtain ⟨j0, j1, j2, j3, j4⟩ := (HK.out w1 hG.1).cells
      refine op_value (v := .agg #[.int .i64 1, .int .i64 l, .int .i64 z, .slice (some ⟨g1, 0, none⟩) 5 c1, .slice none 0 0]) (wanted_none rfl) ?_ (hKx _ w1 rfl ⟨hG.1, hG.2.keep (by decide) (Nat.le_refl _)⟩ (Below.refl _ _))
      simp [execOp, go_sem, e0, j0, j1, j2, j3, j4]
    case o1 =>
      intro a w1 Kx hG need old hsz fresh hKx
      have e0 : a.tmps[63]?.getD undef = .agg #[.int .i64 1, .int .i64 l, .int .i64 z, .slice (some ⟨g1, 0, none⟩) 5 c1, .slice none 0 0] := by rw [← Array.getD_eq_getD_getElem?]; exact (need 0 (by kernel_rfl) (by kernel_rfl))
      refine op_call (wanted_none rfl) (f := 20) (args := #[.agg #[.int .i64 1, .int .i64 l, .int .i64 z, .slice (some ⟨g1, 0, none⟩) 5 c1, .slice none 0 0]]) ?run ((HCP.out w1 (HN.out w1 hG.1)).mono ?post)
      case run => simp [go_sem, e0]
      case post =>
        rintro e w2 ⟨g2, B2, c2, d2, rfl, h1, h2, hb2⟩
        exact ⟨_, rfl, hKx _ w2 ⟨g2, B2, c2, d2, rfl, ⟨own_base h1 hG.1.size, own_base h2 hG.1.size⟩⟩ ⟨hG.1.trans (hb2.mono hG.1.size), hG.2.new hb2.size (own_copy h1 h2)⟩ hb2⟩
    case o2 =>
      intro a w1 Kx hG need old hsz fresh hKx
      have e0 : a.tmps[9]?.getD undef = .pointer (some ⟨p1, 0, none⟩) := by rw [← Array.getD_eq_getD_getElem?]; exact old 9 (by kernel_rfl)
      obtain ⟨j0, j1, j2, j3, j4⟩ := (HK.out w1 hG.1).cells
      refine op_value (v := .agg #[.int .i64 1, .int .i64 l, .int .i64 z, .slice (some ⟨g1, 0, none⟩) 5 c1, .slice none 0 0]) (wanted_none rfl) ?_ (hKx _ w1 rfl ⟨hG.1, hG.2.keep (by decide) (Nat.le_refl _)⟩ (Below.refl _ _))
      simp [execOp, go_sem, e0, j0, j1, j2, j3, j4]
    case o3 =>
      intro a w1 Kx hG need old hsz fresh hKx
      have e0 : a.tmps[65]?.getD undef = .agg #[.int .i64 1, .int .i64 l, .int .i64 z, .slice (some ⟨g1, 0, none⟩) 5 c1, .slice none 0 0] := by rw [← Array.getD_eq_getD_getElem?]; exact (need 2 (by kernel_rfl) (by kernel_rfl))
      refine op_call (wanted_none rfl) (f := 20) (args := #[.agg #[.int .i64 1, .int .i64 l, .int .i64 z, .slice (some ⟨g1, 0, none⟩) 5 c1, .slice none 0 0]]) ?run ((HCP.out w1 (HN.out w1 hG.1)).mono ?post)
      case run => simp [go_sem, e0]
      case post =>
        rintro e w2 ⟨g3, B3, c3, d3, rfl, h1, h2, hb2⟩
        exact ⟨_, rfl, hKx _ w2 ⟨g3, B3, c3, d3, rfl, ⟨own_base h1 hG.1.size, own_base h2 hG.1.size⟩⟩ ⟨hG.1.trans (hb2.mono hG.1.size), hG.2.new hb2.size (own_copy h1 h2)⟩ hb2⟩
    case o4 =>
      intro a w1 Kx hG need old hsz fresh hKx
      refine op_value (v := .pointer (some ⟨w1.heap.size, 0, none⟩)) (wanted_none rfl) ?_ (hKx _ (w1.alloc (.cells (zeroN) 25)) ⟨w1.heap.size, rfl, ⟨hG.1.size, heap_alloc_new _ _⟩⟩ ⟨hG.1.alloc hG.1.size _, hG.2.alloc _⟩ ((Below.refl _ _).alloc (Nat.le_refl _) _))
      simp [execOp, go_sem]
    case o5 =>
      intro a w1 Kx hG need old hsz fresh hKx
      refine op_value (v := .pointer (some ⟨w1.heap.size, 0, none⟩)) (wanted_none rfl) ?_ (hKx _ (w1.alloc (.cells (zeroN) 25)) ⟨w1.heap.size, rfl, ⟨hG.1.size, heap_alloc_new _ _⟩⟩ ⟨hG.1.alloc hG.1.size _, hG.2.alloc _⟩ ((Below.refl _ _).alloc (Nat.le_refl _) _))
      simp [execOp, go_sem]
  case hend =>
    intro a w6 hG hde hsz hφ hold
    obtain ⟨g2_1, B2_1, c2_1, d2_1, hv_1, hp_1⟩ := hφ 1 (by decide)
    obtain ⟨g3_3, B3_3, c3_3, d3_3, hv_3, hp_3⟩ := hφ 3 (by decide)
    obtain ⟨p_4, hv_4, hp_4⟩ := hφ 4 (by decide)
    obtain ⟨q_5, hv_5, hp_5⟩ := hφ 5 (by decide)
    have ap13 := hG.2.ne 1 (by decide) 3 (by decide) (by decide)
    rw [hv_1, hv_3] at ap13
    have ap14 := hG.2.ne 1 (by decide) 4 (by decide) (by decide)
    rw [hv_1, hv_4] at ap14
    have ap15 := hG.2.ne 1 (by decide) 5 (by decide) (by decide)
    rw [hv_1, hv_5] at ap15
    have ap34 := hG.2.ne 3 (by decide) 4 (by decide) (by decide)
    rw [hv_3, hv_4] at ap34
    have ap35 := hG.2.ne 3 (by decide) 5 (by decide) (by decide)
    rw [hv_3, hv_5] at ap35
    have ap45 := hG.2.ne 4 (by decide) 5 (by decide) (by decide)
    rw [hv_4, hv_5] at ap45
    obtain rfl := act_puts [(63, .agg #[.int .i64 1, .int .i64 l, .int .i64 z, .slice (some ⟨g1, 0, none⟩) 5 c1, .slice none 0 0]), (64, .agg #[.int .i64 1, .int .i64 l, .int .i64 z, .slice (some ⟨g2_1, 0, none⟩) 5 c2_1, .slice B2_1 0 d2_1]), (65, .agg #[.int .i64 1, .int .i64 l, .int .i64 z, .slice (some ⟨g1, 0, none⟩) 5 c1, .slice none 0 0]), (66, .agg #[.int .i64 1, .int .i64 l, .int .i64 z, .slice (some ⟨g3_3, 0, none⟩) 5 c3_3, .slice B3_3 0 d3_3]), (11, .pointer (some ⟨p_4, 0, none⟩)), (12, .pointer (some ⟨q_5, 0, none⟩))] [63, 64, 65, 66, 11, 12] rfl (by kernel_rfl) (by kernel_rfl) hde hsz (List.forall_mem_cons.2 ⟨(show a.tmps.getD 63 undef = .agg #[.int .i64 1, .int .i64 l, .int .i64 z, .slice (some ⟨g1, 0, none⟩) 5 c1, .slice none 0 0] from (hφ 0 (by decide))), (List.forall_mem_cons.2 ⟨(show a.tmps.getD 64 undef = .agg #[.int .i64 1, .int .i64 l, .int .i64 z, .slice (some ⟨g2_1, 0, none⟩) 5 c2_1, .slice B2_1 0 d2_1] from hv_1), (List.forall_mem_cons.2 ⟨(show a.tmps.getD 65 undef = .agg #[.int .i64 1, .int .i64 l, .int .i64 z, .slice (some ⟨g1, 0, none⟩) 5 c1, .slice none 0 0] from (hφ 2 (by decide))), (List.forall_mem_cons.2 ⟨(show a.tmps.getD 66 undef = .agg #[.int .i64 1, .int .i64 l, .int .i64 z, .slice (some ⟨g3_3, 0, none⟩) 5 c3_3, .slice B3_3 0 d3_3] from hv_3), (List.forall_mem_cons.2 ⟨(show a.tmps.getD 11 undef = .pointer (some ⟨p_4, 0, none⟩) from hv_4), (List.forall_mem_cons.2 ⟨(show a.tmps.getD 12 undef = .pointer (some ⟨q_5, 0, none⟩) from hv_5), (fun _ h => absurd h (by simp))⟩)⟩)⟩)⟩)⟩)⟩) hold
    clear hφ hold hsz hde hv_1 hv_3 hv_4 hv_5
    simp only [putAll]
    simp only [List.drop_succ_cons, List.drop_zero]
    obtain ⟨hG, -⟩ := hG
    go_frame
    have hpq : p_4 ≠ q_5 := fun e => ap45 p_4 (vblks_ptr.2 rfl) (vblks_ptr.2 e)
    have hqp : q_5 ≠ p_4 := fun e => hpq e.symm
    have BP := Lib.hid hp_4.box
    have BQ := Lib.hid hp_5.box
    refine wpList_store_box 11 64 p_4 rfl rfl rfl rfl rfl BP.out fun w7 hb7 hk7 hz7 ho7 ht7 hu7 => ?_
    refine wpList_store_box 12 66 q_5 rfl rfl rfl rfl rfl ((hk7 _ hqp).trans BQ.out) fun w8 hb8 hk8 hz8 ho8 ht8 hu8 => ?_
    have HXW : Hid (∀ b, b ≠ p_4 → b ≠ q_5 → w8.heap[b]? = w6.heap[b]?) := Lib.hid fun b h1 h2 => (hk8 b h2).trans (hk7 b h1)
    have hnew := hp_4.new
    have hnew2 := hp_5.new
    have HG8 : Hid (Below V.heap.size V w8) := Lib.hid ⟨by rw [ho8, ho7]; exact hG.os, by rw [ht8, ht7]; exact hG.tape, by rw [hu8, hu7]; exact hG.output, by rw [hz8, hz7]; exact hG.size, fun b hb => (HXW.out b (by omega) (by omega)).trans (hG.block b hb)⟩
    have BP8 : Hid (BoxAt w8 p_4 1 l z (.slice (some ⟨g2_1, 0, none⟩) 5 c2_1) (.slice B2_1 0 d2_1)) := Lib.hid ((hk8 _ hpq).trans hb7)
    have BQ8 : Hid (BoxAt w8 q_5 1 l z (.slice (some ⟨g3_3, 0, none⟩) 5 c3_3) (.slice B3_3 0 d3_3)) := Lib.hid hb8
    have C1 : Hid (Res5 V w8 SQ g2_1 B2_1 c2_1 d2_1) := Lib.hid (hp_1.keep (fun g e => HXW.out g (fun h => ap14 g (vblks_node.2 (.inl e)) (vblks_ptr.2 h)) (fun h => ap15 g (vblks_node.2 (.inl e)) (vblks_ptr.2 h))) (fun g e => HXW.out g (fun h => ap14 g (vblks_node.2 (.inr e)) (vblks_ptr.2 h)) (fun h => ap15 g (vblks_node.2 (.inr e)) (vblks_ptr.2 h))))
    have C2 : Hid (Res5 V w8 SQ g3_3 B3_3 c3_3 d3_3) := Lib.hid (hp_3.keep (fun g e => HXW.out g (fun h => ap34 g (vblks_node.2 (.inl e)) (vblks_ptr.2 h)) (fun h => ap35 g (vblks_node.2 (.inl e)) (vblks_ptr.2 h))) (fun g e => HXW.out g (fun h => ap34 g (vblks_node.2 (.inr e)) (vblks_ptr.2 h)) (fun h => ap35 g (vblks_node.2 (.inr e)) (vblks_ptr.2 h))))
    have HAP : Hid (g2_1 ≠ p_4 ∧ g2_1 ≠ q_5 ∧ g3_3 ≠ p_4 ∧ g3_3 ≠ q_5 ∧ g2_1 ≠ g3_3) := Lib.hid ⟨fun h => ap14 g2_1 (vblks_node.2 (.inl rfl)) (vblks_ptr.2 h), fun h => ap15 g2_1 (vblks_node.2 (.inl rfl)) (vblks_ptr.2 h), fun h => ap34 g3_3 (vblks_node.2 (.inl rfl)) (vblks_ptr.2 h), fun h => ap35 g3_3 (vblks_node.2 (.inl rfl)) (vblks_ptr.2 h), fun h => ap13 g2_1 (vblks_node.2 (.inl rfl)) (by rw [h]; exact vblks_node.2 (.inl rfl))⟩
    have HPQ : Hid (V.heap.size ≤ p_4 ∧ V.heap.size ≤ q_5 ∧ p_4 < w8.heap.size ∧ q_5 < w8.heap.size ∧ V.heap.size ≤ g2_1 ∧ p_4 ≠ q_5) := Lib.hid ⟨hnew, hnew2, lt_size BP8.out, lt_size BQ8.out, (C1.out.i.lt g2_1 rfl).1, hpq⟩
    have hbu : Hid (∀ b, (Value.slice B2_1 0 d2_1).ownBlock = some b → b ≠ p_4 ∧ b ≠ q_5) := Lib.hid fun b e => ⟨fun h => ap14 b (vblks_node.2 (.inr e)) (vblks_ptr.2 h), fun h => ap15 b (vblks_node.2 (.inr e)) (vblks_ptr.2 h)⟩
    clear hG hb7 hk7 hz7 ho7 ht7 hu7 hb8 hk8 hz8 ho8 ht8 hu8 hnew hnew2 hp_1 hp_3 hp_4 hp_5 ap13 ap14 ap15 ap34 ap35 ap45 hpq hqp BP BQ HXW HCP
    obtain ⟨s0, s1, s2, s3, s4⟩ := BP8.out.cells
    have HBL := Lib.hid ((Below.refl w8.heap.size w8).alloc (Nat.le_refl _) (.cells #[.int .i64 0] 3))
    have HZL : Hid (ILies (w8.alloc (.cells #[.int .i64 0] 3)) (some ⟨w8.heap.size, 0, none⟩) [0]) := Lib.hid (by
      intro _
      have hn := heap_alloc_new w8 (.cells #[.int .i64 0] 3)
      refine ⟨_, 0, rfl, lt_size hn, fun j hj => ?_⟩
      obtain rfl : j = 0 := by simpa using hj
      generalize w8.alloc _ = W at hn ⊢
      simp [World.cell?, hn])
    have HIO : Hid (IOwn (w8.alloc (.cells #[.int .i64 0] 3)) V.heap.size (.slice (some ⟨g2_1, 0, none⟩) 5 c2_1) SQ) := Lib.hid (own_keep C1.out.i fun g e => HBL.out.block g (C1.out.i.lt g e).2)
    have HVL : Hid (V.heap.size ≤ (w8.alloc (.cells #[.int .i64 0] 3)).heap.size) := Lib.hid (Nat.le_trans HG8.out.size HBL.out.size)
    have e6 : SQ.length + [(0 : Int)].length = 6 := by rw [HSQ.out]; rfl
    have E6 := Lib.hid e6
    clear e6
    go_upto_region 10 with (first
      | (at_builtin; refine wpList_iapp rfl _ _ rfl V.heap.size (.slice (some ⟨g2_1, 0, none⟩) 5 c2_1) SQ [0] _ _ rfl rfl HIO.out HZL.out (fun e => by cases e) (by rw [E6.out]; omega) HVL.out ?_; intro q2 cap2 w9 hown hgr; rw [E6.out] at hown ⊢; have HO9 := Lib.hid hown; have HB9 := Lib.hid hgr; have BP9 : Hid (BoxAt w9 p_4 1 l z (.slice (some ⟨g2_1, 0, none⟩) 5 c2_1) (.slice B2_1 0 d2_1)) := Lib.hid ((HB9.out.block p_4 (Nat.lt_of_lt_of_le HPQ.out.2.2.1 HBL.out.size) (fun e => by cases e; exact HAP.out.1 rfl)).trans (BP8.out.below HBL.out HPQ.out.2.2.1)); have u3 := BP9.out.cells.2.2.2.1; have f3 := BP9.out.frozen 3; clear hown hgr)
      | fail)
    obtain ⟨W10, hW10⟩ : ∃ X, X = w9.setCell ⟨p_4, 3, none⟩ (.slice q2 6 cap2) := ⟨_, rfl⟩
    rw [← hW10]
    have hk10 : Hid (∀ b, b < w8.heap.size → b ≠ g2_1 → b ≠ p_4 → W10.heap[b]? = w8.heap[b]?) := Lib.hid fun b h1 h2 h3 => by
      rw [hW10, Below.heap_setCell _ _ _ _ h3]
      exact (HB9.out.block b (Nat.lt_of_lt_of_le h1 HBL.out.size) (fun e => by cases e; exact h2 rfl)).trans (HBL.out.block b h1)
    have BP10 : Hid (BoxAt W10 p_4 1 l z (.slice q2 6 cap2) (.slice B2_1 0 d2_1)) := Lib.hid (by rw [hW10]; exact BP9.out.set3 _)
    have BQ10 : Hid (BoxAt W10 q_5 1 l z (.slice (some ⟨g3_3, 0, none⟩) 5 c3_3) (.slice B3_3 0 d3_3)) := Lib.hid ((hk10.out q_5 HPQ.out.2.2.2.1 (Ne.symm HAP.out.2.1) (Ne.symm HPQ.out.2.2.2.2.2)).trans BQ8.out)
    have HO10 : Hid (IOwn W10 V.heap.size (.slice q2 6 cap2) (SQ ++ [0])) := Lib.hid (own_keep HO9.out fun g e => by
      rw [hW10]
      exact Below.heap_setCell _ _ _ _ (fun h => own_not_box HO9.out BP9.out (by rw [e, h])))
    have HI10 : Hid (IOwn W10 V.heap.size (.slice (some ⟨g3_3, 0, none⟩) 5 c3_3) SQ) := Lib.hid (own_keep C2.out.i fun g e => hk10.out g (C2.out.i.lt g e).2 (by cases e; exact Ne.symm HAP.out.2.2.2.2) (by cases e; exact HAP.out.2.2.1))
    have HG10 : Hid (Below V.heap.size V W10) := Lib.hid (by
      have h1 := (HG8.out.trans (HBL.out.mono HG8.out.size)).grown HB9.out HVL.out (fun k e => by cases e; exact HPQ.out.2.2.2.2.1)
      rw [hW10]
      exact h1.setCell HPQ.out.1 _)
    have HE10 := Lib.hid C1.out.e
    clear hW10 HBL HZL HIO HVL E6 s0 s1 s2 s3 s4 u3 f3 HO9 HB9 BP9 BP8 BQ8 C1 C2 HG8 hk10
    have hq10 : q_5 < W10.heap.size := lt_size BQ10.out
    have HQ10 := Lib.hid hq10
    have u4 := BQ10.out.cells.2.2.2.2
    have f4 := BQ10.out.frozen 4
    have HBL := Lib.hid ((Below.refl W10.heap.size W10).alloc (Nat.le_refl _) (.cells #[.string ⟨#[97]⟩, .int .i64 1] 38))
    have HEL := Lib.hid (eown_one_at W10 (⟨#[97]⟩, 1) rfl)
    go_upto_region 11 with (fail)
    obtain ⟨U, hU⟩ : ∃ X, X = W10.setCell ⟨q_5, 4, none⟩ (.slice (some ⟨W10.heap.size, 0, none⟩) 1 1) := ⟨_, rfl⟩
    have hUz : W10.heap.size = U.heap.size := by rw [hU]; simp
    have BQU : Hid (BoxAt U q_5 1 l z (.slice (some ⟨g3_3, 0, none⟩) 5 c3_3) (.slice (some ⟨W10.heap.size, 0, none⟩) 1 1)) := Lib.hid (by rw [hU]; exact BQ10.out.set4 _)
    have BPU : Hid (BoxAt U p_4 1 l z (.slice q2 6 cap2) (.slice B2_1 0 d2_1)) := Lib.hid (by rw [hU]; exact BP10.out.other HPQ.out.2.2.2.2.2)
    have HOU : Hid (IOwn U V.heap.size (.slice q2 6 cap2) (SQ ++ [0])) := Lib.hid (own_keep HO10.out fun g e => by
      rw [hU]
      exact Below.heap_setCell _ _ _ _ (fun h => own_not_box HO10.out BQ10.out (by rw [e, h])))
    have HIU : Hid (IOwn U V.heap.size (.slice (some ⟨g3_3, 0, none⟩) 5 c3_3) SQ) := Lib.hid (own_keep HI10.out fun g e => by
      rw [hU]
      exact Below.heap_setCell _ _ _ _ (by cases e; exact HAP.out.2.2.2.1))
    have HGU : Hid (Below V.heap.size V U) := Lib.hid (by rw [hU]; exact HG10.out.setCell HPQ.out.2.1 _)
    rw [← hU]
    obtain ⟨b, hb⟩ : ∃ b, b = W10.heap.size := ⟨_, rfl⟩
    rw [← hb] at BQU hUz ⊢
    obtain ⟨X, hX⟩ : ∃ X, X = U.alloc (.cells #[.string ⟨#[97]⟩, .int .i64 1] 38) := ⟨_, rfl⟩
    have HEX : Hid (ELies X (some ⟨b, 0, none⟩) [(⟨#[97]⟩, 1)]) := Lib.hid (by rw [hX]; exact eown_one_at U (⟨#[97]⟩, 1) hUz)
    have HUX : Hid (Below U.heap.size U X) := Lib.hid (by rw [hX]; exact (Below.refl _ _).alloc (Nat.le_refl _) _)
    rw [← hX]
    clear hX hb hU hUz BQ10 BP10 HO10 HI10 HG10 HBL HEL u4 f4 hq10 HQ10
    have HGX : Hid (Below V.heap.size V X) := Lib.hid (HGU.out.trans (HUX.out.mono HGU.out.size))
    have HNM : Hid (NLies X ⟨1, l, z, SQ ++ [0], []⟩ q2 B2_1 cap2 d2_1) := Lib.hid (by
      have h5 := HSQ.out
      have h6 : (SQ ++ [(0 : Int)]).length = 6 := by rw [List.length_append, h5]; rfl
      have hI := HOU.out.lies
      refine NLies.below ⟨hI.1, .nil _ _, (fun e => ?_), (fun e => ⟨rfl, own_none HE10.out e⟩), by dsimp only; rw [h6]; exact hI.2.2.2.1, by simp, by unfold maxLen; dsimp only; omega, by simp⟩ HUX.out
      have h1 := hI.2.2.2.2 e
      have h2 := hI.2.2.2.1
      omega)
    have HNK : Hid (NLies X ⟨1, l, z, SQ, [(⟨#[97]⟩, 1)]⟩ (some ⟨g3_3, 0, none⟩) (some ⟨b, 0, none⟩) c3_3 1) := Lib.hid (by
      have h5 := HSQ.out
      have hI := HIU.out.lies
      exact ⟨hI.1.below HUX.out, HEX.out, (fun e => by cases e), (fun e => by cases e), by dsimp only; rw [h5]; exact hI.2.2.2.1, by simp, by unfold maxLen; dsimp only; omega, by unfold maxLen; simp⟩)
    have HM0 : Hid (∀ w1, Below X.heap.size X w1 → Calls Try.prog 12 #[.agg #[.int .i64 1, .int .i64 l, .int .i64 z, .slice (some ⟨g1, 0, none⟩) 5 c1, .slice none 0 0]] w1 fun x w' => x = .returned (.bool OK) ∧ Below w1.heap.size w1 w') := Lib.hid fun w1 hb => by
      have := maynl_any _ _ _ _ _ w1 (HN.out w1 (HGX.out.trans (hb.mono HGX.out.size)))
      rw [HMay.out] at this
      dsimp only [ndV] at this
      rwa [HSQ.out] at this
    have HMM : Hid (∀ w1, Below X.heap.size X w1 → Calls Try.prog 12 #[.agg #[.int .i64 1, .int .i64 l, .int .i64 z, .slice q2 6 cap2, .slice B2_1 0 d2_1]] w1 fun x w' => x = .returned (.bool false) ∧ Below w1.heap.size w1 w') := Lib.hid fun w1 hb => by
      have h6 : (SQ ++ [(0 : Int)]).length = 6 := by rw [List.length_append, HSQ.out]; rfl
      have := maynl_any _ _ _ _ _ w1 (HNM.out.below hb)
      rw [may_long (by dsimp only; omega)] at this
      dsimp only [ndV] at this
      rwa [h6] at this
    have HMK : Hid (∀ w1, Below X.heap.size X w1 → Calls Try.prog 12 #[.agg #[.int .i64 1, .int .i64 l, .int .i64 z, .slice (some ⟨g3_3, 0, none⟩) 5 c3_3, .slice (some ⟨b, 0, none⟩) 1 1]] w1 fun x w' => x = .returned (.bool false) ∧ Below w1.heap.size w1 w') := Lib.hid fun w1 hb => by
      have := maynl_any _ _ _ _ _ w1 (HNK.out.below hb)
      rw [may_named rfl (by simp)] at this
      dsimp only [ndV] at this
      rwa [HSQ.out] at this
    have HM3 : Hid (∀ w1, Calls Try.prog 12 #[.agg #[.int .i64 3, .int .i64 0, .int .i64 0, .slice none 0 0, .slice none 0 0]] w1 fun x w' => x = .returned (.bool false) ∧ Below w1.heap.size w1 w') := Lib.hid fun w1 => by
      have := maynl_any ⟨3, 0, 0, [], []⟩ none none 0 0 w1 (.plain _ _ _ _)
      rwa [may_kind rfl] at this
    have HM1 : Hid (∀ w1, Calls Try.prog 12 #[.agg #[.int .i64 0, .int .i64 0, .int .i64 1, .slice none 0 0, .slice none 0 0]] w1 fun x w' => x = .returned (.bool false) ∧ Below w1.heap.size w1 w') := Lib.hid fun w1 => by
      have := maynl_any ⟨0, 0, 1, [], []⟩ none none 0 0 w1 (.plain _ _ _ _)
      rwa [may_size1] at this
    have HKX : Hid (∀ w1, Below X.heap.size X w1 → BoxAt w1 p1 1 l z (.slice (some ⟨g1, 0, none⟩) 5 c1) (.slice none 0 0) ∧ BoxAt w1 p_4 1 l z (.slice q2 6 cap2) (.slice B2_1 0 d2_1) ∧ BoxAt w1 q_5 1 l z (.slice (some ⟨g3_3, 0, none⟩) 5 c3_3) (.slice (some ⟨b, 0, none⟩) 1 1)) := Lib.hid fun w1 hb => ⟨HK.out _ (HGX.out.trans (hb.mono HGX.out.size)), (BPU.out.below HUX.out (lt_size BPU.out)).below hb (Nat.lt_of_lt_of_le (lt_size BPU.out) HUX.out.size), (BQU.out.below HUX.out (lt_size BQU.out)).below hb (Nat.lt_of_lt_of_le (lt_size BQU.out) HUX.out.size)⟩
    clear HNM HNK HN HK HOU HIU HGU HEX BQU BPU HUX HE10 HMay
    have hvv := fun w => bool_same OK w
    obtain ⟨x1, x2, x3⟩ := HKX.out X (Below.refl _ _)
    obtain ⟨s0, s1, s2, s3, s4⟩ := x1.cells
    obtain ⟨s0, s1, s2, s3, s4⟩ := x2.cells
    obtain ⟨s0, s1, s2, s3, s4⟩ := x3.cells
    clear x1 x2 x3
    go_wp2_with (first
      | (go_at_call 12; (with_reducible refine (HM0.out _ (Below.refl _ _)).mono ?_); rintro e w11 ⟨rfl, hb11⟩; replace hb11 := Lib.hid ((Below.refl X.heap.size X).trans (hb11.mono (Below.refl X.heap.size X).size)); obtain ⟨x1, x2, x3⟩ := HKX.out _ hb11.out; obtain ⟨s0, s1, s2, s3, s4⟩ := x1.cells; obtain ⟨s0, s1, s2, s3, s4⟩ := x2.cells; obtain ⟨s0, s1, s2, s3, s4⟩ := x3.cells; clear x1 x2 x3)
      | (go_at_call 12; (with_reducible refine (HMM.out _ hb11.out).mono ?_); rintro e w12 ⟨rfl, hb12⟩; replace hb12 := Lib.hid (hb11.out.trans (hb12.mono hb11.out.size)); obtain ⟨x1, x2, x3⟩ := HKX.out _ hb12.out; obtain ⟨s0, s1, s2, s3, s4⟩ := x1.cells; obtain ⟨s0, s1, s2, s3, s4⟩ := x2.cells; obtain ⟨s0, s1, s2, s3, s4⟩ := x3.cells; clear x1 x2 x3)
      | (go_at_call 12; (with_reducible refine (HMK.out _ hb12.out).mono ?_); rintro e w13 ⟨rfl, hb13⟩; replace hb13 := Lib.hid (hb12.out.trans (hb13.mono hb12.out.size)); obtain ⟨x1, x2, x3⟩ := HKX.out _ hb13.out; obtain ⟨s0, s1, s2, s3, s4⟩ := x1.cells; obtain ⟨s0, s1, s2, s3, s4⟩ := x2.cells; obtain ⟨s0, s1, s2, s3, s4⟩ := x3.cells; clear x1 x2 x3)
      | (go_at_call 12; (with_reducible refine (HM3.out _).mono ?_); rintro e w14 ⟨rfl, hb14⟩; replace hb14 := Lib.hid (hb13.out.trans (hb14.mono hb13.out.size)))
      | (go_at_call 12; (with_reducible refine (HM1.out _).mono ?_); rintro e w15 ⟨rfl, hb15⟩; replace hb15 := Lib.hid (hb14.out.trans (hb15.mono hb14.out.size)))
      | (go_at_call 9; (with_reducible refine (awake_any _).mono ?_); rintro e w20 ⟨rfl, hb20⟩; replace hb20 := Lib.hid (hb15.out.trans (hb20.mono hb15.out.size)))
      | fail)
    go_ret
    exact ⟨rfl, HB3.out.trans ((HGX.out.trans (hb20.out.mono HGX.out.size)).mono HB3.out.size)⟩
end Go.Proofs.Ytohiabkjbieflaa
