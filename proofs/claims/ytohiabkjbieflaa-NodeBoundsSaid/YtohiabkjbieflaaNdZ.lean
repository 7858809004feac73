/- NodeCopies: a copy is the same; the copy may be spoilt, the node is not (written by mknz.py). -/
import Derived.Test.YtohiabkjbieflaaNdY
import Derived.Test.YtohiabkjbieflaaRegT
import Derived.Test.YtohiabkjbieflaaNdSt
namespace Go.Proofs.Ytohiabkjbieflaa
open Go.RowKit Go.Lib

/-- What a copy's rows are: of the call's own. -/
structure CopyRes (w0 w : World) (sq : List Int) (en : List Ent) (A B : Option Addr) (c d : Nat) : Prop where
  i : IOwn w w0.heap.size (.slice A sq.length c) sq
  e : EOwn w w0.heap.size (.slice B en.length d) en
theorem CopyRes.below {w0 w w' : World} {sq : List Int} {en : List Ent} {A B : Option Addr} {c d : Nat} (h : CopyRes w0 w sq en A B c d) (hb : Below w.heap.size w w') : CopyRes w0 w' sq en A B c d :=
  ⟨own_keep h.i fun g e => hb.block g (h.i.lt g e).2, own_keep h.e fun g e => hb.block g (h.e.lt g e).2⟩
theorem CopyRes.keep {w0 w w' : World} {sq : List Int} {en : List Ent} {A B : Option Addr} {c d : Nat} (h : CopyRes w0 w sq en A B c d) (hi : ∀ g, (Value.slice A sq.length c).ownBlock = some g → w'.heap[g]? = w.heap[g]?) (he : ∀ g, (Value.slice B en.length d).ownBlock = some g → w'.heap[g]? = w.heap[g]?) : CopyRes w0 w' sq en A B c d :=
  ⟨own_keep h.i hi, own_keep h.e he⟩
theorem CopyRes.nlies {w0 w : World} {k l z : Int} {sq : List Int} {en : List Ent} {A B : Option Addr} {c d : Nat} (h : CopyRes w0 w sq en A B c d) (hs : sq.length ≤ 60) (ht : en.length ≤ 60) : NLies w ⟨k, l, z, sq, en⟩ A B c d :=
  nlies_own (n := ⟨k, l, z, sq, en⟩) h.i h.e (by unfold maxLen; dsimp only; omega) (by unfold maxLen; dsimp only; omega)
theorem vblks_node {b : Nat} {k l z : Int} {S T : Value} : b ∈ vblks (.agg #[.int .i64 k, .int .i64 l, .int .i64 z, S, T]) ↔ S.ownBlock = some b ∨ T.ownBlock = some b := by
  have e1 : (Value.int .i64 k).ownBlock = none := rfl
  have e2 : (Value.int .i64 l).ownBlock = none := rfl
  have e3 : (Value.int .i64 z).ownBlock = none := rfl
  simp [vblks, List.filterMap_cons, e1, e2, e3]
  cases S.ownBlock <;> cases T.ownBlock <;> simp [eq_comm]
theorem own_copy {w : World} {base : Nat} {k l z : Int} {sq : List Int} {en : List Ent} {S T : Value} (h1 : IOwn w base S sq) (h2 : EOwn w base T en) : ∀ b ∈ vblks (.agg #[.int .i64 k, .int .i64 l, .int .i64 z, S, T]), base ≤ b ∧ b < w.heap.size := fun b hb => by
  rcases vblks_node.1 hb with h | h
  · exact h1.lt b h
  · exact h2.lt b h
theorem vblks_ptr {b p : Nat} : b ∈ vblks (.pointer (some ⟨p, 0, none⟩)) ↔ b = p := by simp [vblks]
abbrev zeroN : Array Value := #[.int .i64 0, .int .i64 0, .int .i64 0, .slice none 0 0, .slice none 0 0]
theorem NewBox.box {w0 w : World} {p : Nat} (h : NewBox w0 w p zeroN 25) : BoxAt w p 0 0 0 (.slice none 0 0) (.slice none 0 0) := h.at_
theorem row_slot {w : World} {base size n cap g : Nat} {e : TypeId} {xs : List Value} (h : w.ownsRow base e size (.slice (some ⟨g, 0, none⟩) n cap) n xs) (j : Nat) (hj : j < n * size) : (∃ v, w.cell? ⟨g, j, none⟩ = some v) ∧ w.frozen? ⟨g, j, none⟩ = false := by
  refine ⟨?_, World.ownsRow.frozenAt h j⟩
  rcases h.2 with ⟨h', _⟩ | ⟨g', cap', cur, h', _, hg, hnc, _, hcs, _⟩
  · simp at h'
  · simp only [Value.slice.injEq, Option.some.injEq, Addr.mk.injEq, and_true, true_and] at h'
    obtain ⟨rfl, rfl⟩ := h'
    have hlt : j < cur.size := by
      rw [hcs]
      exact Nat.lt_of_lt_of_le hj (Nat.mul_le_mul_right size hnc)
    exact ⟨cur[j], by simp [World.cell?, hg, hlt]⟩
theorem row_where {w : World} {base size n cap : Nat} {e : TypeId} {A : Option Addr} {xs : List Value} (h : w.ownsRow base e size (.slice A n cap) n xs) (hn : 0 < n) : ∃ g, A = some ⟨g, 0, none⟩ := by
  rcases h.2 with ⟨h', h0⟩ | ⟨g', cap', cur, h', _⟩
  · omega
  · simp at h'
    exact ⟨g', h'.1⟩
theorem row_at {w : World} {base size n cap : Nat} {e : TypeId} {A : Option Addr} {xs : List Value} (h : w.ownsRow base e size (.slice A n cap) n xs) (hn : 0 < n) : ∃ g, A = some ⟨g, 0, none⟩ ∧ (Value.slice A n cap).ownBlock = some g ∧ ∀ j, j < n * size → (∃ v, w.cell? ⟨g, j, none⟩ = some v) ∧ w.frozen? ⟨g, j, none⟩ = false := by
  obtain ⟨g, rfl⟩ := row_where h hn
  exact ⟨g, rfl, rfl, fun j hj => row_slot h j hj⟩
theorem row_apart {w : World} {b1 b2 s1 s2 n1 n2 g : Nat} {e1 e2 : TypeId} {v1 v2 : Value} {xs ys : List Value} (h1 : w.ownsRow b1 e1 s1 v1 n1 xs) (h2 : w.ownsRow b2 e2 s2 v2 n2 ys) (hne : e1 ≠ e2) (hg : v1.ownBlock = some g) : v2.ownBlock ≠ some g := fun hg2 => by
  rcases h1.2 with ⟨rfl, _⟩ | ⟨g1, c1, u1, rfl, _, k1, _⟩
  · cases hg
  rcases h2.2 with ⟨rfl, _⟩ | ⟨g2, c2, u2, rfl, _, k2, _⟩
  · cases hg2
  cases hg
  cases hg2
  rw [k1] at k2
  simp at k2
  exact hne k2.2
/-- The law's state while the copy is spoilt: its box, the other copy's and its rows. -/
structure CS (V w : World) (k l z : Int) (sq : List Int) (en : List Ent) (p q : Nat) (A1 B1 A2 B2 : Option Addr) (c1 d1 c2 d2 : Nat) : Prop where
  bp : BoxAt w p k l z (.slice A1 sq.length c1) (.slice B1 en.length d1)
  bq : BoxAt w q k l z (.slice A2 sq.length c2) (.slice B2 en.length d2)
  r1 : ∃ xs, w.ownsRow V.heap.size 3 1 (.slice A1 sq.length c1) sq.length xs
  r2 : ∃ ys, w.ownsRow V.heap.size 38 2 (.slice B1 en.length d1) en.length ys
  cr : CopyRes V w sq en A2 B2 c2 d2
  hb : Below V.heap.size V w
theorem CS.below {V w w' : World} {k l z : Int} {sq : List Int} {en : List Ent} {p q : Nat} {A1 B1 A2 B2 : Option Addr} {c1 d1 c2 d2 : Nat} (h : CS V w k l z sq en p q A1 B1 A2 B2 c1 d1 c2 d2) (hb : Below w.heap.size w w') : CS V w' k l z sq en p q A1 B1 A2 B2 c1 d1 c2 d2 := by
  obtain ⟨xs, h1⟩ := h.r1
  obtain ⟨ys, h2⟩ := h.r2
  exact ⟨h.bp.below hb (lt_size h.bp), h.bq.below hb (lt_size h.bq), ⟨xs, own_keep h1 fun g e => hb.block g (h1.lt g e).2⟩, ⟨ys, own_keep h2 fun g e => hb.block g (h2.lt g e).2⟩, h.cr.below hb, h.hb.trans (hb.mono h.hb.size)⟩
theorem CS.set {V w : World} {k l z : Int} {sq : List Int} {en : List Ent} {p q : Nat} {A1 B1 A2 B2 : Option Addr} {c1 d1 c2 d2 : Nat} (h : CS V w k l z sq en p q A1 B1 A2 B2 c1 d1 c2 d2)
    (hap : ∀ g, (Value.slice A1 sq.length c1).ownBlock = some g ∨ (Value.slice B1 en.length d1).ownBlock = some g → g ≠ p ∧ g ≠ q ∧ V.heap.size ≤ g ∧ (Value.slice A2 sq.length c2).ownBlock ≠ some g ∧ (Value.slice B2 en.length d2).ownBlock ≠ some g)
    {g j : Nat} {v : Value} (hg : (Value.slice A1 sq.length c1).ownBlock = some g ∨ (Value.slice B1 en.length d1).ownBlock = some g) : CS V (w.setCell ⟨g, j, none⟩ v) k l z sq en p q A1 B1 A2 B2 c1 d1 c2 d2 := by
  obtain ⟨xs, h1⟩ := h.r1
  obtain ⟨ys, h2⟩ := h.r2
  obtain ⟨a1, a2, a3, a4, a5⟩ := hap g hg
  have other : ∀ b, b ≠ g → (w.setCell ⟨g, j, none⟩ v).heap[b]? = w.heap[b]? := fun b hb => Below.heap_setCell _ _ _ _ hb
  refine ⟨h.bp.other (Ne.symm a1), h.bq.other (Ne.symm a2), ?_, ?_, h.cr.keep (fun b e => other b (fun hb => a4 (hb ▸ e))) (fun b e => other b (fun hb => a5 (hb ▸ e))), h.hb.setCell a3 _⟩
  · by_cases e : (Value.slice A1 sq.length c1).ownBlock = some g
    · cases A1 with
      | none => cases e
      | some ad =>
        have hn : 0 < sq.length ∨ ¬ 0 < sq.length := Decidable.em _
        rcases h1.2 with ⟨h', _⟩ | ⟨g', cap', cur, h', _⟩
        · simp at h'
        · simp at h'
          obtain ⟨rfl, rfl⟩ := h'
          cases e
          exact ⟨_, (World.ownsRow.stored h1 j v).1⟩
    · exact ⟨xs, own_keep h1 fun b hb => other b (fun hh => e (hh ▸ hb))⟩
  · by_cases e : (Value.slice B1 en.length d1).ownBlock = some g
    · cases B1 with
      | none => cases e
      | some ad =>
        rcases h2.2 with ⟨h', _⟩ | ⟨g', cap', cur, h', _⟩
        · simp at h'
        · simp at h'
          obtain ⟨rfl, rfl⟩ := h'
          cases e
          exact ⟨_, (World.ownsRow.stored h2 j v).1⟩
    · exact ⟨ys, own_keep h2 fun b hb => other b (fun hh => e (hh ▸ hb))⟩
set_option maxRecDepth 100000 in
set_option maxHeartbeats 8000000 in
theorem copies_law (n : Nd) (A B : Option Addr) (c d : Nat) (x : Int) (w : World) (hn : NLies w n A B c d) :
    Calls Try.prog 4 #[ndV n A B c d, .int .i64 x] w fun e w' => e = .returned (.bool true) ∧ Below w.heap.size w w' := by
  have HNC := Lib.hid (lightN_cases n)
  obtain ⟨k, l, z, sq, en⟩ := n
  have HB0 := Lib.hid ((Below.refl w.heap.size w).alloc (Nat.le_refl _) (.cells #[.int .i64 k, .int .i64 l, .int .i64 z, .slice A sq.length c, .slice B en.length d] 25))
  have HBX : Hid (BoxAt (w.alloc (.cells #[.int .i64 k, .int .i64 l, .int .i64 z, .slice A sq.length c, .slice B en.length d] 25)) w.heap.size k l z (.slice A sq.length c) (.slice B en.length d)) := Lib.hid (heap_alloc_new _ _)
  have HLA : Hid (∀ w1, NLies w1 ⟨k, l, z, sq, en⟩ A B c d → Calls Try.prog 8 #[.agg #[.int .i64 k, .int .i64 l, .int .i64 z, .slice A sq.length c, .slice B en.length d]] w1 fun x w' => x = .returned (.int .i64 (lightN ⟨k, l, z, sq, en⟩)) ∧ Below w1.heap.size w1 w') := Lib.hid fun w1 h => lightN_any ⟨k, l, z, sq, en⟩ A B c d w1 h
  obtain ⟨LA, hLA⟩ : ∃ L, lightN ⟨k, l, z, sq, en⟩ = L := ⟨_, rfl⟩
  rw [hLA] at HNC HLA
  clear hLA
  go_enter Try.func4, Try.ntmps4
  go_upto_region 1 with (fail)
  generalize w.alloc _ = W at HBX HB0 ⊢
  obtain ⟨P, hP⟩ : ∃ P, P = w.heap.size := ⟨_, rfl⟩
  rw [← hP] at HBX ⊢
  clear hP
  have hz0 : Hid (P < W.heap.size) := Lib.hid (lt_size HBX.out)
  have HN : Hid (∀ w1, Below W.heap.size W w1 → NLies w1 ⟨k, l, z, sq, en⟩ A B c d) := Lib.hid fun w1 hb => (hn.below HB0.out).below hb
  have HK : Hid (∀ w1, Below W.heap.size W w1 → BoxAt w1 P k l z (.slice A sq.length c) (.slice B en.length d)) := Lib.hid fun w1 hb => HBX.out.below hb hz0.out
  clear hn
  obtain ⟨s0, s1, s2, s3, s4⟩ := HBX.out.cells
  rcases HNC.out with ⟨rfl, ha⟩ | rfl
  case inr =>
    go_wp2_with (first
      | (go_at_call 8; (with_reducible refine (HLA.out _ (HN.out _ (Below.refl _ _))).mono ?_); rintro e w1 ⟨rfl, hb1⟩; replace hb1 := Lib.hid hb1)
      | (go_at_call 9; (with_reducible refine (awake_any _).mono ?_); rintro e w2 ⟨rfl, hb2⟩; have HB2 := Lib.hid hb2; clear hb2)
      | fail)
    go_ret
    exact ⟨rfl, HB0.out.trans ((hb1.out.trans (HB2.out.mono hb1.out.size)).mono HB0.out.size)⟩
  have HA := Lib.hid ha
  dsimp only at ha
  go_upto_region 3 with (first
    | (go_at_call 8; (with_reducible refine (HLA.out _ (HN.out _ (Below.refl _ _))).mono ?_); rintro e w1 ⟨rfl, hb1⟩; replace hb1 := Lib.hid hb1)
    | fail)
  obtain ⟨V, rfl⟩ : ∃ V, V = w1 := ⟨_, rfl⟩
  replace HN := Lib.hid fun w1 (hb : Below V.heap.size V w1) => HN.out w1 (hb1.out.trans (hb.mono hb1.out.size))
  replace HK := Lib.hid fun w1 (hb : Below V.heap.size V w1) => HK.out w1 (hb1.out.trans (hb.mono hb1.out.size))
  replace HB0 := Lib.hid (HB0.out.trans (hb1.out.mono HB0.out.size))
  have hz1 : Hid (P < V.heap.size) := Lib.hid (Nat.lt_of_lt_of_le hz0.out hb1.out.size)
  clear hb1 HLA HBX hz0 HNC s0 s1 s2 s3 s4
  have HC1 : Hid (∀ w1, NLies w1 ⟨k, l, z, sq, en⟩ A B c d → Calls Try.prog 20 #[.agg #[.int .i64 k, .int .i64 l, .int .i64 z, .slice A sq.length c, .slice B en.length d]] w1 (CopyPost w1 ⟨k, l, z, sq, en⟩)) := Lib.hid fun w1 h => copyl_any ⟨k, l, z, sq, en⟩ A B c d w1 h HA.out.1 HA.out.2
  have HC2 : Hid (∀ w1, NLies w1 ⟨k, l, z, sq, en⟩ A B c d → Calls Try.prog 21 #[.agg #[.int .i64 k, .int .i64 l, .int .i64 z, .slice A sq.length c, .slice B en.length d]] w1 (CopyPost w1 ⟨k, l, z, sq, en⟩)) := Lib.hid fun w1 h => copyr_any ⟨k, l, z, sq, en⟩ A B c d w1 h HA.out.1 HA.out.2
  refine region_tail 6 (fun j v w' => match j with | 0 => v = .agg #[.int .i64 k, .int .i64 l, .int .i64 z, .slice A sq.length c, .slice B en.length d] | 1 => ∃ A1 B1 c1 d1, v = .agg #[.int .i64 k, .int .i64 l, .int .i64 z, .slice A1 sq.length c1, .slice B1 en.length d1] ∧ CopyRes V w' sq en A1 B1 c1 d1 | 2 => v = .agg #[.int .i64 k, .int .i64 l, .int .i64 z, .slice A sq.length c, .slice B en.length d] | 3 => ∃ A2 B2 c2 d2, v = .agg #[.int .i64 k, .int .i64 l, .int .i64 z, .slice A2 sq.length c2, .slice B2 en.length d2] ∧ CopyRes V w' sq en A2 B2 c2 d2 | 4 => ∃ p, v = .pointer (some ⟨p, 0, none⟩) ∧ NewBox V w' p (zeroN) 25 | 5 => ∃ q, v = .pointer (some ⟨q, 0, none⟩) ∧ NewBox V w' q (zeroN) 25 | _ => True) (fun vs w' => Below V.heap.size V w' ∧ Apart2 [1, 3, 4, 5] vs w') (fun w1 w2 => Below w1.heap.size w1 w2) (by kernel_rfl) (by kernel_rfl) (by kernel_rfl) (by kernel_rfl) (by kernel_rfl) (by kernel_rfl) ?hR ?hG ?hops ?hend
  case hR =>
    intro j v w1 w2 hv hb
    match j, hv with
    | 0, hv => exact hv
    | 1, ⟨A1, B1, c1, d1, e, h⟩ => exact ⟨A1, B1, c1, d1, e, h.below hb⟩
    | 2, hv => exact hv
    | 3, ⟨A2, B2, c2, d2, e, h⟩ => exact ⟨A2, B2, c2, d2, e, h.below hb⟩
    | 4, ⟨p, e, h⟩ => exact ⟨p, e, h.below hb⟩
    | 5, ⟨q, e, h⟩ => exact ⟨q, e, h.below hb⟩
    | _ + 6, _ => exact trivial
  case hG => exact ⟨(Below.refl _ _).drew, Apart2.start (by intro i hi; simp only [List.mem_cons, List.not_mem_nil, or_false] at hi; rcases hi with rfl | rfl | rfl | rfl <;> rfl)⟩
  case hops =>
    refine OpsOkS.cons ?o0 (OpsOkS.cons ?o1 (OpsOkS.cons ?o2 (OpsOkS.cons ?o3 (OpsOkS.cons ?o4 (OpsOkS.cons ?o5 OpsOkS.nil)))))
    case o0 =>
      intro a w1 Kx hG need old hsz fresh hKx
      have e0 : a.tmps[2]?.getD undef = .pointer (some ⟨P, 0, none⟩) := by rw [← Array.getD_eq_getD_getElem?]; exact old 2 (by kernel_rfl)
      obtain ⟨j0, j1, j2, j3, j4⟩ := (HK.out w1 hG.1).cells
      refine op_value (v := .agg #[.int .i64 k, .int .i64 l, .int .i64 z, .slice A sq.length c, .slice B en.length d]) (wanted_none rfl) ?_ (hKx _ w1 rfl ⟨hG.1, hG.2.keep (by decide) (Nat.le_refl _)⟩ (Below.refl _ _))
      simp [execOp, go_sem, e0, j0, j1, j2, j3, j4]
    case o1 =>
      intro a w1 Kx hG need old hsz fresh hKx
      have e0 : a.tmps[13]?.getD undef = .agg #[.int .i64 k, .int .i64 l, .int .i64 z, .slice A sq.length c, .slice B en.length d] := by rw [← Array.getD_eq_getD_getElem?]; exact (need 0 (by kernel_rfl) (by kernel_rfl))
      refine op_call (wanted_none rfl) (f := 20) (args := #[.agg #[.int .i64 k, .int .i64 l, .int .i64 z, .slice A sq.length c, .slice B en.length d]]) ?run ((HC1.out w1 (HN.out w1 hG.1)).mono ?post)
      case run => simp [go_sem, e0]
      case post =>
        rintro e w2 ⟨A1, B1, c1, d1, rfl, h1, h2, hb2⟩
        exact ⟨_, rfl, hKx _ w2 ⟨A1, B1, c1, d1, rfl, ⟨own_base h1 hG.1.size, own_base h2 hG.1.size⟩⟩ ⟨hG.1.trans (hb2.mono hG.1.size), hG.2.new hb2.size (own_copy h1 h2)⟩ hb2⟩
    case o2 =>
      intro a w1 Kx hG need old hsz fresh hKx
      have e0 : a.tmps[2]?.getD undef = .pointer (some ⟨P, 0, none⟩) := by rw [← Array.getD_eq_getD_getElem?]; exact old 2 (by kernel_rfl)
      obtain ⟨j0, j1, j2, j3, j4⟩ := (HK.out w1 hG.1).cells
      refine op_value (v := .agg #[.int .i64 k, .int .i64 l, .int .i64 z, .slice A sq.length c, .slice B en.length d]) (wanted_none rfl) ?_ (hKx _ w1 rfl ⟨hG.1, hG.2.keep (by decide) (Nat.le_refl _)⟩ (Below.refl _ _))
      simp [execOp, go_sem, e0, j0, j1, j2, j3, j4]
    case o3 =>
      intro a w1 Kx hG need old hsz fresh hKx
      have e0 : a.tmps[15]?.getD undef = .agg #[.int .i64 k, .int .i64 l, .int .i64 z, .slice A sq.length c, .slice B en.length d] := by rw [← Array.getD_eq_getD_getElem?]; exact (need 2 (by kernel_rfl) (by kernel_rfl))
      refine op_call (wanted_none rfl) (f := 21) (args := #[.agg #[.int .i64 k, .int .i64 l, .int .i64 z, .slice A sq.length c, .slice B en.length d]]) ?run ((HC2.out w1 (HN.out w1 hG.1)).mono ?post)
      case run => simp [go_sem, e0]
      case post =>
        rintro e w2 ⟨A2, B2, c2, d2, rfl, h1, h2, hb2⟩
        exact ⟨_, rfl, hKx _ w2 ⟨A2, B2, c2, d2, rfl, ⟨own_base h1 hG.1.size, own_base h2 hG.1.size⟩⟩ ⟨hG.1.trans (hb2.mono hG.1.size), hG.2.new hb2.size (own_copy h1 h2)⟩ hb2⟩
    case o4 =>
      intro a w1 Kx hG need old hsz fresh hKx
      refine op_value (v := .pointer (some ⟨w1.heap.size, 0, none⟩)) (wanted_none rfl) ?_ (hKx _ (w1.alloc (.cells (zeroN) 25)) ⟨w1.heap.size, rfl, ⟨hG.1.size, heap_alloc_new _ _⟩⟩ ⟨hG.1.alloc hG.1.size _, hG.2.alloc _⟩ ((Below.refl _ _).alloc (Nat.le_refl _) _))
      simp [execOp, go_sem]
    case o5 =>
      intro a w1 Kx hG need old hsz fresh hKx
      refine op_value (v := .pointer (some ⟨w1.heap.size, 0, none⟩)) (wanted_none rfl) ?_ (hKx _ (w1.alloc (.cells (zeroN) 25)) ⟨w1.heap.size, rfl, ⟨hG.1.size, heap_alloc_new _ _⟩⟩ ⟨hG.1.alloc hG.1.size _, hG.2.alloc _⟩ ((Below.refl _ _).alloc (Nat.le_refl _) _))
      simp [execOp, go_sem]
  case hend =>
    intro a w6 hG hde hsz hφ hold
    obtain ⟨A1_1, B1_1, c1_1, d1_1, hv_1, hp_1⟩ := hφ 1 (by decide)
    obtain ⟨A2_3, B2_3, c2_3, d2_3, hv_3, hp_3⟩ := hφ 3 (by decide)
    obtain ⟨p_4, hv_4, hp_4⟩ := hφ 4 (by decide)
    obtain ⟨q_5, hv_5, hp_5⟩ := hφ 5 (by decide)
    have ap13 := hG.2.ne 1 (by decide) 3 (by decide) (by decide)
    rw [hv_1, hv_3] at ap13
    have ap14 := hG.2.ne 1 (by decide) 4 (by decide) (by decide)
    rw [hv_1, hv_4] at ap14
    have ap15 := hG.2.ne 1 (by decide) 5 (by decide) (by decide)
    rw [hv_1, hv_5] at ap15
    have ap34 := hG.2.ne 3 (by decide) 4 (by decide) (by decide)
    rw [hv_3, hv_4] at ap34
    have ap35 := hG.2.ne 3 (by decide) 5 (by decide) (by decide)
    rw [hv_3, hv_5] at ap35
    have ap45 := hG.2.ne 4 (by decide) 5 (by decide) (by decide)
    rw [hv_4, hv_5] at ap45
    obtain rfl := act_puts [(13, .agg #[.int .i64 k, .int .i64 l, .int .i64 z, .slice A sq.length c, .slice B en.length d]), (14, .agg #[.int .i64 k, .int .i64 l, .int .i64 z, .slice A1_1 sq.length c1_1, .slice B1_1 en.length d1_1]), (15, .agg #[.int .i64 k, .int .i64 l, .int .i64 z, .slice A sq.length c, .slice B en.length d]), (16, .agg #[.int .i64 k, .int .i64 l, .int .i64 z, .slice A2_3 sq.length c2_3, .slice B2_3 en.length d2_3]), (5, .pointer (some ⟨p_4, 0, none⟩)), (6, .pointer (some ⟨q_5, 0, none⟩))] [13, 14, 15, 16, 5, 6] rfl (by kernel_rfl) (by kernel_rfl) hde hsz (List.forall_mem_cons.2 ⟨(show a.tmps.getD 13 undef = .agg #[.int .i64 k, .int .i64 l, .int .i64 z, .slice A sq.length c, .slice B en.length d] from (hφ 0 (by decide))), (List.forall_mem_cons.2 ⟨(show a.tmps.getD 14 undef = .agg #[.int .i64 k, .int .i64 l, .int .i64 z, .slice A1_1 sq.length c1_1, .slice B1_1 en.length d1_1] from hv_1), (List.forall_mem_cons.2 ⟨(show a.tmps.getD 15 undef = .agg #[.int .i64 k, .int .i64 l, .int .i64 z, .slice A sq.length c, .slice B en.length d] from (hφ 2 (by decide))), (List.forall_mem_cons.2 ⟨(show a.tmps.getD 16 undef = .agg #[.int .i64 k, .int .i64 l, .int .i64 z, .slice A2_3 sq.length c2_3, .slice B2_3 en.length d2_3] from hv_3), (List.forall_mem_cons.2 ⟨(show a.tmps.getD 5 undef = .pointer (some ⟨p_4, 0, none⟩) from hv_4), (List.forall_mem_cons.2 ⟨(show a.tmps.getD 6 undef = .pointer (some ⟨q_5, 0, none⟩) from hv_5), (fun _ h => absurd h (by simp))⟩)⟩)⟩)⟩)⟩)⟩) hold
    clear hφ hold hsz hde hv_1 hv_3 hv_4 hv_5
    simp only [putAll]
    simp only [List.drop_succ_cons, List.drop_zero]
    obtain ⟨hG, -⟩ := hG
    go_frame
    have hpq : p_4 ≠ q_5 := fun e => ap45 p_4 (vblks_ptr.2 rfl) (vblks_ptr.2 e)
    have hqp : q_5 ≠ p_4 := fun e => hpq e.symm
    have BP := Lib.hid hp_4.box
    have BQ := Lib.hid hp_5.box
    refine wpList_store_box 5 14 p_4 rfl rfl rfl rfl rfl BP.out fun w7 hb7 hk7 hz7 ho7 ht7 hu7 => ?_
    refine wpList_store_box 6 16 q_5 rfl rfl rfl rfl rfl ((hk7 _ hqp).trans BQ.out) fun w8 hb8 hk8 hz8 ho8 ht8 hu8 => ?_
    have HXW : Hid (∀ b, b ≠ p_4 → b ≠ q_5 → w8.heap[b]? = w6.heap[b]?) := Lib.hid fun b h1 h2 => (hk8 b h2).trans (hk7 b h1)
    have hnew := hp_4.new
    have hnew2 := hp_5.new
    have HG8 : Hid (Below V.heap.size V w8) := Lib.hid ⟨by rw [ho8, ho7]; exact hG.os, by rw [ht8, ht7]; exact hG.tape, by rw [hu8, hu7]; exact hG.output, by rw [hz8, hz7]; exact hG.size, fun b hb => (HXW.out b (by omega) (by omega)).trans (hG.block b hb)⟩
    have BP8 : Hid (BoxAt w8 p_4 k l z (.slice A1_1 sq.length c1_1) (.slice B1_1 en.length d1_1)) := Lib.hid ((hk8 _ hpq).trans hb7)
    have BQ8 : Hid (BoxAt w8 q_5 k l z (.slice A2_3 sq.length c2_3) (.slice B2_3 en.length d2_3)) := Lib.hid hb8
    have C1 : Hid (CopyRes V w8 sq en A1_1 B1_1 c1_1 d1_1) := Lib.hid (hp_1.keep (fun g e => HXW.out g (fun h => ap14 g (vblks_node.2 (.inl e)) (vblks_ptr.2 h)) (fun h => ap15 g (vblks_node.2 (.inl e)) (vblks_ptr.2 h))) (fun g e => HXW.out g (fun h => ap14 g (vblks_node.2 (.inr e)) (vblks_ptr.2 h)) (fun h => ap15 g (vblks_node.2 (.inr e)) (vblks_ptr.2 h))))
    have C2 : Hid (CopyRes V w8 sq en A2_3 B2_3 c2_3 d2_3) := Lib.hid (hp_3.keep (fun g e => HXW.out g (fun h => ap34 g (vblks_node.2 (.inl e)) (vblks_ptr.2 h)) (fun h => ap35 g (vblks_node.2 (.inl e)) (vblks_ptr.2 h))) (fun g e => HXW.out g (fun h => ap34 g (vblks_node.2 (.inr e)) (vblks_ptr.2 h)) (fun h => ap35 g (vblks_node.2 (.inr e)) (vblks_ptr.2 h))))
    have HAP : Hid (∀ g, (Value.slice A1_1 sq.length c1_1).ownBlock = some g ∨ (Value.slice B1_1 en.length d1_1).ownBlock = some g → g ≠ p_4 ∧ g ≠ q_5 ∧ V.heap.size ≤ g ∧ (Value.slice A2_3 sq.length c2_3).ownBlock ≠ some g ∧ (Value.slice B2_3 en.length d2_3).ownBlock ≠ some g) := Lib.hid fun g e => ⟨fun h => ap14 g (vblks_node.2 e) (vblks_ptr.2 h), fun h => ap15 g (vblks_node.2 e) (vblks_ptr.2 h), by rcases e with e | e; exact (C1.out.i.lt g e).1; exact (C1.out.e.lt g e).1, fun h => ap13 g (vblks_node.2 e) (vblks_node.2 (.inl h)), fun h => ap13 g (vblks_node.2 e) (vblks_node.2 (.inr h))⟩
    have HPQ : Hid (V.heap.size ≤ p_4 ∧ V.heap.size ≤ q_5 ∧ p_4 < w8.heap.size ∧ q_5 < w8.heap.size) := Lib.hid ⟨hnew, hnew2, lt_size BP8.out, lt_size BQ8.out⟩
    clear hG hb7 hk7 hz7 ho7 ht7 hu7 hb8 hk8 hz8 ho8 ht8 hu8 hnew hnew2 hp_1 hp_3 hp_4 hp_5 ap13 ap14 ap15 ap34 ap35 ap45 hpq hqp BP BQ HXW
    have HCS : Hid (CS V w8 k l z sq en p_4 q_5 A1_1 B1_1 A2_3 B2_3 c1_1 d1_1 c2_3 d2_3) := Lib.hid ⟨BP8.out, BQ8.out, ⟨_, C1.out.i⟩, ⟨_, C1.out.e⟩, C2.out, HG8.out⟩
    have HN1 : Hid (NLies w8 ⟨k, l, z, sq, en⟩ A1_1 B1_1 c1_1 d1_1) := Lib.hid (C1.out.nlies ha.1 ha.2)
    have HSN : Hid (∀ w1 A B c d A' B' c' d', NLies w1 ⟨k, l, z, sq, en⟩ A B c d → NLies w1 ⟨k, l, z, sq, en⟩ A' B' c' d' → Calls Try.prog 15 #[.agg #[.int .i64 k, .int .i64 l, .int .i64 z, .slice A sq.length c, .slice B en.length d], .agg #[.int .i64 k, .int .i64 l, .int .i64 z, .slice A' sq.length c', .slice B' en.length d']] w1 fun x w' => x = .returned (.bool true) ∧ Below w1.heap.size w1 w') := Lib.hid fun w1 A B c d A' B' c' d' h h' => by
      have := samenr_any ⟨k, l, z, sq, en⟩ ⟨k, l, z, sq, en⟩ A B A' B' c d c' d' w1 h h'
      rwa [show sameN ⟨k, l, z, sq, en⟩ ⟨k, l, z, sq, en⟩ = true from decide_eq_true rfl] at this
    obtain ⟨s0, s1, s2, s3, s4⟩ := BP8.out.cells
    obtain ⟨t0, t1, t2, t3, t4⟩ := (HK.out _ HG8.out).cells
    clear BP8 BQ8 C1 C2 HC1 HC2
    have hl6 := ha.1
    have hl7 := ha.2
    have HX9 : Hid (∀ w9, CS V w9 k l z sq en p_4 q_5 A1_1 B1_1 A2_3 B2_3 c1_1 d1_1 c2_3 d2_3 → w9.cell? ⟨p_4, 3, none⟩ = some (.slice A1_1 sq.length c1_1) ∧ w9.cell? ⟨p_4, 4, none⟩ = some (.slice B1_1 en.length d1_1)) := Lib.hid fun w9 h => ⟨h.bp.cells.2.2.2.1, h.bp.cells.2.2.2.2⟩
    go_wp2_with (first
      | (go_at_call 15; (with_reducible refine (HSN.out _ _ _ _ _ _ _ _ _ HN1.out (HN.out _ HG8.out)).mono ?_); rintro e w9 ⟨rfl, hb9⟩; have HC9 := Lib.hid (HCS.out.below hb9); clear hb9; obtain ⟨v3, v4⟩ := HX9.out _ HC9.out)
      | fail)
    clear HCS HN1 HG8
    go_loopw [7, 24] (fun _ v24 wr => ∃ jx : Nat, jx ≤ sq.length ∧ v24 = .int .i64 jx ∧ Hid (CS V wr k l z sq en p_4 q_5 A1_1 B1_1 A2_3 B2_3 c1_1 d1_1 c2_3 d2_3)) (fun _ v24 _ => sq.length - (RowKit.intOf v24).toNat)
    case atStart => exact ⟨0, Nat.zero_le _, rfl, HC9⟩
    case round =>
      obtain ⟨jx, hj, rfl, HC⟩ := hrel
      by_cases hj1 : jx < sq.length
      · have d2 : decide ((jx : Int) < (sq.length : Int)) = true := decide_eq_true (by omega)
        obtain ⟨xs, hr1⟩ := HC.out.r1
        obtain ⟨g, hg, hgb, hsl⟩ := row_at hr1 (by omega)
        obtain ⟨⟨v, k0⟩, f0⟩ := hsl jx (by omega)
        obtain ⟨v3, v4⟩ := HX9.out _ HC.out
        rw [hg] at v3
        have HG := Lib.hid hgb
        clear hg hgb hsl hr1
        go_wp2_with fail
        go_roundw
        case rel => exact ⟨jx + 1, by omega, by go_num, Lib.hid (HC.out.set HAP.out (.inl HG.out))⟩
        case measure => simp [RowKit.intOf]; omega
      · have d2 : decide ((jx : Int) < (sq.length : Int)) = false := decide_eq_false (by omega)
        obtain ⟨v3, v4⟩ := HX9.out _ HC.out
        obtain ⟨wx, rfl⟩ : ∃ wx, wx = wr := ⟨_, rfl⟩
        go_wp2_with fail
        go_loopw [8, 36] (fun _ v36 wr => ∃ jx : Nat, jx ≤ en.length ∧ v36 = .int .i64 jx ∧ Hid (CS V wr k l z sq en p_4 q_5 A1_1 B1_1 A2_3 B2_3 c1_1 d1_1 c2_3 d2_3)) (fun _ v36 _ => en.length - (RowKit.intOf v36).toNat)
        case atStart => exact ⟨0, Nat.zero_le _, rfl, HC⟩
        case round =>
          obtain ⟨jy, hjy, rfl, HC⟩ := hrel
          by_cases hj2 : jy < en.length
          · have d3 : decide ((jy : Int) < (en.length : Int)) = true := decide_eq_true (by omega)
            obtain ⟨xs, hr2⟩ := HC.out.r2
            obtain ⟨g, hg, hgb, hsl⟩ := row_at hr2 (by omega)
            obtain ⟨⟨v, k0⟩, f0⟩ := hsl (jy * 2) (by omega)
            obtain ⟨⟨v', k1⟩, f1⟩ := hsl (jy * 2 + 1) (by omega)
            obtain ⟨v3, v4⟩ := HX9.out _ HC.out
            rw [hg] at v4
            have HG := Lib.hid hgb
            clear hg hgb hsl hr2
            go_wp2_with fail
            go_roundw
            case rel => exact ⟨jy + 1, by omega, by go_num, Lib.hid ((HC.out.set HAP.out (.inr HG.out)).set HAP.out (.inr HG.out))⟩
            case measure => simp [RowKit.intOf]; omega
          · have d3 : decide ((jy : Int) < (en.length : Int)) = false := decide_eq_false (by omega)
            have HN2 : Hid (NLies wr ⟨k, l, z, sq, en⟩ A2_3 B2_3 c2_3 d2_3) := Lib.hid (HC.out.cr.nlies hl6 hl7)
            have HN3 := Lib.hid (HN.out _ HC.out.hb)
            obtain ⟨s0, s1, s2, s3, s4⟩ := HC.out.bq.cells
            obtain ⟨t0, t1, t2, t3, t4⟩ := (HK.out _ HC.out.hb).cells
            go_wp2_with (first
              | (go_at_call 15; (with_reducible refine (HSN.out _ _ _ _ _ _ _ _ _ HN3.out HN2.out).mono ?_); rintro e w10 ⟨rfl, hb10⟩; replace hb10 := Lib.hid hb10)
              | (go_at_call 9; (with_reducible refine (awake_any _).mono ?_); rintro e w11 ⟨rfl, hb11⟩; replace hb11 := Lib.hid hb11)
              | fail)
            go_ret
            exact ⟨rfl, HB0.out.trans ((HC.out.hb.trans ((hb10.out.trans (hb11.out.mono hb10.out.size)).mono HC.out.hb.size)).mono HB0.out.size)⟩
end Go.Proofs.Ytohiabkjbieflaa
