/- The reference's SameBlocks, over equal blocks: a row that was told, and a chip's own. -/
import Derived.StillTailTactics
import Derived.Test.YtchghdpfgamfpaaLBlocks2
namespace Go.Proofs.Ytchghdpfgamfpaa
open Go.RowKit Go.Shelf

theorem cellsB_length (L : List (Bk × Value)) : (cellsB L).length = L.length * 4 := by
  induction L with
  | nil => rfl
  | cons x L ih =>
    have e : cellsB (x :: L) = [.bool x.1.bad, .int .i64 x.1.next, .int .i64 x.1.count, x.2] ++ cellsB L := rfl
    rw [e, List.length_append, ih]
    simp only [List.length_cons, List.length_nil]
    omega
theorem cellsB_at (L : List (Bk × Value)) (i : Nat) (h : i < L.length) : (cellsB L)[i * 4]? = some (.bool L[i].1.bad) ∧ (cellsB L)[i * 4 + 1]? = some (.int .i64 L[i].1.next) ∧ (cellsB L)[i * 4 + 2]? = some (.int .i64 L[i].1.count) ∧ (cellsB L)[i * 4 + 3]? = some L[i].2 := by
  induction L generalizing i with
  | nil => simp at h
  | cons x L ih =>
    have e : cellsB (x :: L) = [.bool x.1.bad, .int .i64 x.1.next, .int .i64 x.1.count, x.2] ++ cellsB L := rfl
    rw [e]
    cases i with
    | zero => simp
    | succ i =>
      have := ih i (by simpa using h)
      rw [List.getElem?_append_right (by simp; omega), List.getElem?_append_right (by simp; omega), List.getElem?_append_right (by simp; omega), List.getElem?_append_right (by simp; omega)]
      simp only [List.length_cons, List.length_nil, List.getElem_cons_succ]
      rw [show (i + 1) * 4 - (0 + 1 + 1 + 1 + 1) = i * 4 by omega, show (i + 1) * 4 + 1 - (0 + 1 + 1 + 1 + 1) = i * 4 + 1 by omega, show (i + 1) * 4 + 2 - (0 + 1 + 1 + 1 + 1) = i * 4 + 2 by omega, show (i + 1) * 4 + 3 - (0 + 1 + 1 + 1 + 1) = i * 4 + 3 by omega]
      exact this
/-- A block of a row. -/
structure RowAt (w : World) (G i : Nat) (b : Bk) (v : Value) : Prop where
  c0 : w.cell? ⟨G, i * 4, none⟩ = some (.bool b.bad)
  c1 : w.cell? ⟨G, i * 4 + 1, none⟩ = some (.int .i64 b.next)
  c2 : w.cell? ⟨G, i * 4 + 2, none⟩ = some (.int .i64 b.count)
  c3 : w.cell? ⟨G, i * 4 + 3, none⟩ = some v
  lt : G < w.heap.size
theorem RowAt.below {w w' : World} {G i : Nat} {b : Bk} {v : Value} (h : RowAt w G i b v) (hb : Below w.heap.size w w') : RowAt w' G i b v :=
  ⟨(hb.cell (p := ⟨G, i * 4, none⟩) h.lt).trans h.c0, (hb.cell (p := ⟨G, i * 4 + 1, none⟩) h.lt).trans h.c1, (hb.cell (p := ⟨G, i * 4 + 2, none⟩) h.lt).trans h.c2, (hb.cell (p := ⟨G, i * 4 + 3, none⟩) h.lt).trans h.c3, Nat.lt_of_lt_of_le h.lt hb.size⟩
theorem RowB.at_ {w : World} {B : Nat} {v : Value} {l : List Bk} (h : RowB w B v l) (hl : 0 < l.length) : ∃ G c, v = .slice (some ⟨G, 0, none⟩) l.length c ∧ ∀ i (hi : i < l.length), ∃ u, RowAt w G i l[i] u ∧ PagesV w (fun _ => True) u l[i].pages := by
  obtain ⟨L, rfl, h2, h3⟩ := h
  obtain ⟨G, c, rfl, _, _⟩ := h2.form hl
  refine ⟨G, c, rfl, fun i hi => ?_⟩
  have hi' : i < L.length := by simpa using hi
  have hLl : (L.map Prod.fst).length = L.length := by simp
  obtain ⟨r0, r1, r2, r3⟩ := cellsB_at L i hi'
  have e : (L.map Prod.fst)[i] = L[i].1 := by simp
  rw [e]
  have c0 := (h2.cellAt (i * 4) (by omega)).trans r0
  refine ⟨L[i].2, ⟨c0, (h2.cellAt (i * 4 + 1) (by omega)).trans r1, (h2.cellAt (i * 4 + 2) (by omega)).trans r2, (h2.cellAt (i * 4 + 3) (by omega)).trans r3, by obtain ⟨o, ho, _⟩ := cells_of_cell c0; exact lt_size ho⟩, (h3 L[i] (by simp)).move (fun _ _ _ _ _ => rfl) fun _ _ _ => trivial⟩
theorem ChipAt.rowAt {w : World} {p q cap : Nat} {g : Nat → Nat} {C : Nat → Prop} {S : CS} (h : ChipAt w p q cap g C S) {i : Nat} (hi : i < S.bl.length) : RowAt w q i S.bl[i] (.slice (some ⟨g i, 0, none⟩) S.np S.np) :=
  have hb := h.blocks i hi
  ⟨hb.bad, hb.next, hb.count, hb.row, h.lt q (.inr (.inl rfl))⟩
set_option maxRecDepth 100000 in
set_option maxHeartbeats 4000000 in
theorem sameblocks_any {w : World} {p q cap : Nat} {g : Nat → Nat} {C : Nat → Prop} {S : CS} {B : Nat} {v : Value} (h : ChipAt w p q cap g C S) (hr : RowB w B v S.bl) :
    Calls Try.prog 33 #[v, .slice (some ⟨q, 0, none⟩) S.bl.length cap] w fun e w' => e = .returned (.bool true) ∧ Below w.heap.size w w' := by
  obtain ⟨⟨Av, cv, rfl⟩, _⟩ := hr.slice
  have HC := Lib.hid h
  have HR := Lib.hid hr
  have hcap := h.cap
  have hbl := h.small.1
  have hcv2 : S.bl.length ≤ cv := by
    obtain ⟨_, _, hown, _⟩ := hr
    obtain ⟨_, _, he, hle⟩ := own_slice hown
    cases he
    exact hle
  clear h hr
  obtain ⟨n, hn⟩ : ∃ n, S.bl.length = n := ⟨_, rfl⟩
  have HN := Lib.hid hn
  rw [hn] at hcap hbl hcv2 ⊢
  clear hn
  go_enter Try.func33, Try.ntmps33
  go_wp2
  go_loopw [13] (fun t wr => ∃ j : Nat, j ≤ n ∧ t = .int .i64 j ∧ Below w.heap.size w wr) (fun t _ => n - (intOf t).toNat)
  case atStart => exact ⟨0, Nat.zero_le _, rfl, Below.refl _ _⟩
  case round =>
    obtain ⟨j, hj, rfl, hB⟩ := hrel
    have HW := Lib.hid hB
    clear hB
    by_cases hjn : j < n
    · obtain ⟨G, c, hv, hat⟩ := HR.out.at_ (by rw [HN.out]; omega)
      obtain ⟨hv1, hv2⟩ : Av = some ⟨G, 0, none⟩ ∧ cv = c := by
        cases hv
        exact ⟨rfl, rfl⟩
      subst hv1 hv2
      clear hv
      have hjS : j < S.bl.length := by rw [HN.out]; exact hjn
      obtain ⟨u, hu, hpu⟩ := hat j hjS
      have hu2 := HC.out.rowAt hjS
      have hpv := HC.out.pagesV hjS
      have hnp := (HC.out.blocks j hjS).len
      have hnp2 := HC.out.small.2.2
      generalize S.bl[j] = b at hu hpu hu2 hpv hnp
      have hd := (drewN_below HW.out 1)
      obtain ⟨r0, r1, r2, r3, _⟩ := hu.below HW.out
      obtain ⟨s0, s1, s2, s3, _⟩ := hu2.below HW.out
      have HSB := Lib.hid (fun w7 (hw : Below w.heap.size w w7) => sameblock_any (w := w7) b u (.slice (some ⟨g j, 0, none⟩) S.np S.np) (hpu.below hw) (hpv.below hw) (by rw [hnp]; omega))
      have HD := Lib.hid hd
      obtain ⟨A9, c9, rfl, _⟩ := hpu
      unfold bkV at HSB
      clear hu hu2 hpv hnp hnp2 hat hd hjS
      go_wp2_with fail
      go_still_tail 8, (by kernel_rfl)
      change wpList _ _ _ _ _ wr.drew
      have HD2 : Hid (Below w.heap.size w wr.drew) := HD
      clear HD HW r0 r1 r2 r3 s0 s1 s2 s3
      generalize wr.drew = w7 at HD2
      go_wp2_with (go_at_call 30; (with_reducible refine (HSB.out w7 HD2.out).mono ?_); rintro e w8 ⟨rfl, hb8⟩; have H8 := Lib.hid (HD2.out.trans (hb8.mono HD2.out.size)); clear hb8)
      go_roundw
      case rel => exact ⟨j + 1, by omega, by simp, H8.out⟩
      case measure => simp [intOf]; omega
    · obtain rfl : j = n := by omega
      go_wp2
      go_ret
      exact ⟨rfl, HW.out⟩
end Go.Proofs.Ytchghdpfgamfpaa
