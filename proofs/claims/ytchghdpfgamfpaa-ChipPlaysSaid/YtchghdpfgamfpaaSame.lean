/- The reference's SameBlock, where both are alike; the law's at. -/
import Derived.Test.YtchghdpfgamfpaaLHeld
import Derived.Test.YtchghdpfgamfpaaRefProg3
namespace Go.Proofs.Ytchghdpfgamfpaa
open Go.RowKit

/-- A block's value. -/
def bkV (b : Bk) (v : Value) : Value := .agg #[.bool b.bad, .int .i64 b.next, .int .i64 b.count, v]
theorem page_lt {W : World} {C : Nat → Prop} {G j : Nat} {l : List UInt8} (h : PageAt W C ⟨G, j, none⟩ l) : G < W.heap.size := by
  obtain ⟨A, c, hc, _⟩ := h
  exact World.block_lt_of_cell? W _ hc
theorem cb_rb {W : World} {C : Nat → Prop} {A : Option Addr} {l : List UInt8} (h : CB W C A l) : RB W W.heap.size A l := fun hn => by
  obtain ⟨ad, e, _, hc⟩ := h hn
  refine ⟨ad, e, ?_, hc⟩
  have := World.block_lt_of_cell? W _ (hc 0 hn)
  rwa [block_add] at this
set_option maxRecDepth 100000 in
set_option maxHeartbeats 4000000 in
theorem sameblock_any {w : World} {C D : Nat → Prop} (b : Bk) (va vb : Value) (ha : PagesV w C va b.pages) (hb : PagesV w D vb b.pages) (hn : b.pages.length ≤ 64) :
    Calls Try.prog 30 #[bkV b va, bkV b vb] w fun e w' => e = .returned (.bool true) ∧ Below w.heap.size w w' := by
  obtain ⟨A, ca, rfl, hca, hpa⟩ := ha
  obtain ⟨B, cb, rfl, hcb, hpb⟩ := hb
  obtain ⟨bad, nx, cnt, P⟩ := b
  unfold bkV
  simp only at hpa hpb hca hcb hn ⊢
  have HA := Lib.hid hpa
  have HB := Lib.hid hpb
  obtain ⟨W0, hW0⟩ : ∃ W0, W0 = (w.alloc (.cells #[.bool bad, .int .i64 nx, .int .i64 cnt, .slice A P.length ca] 38)).alloc (.cells #[.bool bad, .int .i64 nx, .int .i64 cnt, .slice B P.length cb] 38) := ⟨_, rfl⟩
  have hz : W0.heap.size = w.heap.size + 2 := by rw [hW0]; simp
  have HB0 : Hid (Below w.heap.size w W0) := by rw [hW0]; exact ((Below.refl _ _).alloc (Nat.le_refl _) _).alloc (by simp) _
  have C0 : Hid (W0.heap[w.heap.size]? = some (.cells #[.bool bad, .int .i64 nx, .int .i64 cnt, .slice A P.length ca] 38 (0, 0))) := by rw [hW0]; exact (Below.heap_alloc _ _ _ (by simp)).trans (heap_alloc_new w _)
  have C1 : Hid (W0.heap[w.heap.size + 1]? = some (.cells #[.bool bad, .int .i64 nx, .int .i64 cnt, .slice B P.length cb] 38 (0, 0))) := by rw [hW0]; exact heap_alloc2_new w _ _
  clear hpa hpb
  go_enter Try.func30, Try.ntmps30
  go_wp2
  rw [← hW0]
  go_loopw [37] (fun t wr => ∃ j : Nat, j ≤ P.length ∧ t = .int .i64 j ∧ Below W0.heap.size W0 wr) (fun t _ => P.length - (intOf t).toNat)
  case atStart => exact ⟨0, Nat.zero_le _, rfl, Below.refl _ _⟩
  case round =>
    obtain ⟨j, hj, rfl, hB⟩ := hrel
    have HW := Lib.hid hB
    clear hB
    by_cases hjp : j < P.length
    · obtain ⟨G, rfl, _, hpg⟩ := HA.out (by omega)
      obtain ⟨H, rfl, _, hph⟩ := HB.out (by omega)
      obtain ⟨x0, x1, x2, x3⟩ := cells4 ((HW.out.block w.heap.size (lt_size C0.out)).trans C0.out)
      obtain ⟨y0, y1, y2, y3⟩ := cells4 ((HW.out.block (w.heap.size + 1) (lt_size C1.out)).trans C1.out)
      have hbw := HB0.out.trans (HW.out.mono (by omega))
      have hg := page_lt (hpg j hjp)
      have hh := page_lt (hph j hjp)
      obtain ⟨A1, c1, h11, _, _, h14⟩ := hpg j hjp
      obtain ⟨A2, c2, h21, _, _, h24⟩ := hph j hjp
      have d1 : wr.cell? ⟨G, j, none⟩ = some (.slice A1 P[j].length c1) := (hbw.cell (p := ⟨G, j, none⟩) hg).trans h11
      have d2 : wr.cell? ⟨H, j, none⟩ = some (.slice A2 P[j].length c2) := (hbw.cell (p := ⟨H, j, none⟩) hh).trans h21
      have ks1 : ∀ k, (convert 32 9 (.slice A1 P[j].length c1)).run Try.prog (wr.drewN k) = .ok (.string (strOf P[j])) (wr.drewN k) := fun k => run_str (((cb_rb h14).below hbw (Nat.le_refl _)).drewN k) c1
      have ks2 : ∀ k, (convert 32 9 (.slice A2 P[j].length c2)).run Try.prog (wr.drewN k) = .ok (.string (strOf P[j])) (wr.drewN k) := fun k => run_str (((cb_rb h24).below hbw (Nat.le_refl _)).drewN k) c2
      clear h11 h14 h21 h24 hbw hg hh hpg hph
      generalize P[j] = pj at d1 d2 ks1 ks2
      go_wp2_with fail
      go_quiet (fail)
      go_wp2
      go_roundw
      case rel => exact ⟨j + 1, by omega, by simp, drewN_below HW.out _⟩
      case measure => simp [intOf]; omega
    · go_wp2
      go_ret
      exact ⟨rfl, HB0.out.trans (HW.out.mono (by omega))⟩
theorem block_set4 {w : World} {q : Nat} {a b c d x y z u : Value} {t : TypeId} (h : w.heap[q]? = some (.cells #[a, b, c, d] t (0, 0))) : ((((w.setCell ⟨q, 0, none⟩ x).setCell ⟨q, 1, none⟩ y).setCell ⟨q, 2, none⟩ z).setCell ⟨q, 3, none⟩ u).heap[q]? = some (.cells #[x, y, z, u] t (0, 0)) := by
  obtain ⟨hlt, he⟩ := Array.getElem?_eq_some_iff.1 h
  simp [World.setCell, Array.getElem?_modify, h]
/-- What the reference's block i is, or nothing. -/
def tellR (S : CS) (i : Int) : Bk := if 0 ≤ i ∧ i < (S.bl.length : Int) then blkS S i else noB
def AtPost (b : Bk) (w : World) (e : Ending) (w' : World) : Prop := ∃ v, e = .returned (bkV b v) ∧ PagesV w' (fun _ => True) v b.pages ∧ Below w.heap.size w w'
section
variable {p q cap : Nat} {g : Nat → Nat} {C : Nat → Prop} {S : CS} {w : World}
theorem ChipAt.pagesV (h : ChipAt w p q cap g C S) {i : Nat} (hi : i < S.bl.length) : PagesV w (fun _ => True) (.slice (some ⟨g i, 0, none⟩) S.np S.np) S.bl[i].pages := by
  have hb := h.blocks i hi
  refine ⟨_, S.np, by rw [hb.len], by rw [hb.len]; exact Nat.le_refl _, fun _ => ⟨g i, rfl, trivial, fun j hj => ?_⟩⟩
  obtain ⟨A, c, h1, h2, h3, h4⟩ := hb.pages j hj
  exact ⟨A, c, h1, h2, h3, h4.keep (fun _ _ => rfl) fun _ _ => trivial⟩
theorem PagesV.below {w w' : World} {C : Nat → Prop} {v : Value} {l : List (List UInt8)} (h : PagesV w C v l) (hb : Below w.heap.size w w') : PagesV w' (fun _ => True) v l := by
  obtain ⟨A, c, e, h1, h2⟩ := h
  refine ⟨A, c, e, h1, fun hl => ?_⟩
  obtain ⟨G, e2, _, h3⟩ := h2 hl
  refine ⟨G, e2, trivial, fun j hj => ?_⟩
  have hG := page_lt (h3 j hj)
  obtain ⟨A1, c1, h11, h12, h13, h14⟩ := h3 j hj
  refine ⟨A1, c1, (hb.cell (p := ⟨G, j, none⟩) hG).trans h11, h12, h13, fun hn => ?_⟩
  obtain ⟨ad, e3, h4, h5⟩ := (cb_rb h14).below hb (Nat.le_refl _) hn
  exact ⟨ad, e3, trivial, h5⟩
set_option maxRecDepth 100000 in
set_option maxHeartbeats 1000000 in
theorem at_any (i : Int) (h : ChipAt w p q cap g C S) : Calls Try.prog 32 #[.pointer (some ⟨p, 0, none⟩), .int .i64 i] w (AtPost (tellR S i) w) := by
  have h1 := h.alloc (.cells #[.bool false, .int .i64 0, .int .i64 0, .slice none 0 0] 38)
  have hb1 := Lib.hid ((Below.refl w.heap.size w).alloc (Nat.le_refl _) (.cells #[.bool false, .int .i64 0, .int .i64 0, .slice none 0 0] 38))
  have R0 := heap_alloc_new w (.cells #[.bool false, .int .i64 0, .int .i64 0, .slice none 0 0] 38)
  have RH := Lib.hid R0
  obtain ⟨c0, _, _, _, _, _, _, _, _, _⟩ := cells10 h1.self
  by_cases hin : 0 ≤ i ∧ i < (S.bl.length : Int)
  · obtain ⟨k, rfl⟩ : ∃ k : Nat, i = (k : Int) := ⟨i.toNat, by omega⟩
    have hk : k < S.bl.length := by omega
    have hbk := h1.blocks k hk
    have r0 := hbk.bad
    have r1 := hbk.next
    have r2 := hbk.count
    have r3 := hbk.row
    have HV := Lib.hid (h.pagesV hk)
    have HK := Lib.hid (show tellR S (k : Int) = S.bl[k] by unfold tellR; rw [if_pos hin, blkS_at hk])
    have hq := h.lt q (.inr (.inl rfl))
    have hqn : q ≠ w.heap.size := by omega
    have hqn' : w.heap.size ≠ q := by omega
    clear hbk h1 h R0
    go_enter Try.func32, Try.ntmps32
    go_wp2
    refine bodyPost_ret (results_cell_row rfl _ _ w.heap.size _ _ _ _ rfl (heap_alloc_new _ _) Try.underlying38 rfl (by kernel_rfl)) rfl ?_
    have hb9 := (Below.refl w.heap.size w).alloc (Nat.le_refl _) (.cells #[.bool S.bl[k].bad, .int .i64 S.bl[k].next, .int .i64 S.bl[k].count, .slice (some ⟨g k, 0, none⟩) S.np S.np] 38)
    refine ⟨_, by rw [HK.out]; rfl, by rw [HK.out]; exact HV.out.below hb9, hb9⟩
  · have HK := Lib.hid (show tellR S i = noB by unfold tellR; rw [if_neg hin])
    have hx : i < 0 ∨ (S.bl.length : Int) ≤ i := by omega
    clear hin h1 h R0
    rcases hx with hx | hx
    · go_enter Try.func32, Try.ntmps32
      go_wp2
      refine bodyPost_ret (results_cell_row rfl _ _ w.heap.size _ _ _ _ rfl (heap_alloc_new _ _) Try.underlying38 rfl (by kernel_rfl)) rfl ?_
      refine ⟨_, by rw [HK.out]; rfl, by rw [HK.out]; exact ⟨none, 0, rfl, Nat.le_refl _, fun h => absurd h (by simp [noB])⟩, hb1.out⟩
    · have hx1 : (0 : Int) ≤ i := by omega
      go_enter Try.func32, Try.ntmps32
      go_wp2
      refine bodyPost_ret (results_cell_row rfl _ _ w.heap.size _ _ _ _ rfl (heap_alloc_new _ _) Try.underlying38 rfl (by kernel_rfl)) rfl ?_
      refine ⟨_, by rw [HK.out]; rfl, by rw [HK.out]; exact ⟨none, 0, rfl, Nat.le_refl _, fun h => absurd h (by simp [noB])⟩, hb1.out⟩
end
end Go.Proofs.Ytchghdpfgamfpaa
