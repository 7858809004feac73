/- slices.Grow, slices.Concat of two lists of what was found (written by catl.py). -/
import Derived.Test.YtnadcdgpfopcaaaGreatPoD3
import Derived.Test.YtnadcdgpfopcaaaGreatGs
import Derived.Lib.AppendZeros
namespace Go.Proofs.YtnadcdgpfopcaaaGreat
open Go.RowKit

set_option maxRecDepth 100000 in
theorem growf_any (n : Nat) (w : World) (h : n ≤ 1000000) : Calls Tryz.prog 193 #[.slice none 0 0, .int .i64 n] w fun e w' => ∃ v, e = .returned v ∧ w'.ownsRow w.heap.size 71 4 v 0 [] ∧ Below w.heap.size w w' := by
  by_cases h0 : n = 0
  · subst h0
    go_enter Tryz.func193, Tryz.ntmps193
    go_wp2
    go_ret
    exact ⟨_, rfl, World.ownsRow_nil _ _ _ _, Below.refl _ _⟩
  · obtain ⟨i0, hi, hz0, hz1, hz2⟩ := found_parts
    have hrun := fun ty => Lib.run_append_nil_zeros (P := Tryz.prog) w 62 3 ty 71 i0 _ .i64 .i64 Tryz.underlying62 Tryz.underlying3 hi hz0 n (by omega) (by omega) (by omega) (by rw [hz2]; omega)
    have hge := grownCap_ge w n 0 71
    have hmx := grownCap_le_maxLen w n 0 71 (by unfold maxLen; omega)
    obtain ⟨G, hG⟩ : ∃ G, G = grownCap w n 0 71 := ⟨_, rfl⟩
    rw [← hG] at hrun hge hmx
    clear hG
    go_enter Tryz.func193, Tryz.ntmps193
    go_wp2_with (at_builtin; refine Lib.wpList_append_run _ rfl _ _ _ _ rfl _ _ rfl rfl _ _ (hrun _) ?_)
    go_ret
    exact ⟨_, rfl, World.ownsRow_made w.drew _ G (Nat.le_refl _) hmx (by simp [Builtin.zeroCells]; omega), (Below.refl _ _).drew.alloc (Nat.le_refl _) _⟩

theorem growf_int (x : Int) (n : Nat) (w : World) (hx : x = n) (h : n ≤ 1000000) : Calls Tryz.prog 193 #[.slice none 0 0, .int .i64 x] w fun e w' => ∃ v, e = .returned v ∧ w'.ownsRow w.heap.size 71 4 v 0 [] ∧ Below w.heap.size w w' := by
  subst hx
  exact growf_any n w h
set_option maxRecDepth 100000 in
set_option maxHeartbeats 1000000 in
theorem concatf_any (g : Nat) (A1 A2 : Option Addr) (c1 c2 k : Nat) (l1 l2 : List Fd) (w : World) (hg : w.heap[g]? = some (.cells #[.slice A1 l1.length c1, .slice A2 l2.length c2] 62 (0, 0)))
    (h1 : FLies w A1 l1) (h2 : FLies w A2 l2) (e1 : A1 = none → l1.length = 0 ∧ c1 = 0) (e2 : A2 = none → l2.length = 0 ∧ c2 = 0) (hl1 : l1.length ≤ 400) (hl2 : l2.length ≤ 400) :
    Calls Tryz.prog 181 #[.slice (some ⟨g, 0, none⟩) 2 k] w fun e w' => ∃ A c, e = .returned (.slice A (l1 ++ l2).length c) ∧ FLies w' A (l1 ++ l2) ∧ (∀ ad, A = some ad → w.heap.size ≤ ad.block) ∧ Below w.heap.size w w' := by
  have n1 : A1 = none → l1 = [] ∧ c1 = 0 := fun e => ⟨List.length_eq_zero_iff.1 (e1 e).1, (e1 e).2⟩
  have n2 : A2 = none → l2 = [] ∧ c2 = 0 := fun e => ⟨List.length_eq_zero_iff.1 (e2 e).1, (e2 e).2⟩
  have N1 := Lib.hid n1
  have N2 := Lib.hid n2
  clear n1 n2 e1 e2
  have hgl := lt_size hg
  have hc0 : w.cell? ⟨g, 0, none⟩ = some (.slice A1 l1.length c1) := by simp [World.cell?, hg]
  have hc1 : w.cell? ⟨g, 1, none⟩ = some (.slice A2 l2.length c2) := by simp [World.cell?, hg]
  go_enter Tryz.func181, Tryz.ntmps181
  go_wp2
  refine wp_loop_rounds 3 ?_
  rw [rounds_succ]
  go_wp2
  rw [rounds_succ]
  go_wp2
  rw [rounds_succ]
  go_wp2_with fail
  refine (growf_int _ (l1.length + l2.length) _ (by omega) (by omega)).mono ?_
  rintro e w1 ⟨v, rfl, hown, hb⟩
  obtain ⟨p, cap, rfl, _⟩ := own_slice hown
  have hs1 := hb.size
  have hc0' : w1.cell? ⟨g, 0, none⟩ = some (.slice A1 l1.length c1) := (hb.cell (p := ⟨g, 0, none⟩) hgl).trans hc0
  have hc1' : w1.cell? ⟨g, 1, none⟩ = some (.slice A2 l2.length c2) := (hb.cell (p := ⟨g, 1, none⟩) hgl).trans hc1
  have r1 := Lib.hid (h1.below hb)
  have r2 := Lib.hid (h2.below hb)
  clear hc0 hc1
  go_wp2
  refine wp_loop_rounds 3 ?_
  rw [rounds_succ]
  go_wp2_with (at_builtin; refine wpList_fapp rfl _ _ rfl w.heap.size _ [] l1 A1 c1 rfl rfl hown r1.out N1.out (by simp; omega) hs1 ?_; intro p1 cap1 w2 hown1 hg1)
  rw [rounds_succ]
  simp only [List.nil_append, List.length_nil, Nat.zero_add] at hown1
  have hb1 := hb.grown hg1 hs1 fun k e => (hown.lt k e).1
  have hs2 := hb1.size
  have hc1'' : w2.cell? ⟨g, 1, none⟩ = some (.slice A2 l2.length c2) := (World.cell?_of_block (hg1.block g (by omega) fun e => by have := (hown.lt g e.symm).1; omega)).trans hc1'
  have r2' := Lib.hid (h2.below hb1)
  clear hc0' hc1'
  go_wp2_with (at_builtin; refine wpList_fapp rfl _ _ rfl w.heap.size _ l1 l2 A2 c2 rfl rfl hown1 r2'.out N2.out (by omega) hs2 ?_; intro p2 cap2 w3 hown2 hg2)
  rw [rounds_succ]
  have hb2 := hb1.grown hg2 hs2 fun k e => (hown1.lt k e).1
  go_wp2
  go_ret
  exact ⟨p2, cap2, by rw [List.length_append]; rfl, hown2.lies.1, hown2.lies.2.2.1, hb2⟩
end Go.Proofs.YtnadcdgpfopcaaaGreat
