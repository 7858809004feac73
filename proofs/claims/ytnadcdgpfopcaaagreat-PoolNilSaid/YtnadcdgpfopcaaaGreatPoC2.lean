/- A pool: gone, Undo, at; a table that is laid in the place of another. -/
import Derived.Test.YtnadcdgpfopcaaaGreatPoC1
import Derived.Deep.RegionHeld3
import Derived.Deep.DeepCutAuto
namespace Go.Proofs.YtnadcdgpfopcaaaGreat
open Go.RowKit

section
variable {w w' : World} {p c l f : Nat} {x X Y Z : Nat → Prop} {Q : PS} {T : List Fd}
theorem PoolAt.below (h1 : PoolAt w p c l f X Y Z Q) (hb : Below w.heap.size w w') : PoolAt w' p c l f X Y Z Q := by
  have hs := hb.size
  have h0 := lt_size h1.self
  have ht : ∀ V : Nat → Prop, Turned (Off w V) w w' := fun V => .of_below hb
  refine ⟨(hb.block p h0).trans h1.self, ?_, ?_, ?_, fun b k => ?_, fun b k => ?_, fun b k => ?_⟩
  · exact (h1.chip.grow (ht X)).less fun b k => off_new hs k
  · exact (h1.live.grow (ht Y)).less fun b k => off_new hs k
  · exact (h1.fresh.grow (ht Z)).less fun b k => off_new hs k
  · obtain ⟨a, b1, c1, d⟩ := h1.xy b k; exact ⟨a, b1, c1, by omega⟩
  · obtain ⟨a, b1, d⟩ := h1.yz b k; exact ⟨a, b1, by omega⟩
  · obtain ⟨a, d⟩ := h1.zp b k; exact ⟨a, by omega⟩
/-- A new table is laid in the place of what was new. -/
theorem Pool.freshen {t : Nat} (h : Pool w p c x Q) (hb : Below w.heap.size w w') (ht : Tab w' t (fun b => b < w.heap.size) T) : Pool (w'.setCell ⟨p, 8, none⟩ (.pointer (some ⟨t, 0, none⟩))) p c x { Q with F := T } ∧ Safe x w (w'.setCell ⟨p, 8, none⟩ (.pointer (some ⟨t, 0, none⟩))) := by
  obtain ⟨l, f, X, Y, Z, h1, h2⟩ := h
  have h3 := h1.below hb
  have h0 := lt_size h1.self
  have hs := hb.size
  have hz : (w'.setCell ⟨p, 8, none⟩ (.pointer (some ⟨t, 0, none⟩))).heap.size = w'.heap.size := by simp
  have hf : ∀ b, b ≠ p → (w'.setCell ⟨p, 8, none⟩ (.pointer (some ⟨t, 0, none⟩))).heap[b]? = w'.heap[b]? := fun b hb => Below.heap_setCell w' ⟨p, 8, none⟩ _ b hb
  have hw : ∀ V : Nat → Prop, (∀ b, V b → b ≠ p) → Turned (Off w' V) w' (w'.setCell ⟨p, 8, none⟩ (.pointer (some ⟨t, 0, none⟩))) := fun V hV => (Turned.refl _ w').setCell (fun hp => ⟨hp, fun k => hV p k rfl⟩) _
  refine ⟨⟨l, t, X, Y, New w w', ⟨?_, ?_, ?_, ?_, fun b k => ?_, fun b k => ?_, fun b k => ?_⟩, fun b k => ?_⟩, ⟨hb.os, hb.tape, hb.output, by omega, fun i hi k => ?_⟩⟩
  · rw [heap_setCell_same w' p 8 _ _ _ h3.self]; simp [PS.cells]
  · exact (h3.chip.grow (hw X fun b k => (h3.xy b k).2.2.1)).less fun b k => .inl ⟨by rw [← hz]; exact k.1, k.2⟩
  · exact (h3.live.grow (hw Y fun b k => (h3.yz b k).2.1)).less fun b k => .inl ⟨by rw [← hz]; exact k.1, k.2⟩
  · have h4 : Tab w' t (Off w' (New w w')) T := ht.less fun b k => by
      rcases Nat.lt_or_ge b w.heap.size with e | e
      · exact e
      · exact absurd ⟨e, k.1⟩ k.2
    exact (h4.grow (hw (New w w') fun b k => by have := k.1; omega)).less fun b k => .inl ⟨by rw [← hz]; exact k.1, k.2⟩
  · rw [hz]
    have h5 := h1.xy b k
    exact ⟨h5.1, fun e => by have := e.1; omega, h5.2.2.1, by omega⟩
  · rw [hz]
    have h5 := h1.yz b k
    exact ⟨fun e => by have := e.1; omega, h5.2.1, by omega⟩
  · rw [hz]
    exact ⟨by have := k.1; omega, k.2⟩
  · rw [hz]
    obtain ⟨a, b1, c1, d, e⟩ := h2 b k
    exact ⟨by omega, b1, c1, fun e => by have := e.1; omega, e⟩
  · exact (hf i fun e => k fun hx => (h2 i hx).2.2.2.2 e).trans (hb.block i hi)
/-- A new table is laid in the place of what was live. -/
theorem Pool.relive {t : Nat} (h : Pool w p c x Q) (hb : Below w.heap.size w w') (ht : Tab w' t (fun b => b < w.heap.size) T) : Pool (w'.setCell ⟨p, 7, none⟩ (.pointer (some ⟨t, 0, none⟩))) p c x { Q with L := T } ∧ Safe x w (w'.setCell ⟨p, 7, none⟩ (.pointer (some ⟨t, 0, none⟩))) := by
  obtain ⟨l, f, X, Y, Z, h1, h2⟩ := h
  have h3 := h1.below hb
  have h0 := lt_size h1.self
  have hs := hb.size
  have hz : (w'.setCell ⟨p, 7, none⟩ (.pointer (some ⟨t, 0, none⟩))).heap.size = w'.heap.size := by simp
  have hf : ∀ b, b ≠ p → (w'.setCell ⟨p, 7, none⟩ (.pointer (some ⟨t, 0, none⟩))).heap[b]? = w'.heap[b]? := fun b hb => Below.heap_setCell w' ⟨p, 7, none⟩ _ b hb
  have hw : ∀ V : Nat → Prop, (∀ b, V b → b ≠ p) → Turned (Off w' V) w' (w'.setCell ⟨p, 7, none⟩ (.pointer (some ⟨t, 0, none⟩))) := fun V hV => (Turned.refl _ w').setCell (fun hp => ⟨hp, fun k => hV p k rfl⟩) _
  refine ⟨⟨t, f, X, New w w', Z, ⟨?_, ?_, ?_, ?_, fun b k => ?_, fun b k => ?_, fun b k => ?_⟩, fun b k => ?_⟩, ⟨hb.os, hb.tape, hb.output, by omega, fun i hi k => ?_⟩⟩
  · rw [heap_setCell_same w' p 7 _ _ _ h3.self]; simp [PS.cells]
  · exact (h3.chip.grow (hw X fun b k => (h3.xy b k).2.2.1)).less fun b k => .inl ⟨by rw [← hz]; exact k.1, k.2⟩
  · have h4 : Tab w' t (Off w' (New w w')) T := ht.less fun b k => by
      rcases Nat.lt_or_ge b w.heap.size with e | e
      · exact e
      · exact absurd ⟨e, k.1⟩ k.2
    exact (h4.grow (hw (New w w') fun b k => by have := k.1; omega)).less fun b k => .inl ⟨by rw [← hz]; exact k.1, k.2⟩
  · exact (h3.fresh.grow (hw Z fun b k => (h3.zp b k).1)).less fun b k => .inl ⟨by rw [← hz]; exact k.1, k.2⟩
  · rw [hz]
    have h5 := h1.xy b k
    exact ⟨fun e => by have := e.1; omega, h5.2.1, h5.2.2.1, by omega⟩
  · rw [hz]
    exact ⟨fun e => by have := (h1.zp b e).2; have := k.1; omega, by have := k.1; omega, k.2⟩
  · rw [hz]
    have h5 := h1.zp b k
    exact ⟨h5.1, by omega⟩
  · rw [hz]
    obtain ⟨a, b1, c1, d, e⟩ := h2 b k
    exact ⟨by omega, b1, fun e => by have := e.1; omega, d, e⟩
  · exact (hf i fun e => k fun hx => (h2 i hx).2.2.2.2 e).trans (hb.block i hi)
set_option maxRecDepth 100000 in
set_option maxHeartbeats 1000000 in
theorem q_gone (h : Pool w p c x Q) : Calls Tryz.prog 58 #[.pointer (some ⟨p, 0, none⟩)] w fun e w' => e = .returned (.bool Q.gone.down) ∧ Pool w' p c x Q.gone ∧ Safe x w w' := by
  obtain ⟨l, f, hp⟩ := h.parts
  have HR := Lib.hid (Pool.set (j := 11) (u := .bool (Q.down || Q.S.dark)) (Q' := Q.gone) h rfl rfl rfl (fun l f => by simp [PS.cells, PS.gone]))
  obtain ⟨l2, f2, hp2⟩ := HR.out.1.parts
  have c11 := hp.c11
  have c0 := hp.c0
  have fr := hp.fr 11
  have d11 := hp2.c11
  have HC := Lib.hid hp.chip
  clear h hp hp2
  cases hd : Q.down with
  | true =>
    have HD : Hid ((Q.down || Q.S.dark) = true) := Lib.hid (by rw [hd]; rfl)
    have HG : Hid (Q.gone.down = true) := HD
    rw [HG.out] at d11 ⊢
    rw [HD.out] at HR d11
    rw [hd] at c11
    clear hd
    go_enter Tryz.func58, Tryz.ntmps58
    go_wp2_with fail
    go_ret
    exact ⟨rfl, HR.out.1, HR.out.2⟩
  | false =>
    have HD : Hid ((Q.down || Q.S.dark) = Q.S.dark) := Lib.hid (by rw [hd]; rfl)
    have HG : Hid (Q.gone.down = Q.S.dark) := HD
    rw [HG.out] at d11 ⊢
    rw [HD.out] at HR d11
    rw [hd] at c11
    clear hd
    go_enter Tryz.func58, Tryz.ntmps58
    go_wp2_with (go_at_call 18; refine (held_down HC.out).mono ?_; rintro e w1 ⟨rfl, rfl⟩)
    go_ret
    exact ⟨rfl, HR.out.1, HR.out.2⟩
set_option maxRecDepth 100000 in
set_option maxHeartbeats 1000000 in
theorem q_undo (h : Pool w p c x Q) : Calls Tryz.prog 12 #[.pointer (some ⟨p, 0, none⟩)] w fun e w' => e = .returned (.tuple #[]) ∧ Pool w' p c x Q.undo ∧ Safe x w w' := by
  have HP := Lib.hid h
  obtain ⟨l, f, hp⟩ := h.parts
  have HFr : Hid (∀ W, Below w.heap.size w W → W.frozen? ⟨p, 8, none⟩ = false) := Lib.hid fun W hb => (hp.below hb).fr 8
  have HC : Hid (∀ W, Below w.heap.size w W → W.cell? ⟨p, 8, none⟩ = some (.pointer (some ⟨f, 0, none⟩))) := Lib.hid fun W hb => (hp.below hb).c8
  clear h hp
  go_enter Tryz.func12, Tryz.ntmps12
  go_wp2_with (go_at_call 43; refine (newT_any _).mono ?_; rintro e w1 ⟨t, rfl, ht, hb1⟩; have HT := Lib.hid ht; have HB := Lib.hid hb1; have fr := HFr.out w1 hb1; have c8 := HC.out w1 hb1; clear ht hb1)
  go_end0
  exact ⟨rfl, Pool.freshen HP.out HB.out HT.out⟩
theorem q_undo_nil (w : World) : Calls Tryz.prog 12 #[.pointer none] w fun e w' => e = .returned (.tuple #[]) ∧ w = w' := by
  go_enter Tryz.func12, Tryz.ntmps12
  go_wp2_with fail
  go_end0
  exact ⟨rfl, rfl⟩
end
end Go.Proofs.YtnadcdgpfopcaaaGreat
