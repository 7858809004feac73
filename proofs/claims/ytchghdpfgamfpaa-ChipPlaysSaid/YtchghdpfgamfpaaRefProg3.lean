/- The reference's chip: Program where nothing refuses it: what its walk keeps. -/
import Derived.Deep.RegionWith
import Derived.Test.YtchghdpfgamfpaaRefProg2
import Derived.Test.YtchghdpfgamfpaaLProg3
namespace Go.Proofs.Ytchghdpfgamfpaa
open Go.RowKit
section
variable {p q cap : Nat} {g : Nat → Nat} {C E : Nat → Prop} {S : CS} {w : World}
theorem ChipAt.drewN (h : ChipAt w p q cap g C S) (n : Nat) : ChipAt (w.drewN n) p q cap g C S := h.below (drewN_below (Below.refl _ _) n)
/-- The program is counted, the page is taken. -/
def CS.began (S : CS) (i j : Nat) (hi : i < S.bl.length) : CS := { S with pr := wrap64 (S.pr + 1), bl := S.bl.set i { S.bl[i] with next := (j : Int) + 1 } }
def CS.told (S : CS) (i j : Nat) (hi : i < S.bl.length) : CS := { S.began i j hi with cuts := leftS S.cuts, fails := leftS S.fails }
structure Mid (w wx : World) (p q cap : Nat) (g : Nat → Nat) (C : Nat → Prop) (n i j : Nat) (S : CS) : Prop where
  chip : ChipAt wx p q cap g C S
  turned : Turned (Own p q g C n) w wx
  box : ∃ t, wx.heap[w.heap.size]? = some (.cells #[.int .i64 i, .int .i64 j] t (0, 0))
theorem Mid.step {w a b : World} {n i j : Nat} {S S' : CS} (h : Mid w a p q cap g C n i j S) (hp : p < w.heap.size) (hc : ChipAt b p q cap g C S') (ht : Turned (fun b => b = p) a b) : Mid w b p q cap g C n i j S' where
  chip := hc
  turned := h.turned.trans ht fun k _ e => .inl e
  box := by
    obtain ⟨t, e⟩ := h.box
    exact ⟨t, (ht.block _ (lt_size e) (fun e' => by omega)).trans e⟩
theorem Mid.name {w a : World} {n i j : Nat} {S : CS} (h : Mid w a p q cap g C n i j S) : ∃ wm, wm = a ∧ Mid w wm p q cap g C n i j S := ⟨_, rfl, h⟩
theorem Mid.drew {w a : World} {n i j : Nat} {S : CS} (h : Mid w a p q cap g C n i j S) : Mid w a.drew p q cap g C n i j S := ⟨h.chip.drew, h.turned.drew, h.box⟩
theorem Mid.below {w a b : World} {n i j : Nat} {S : CS} (h : Mid w a p q cap g C n i j S) (hb : Below a.heap.size a b) : Mid w b p q cap g C n i j S := by
  obtain ⟨t, e⟩ := h.box
  exact ⟨h.chip.below hb, h.turned.trans (G := fun _ => False) (.of_below hb) (fun _ _ h => h.elim), t, (hb.block _ (lt_size e)).trans e⟩
theorem told_at (S : CS) (i j : Nat) (hi : i < S.bl.length) (hi' : i < (S.told i j hi).bl.length) : (S.told i j hi).bl[i] = { S.bl[i] with next := (j : Int) + 1 } := by simp [CS.told, CS.began]
theorem told_len (S : CS) (i j : Nat) (hi : i < S.bl.length) : (S.told i j hi).bl.length = S.bl.length := by simp [CS.told, CS.began]
theorem told_put (S : CS) (i j : Nat) (hi : i < S.bl.length) (hi' : i < (S.told i j hi).bl.length) (hbad : S.bl[i].bad = false) (hn : S.bl[i].next = (j : Int)) (L : List UInt8) :
    (S.told i j hi).bl.set i { (S.told i j hi).bl[i] with pages := (S.told i j hi).bl[i].pages.set j L } = putS S i j false L := by
  rw [told_at S i j hi hi']
  simp [CS.told, CS.began, putS, blkS, hi, hbad, hn]
/-- The page is written. -/
theorem Mid.done {w a b : World} {i j c2 : Nat} {A2 : Option Addr} {L : List UInt8} {S : CS} (hi : i < S.bl.length) (h : Mid w a p q cap g C S.bl.length i j (S.told i j hi)) (hw : ∀ k, Own p q g C S.bl.length k → k < w.heap.size) (hn : NewB a b A2 L) (hc : L.length ≤ c2) (hl : L.length ≤ 2000) (hbad : S.bl[i].bad = false) (hx : S.bl[i].next = (j : Int)) :
    ∃ D, ChipAt (b.setCell ⟨g i, j, none⟩ (.slice A2 L.length c2)) p q cap g D { S.told i j hi with bl := putS S i j false L } ∧ (∀ k, D k → C k ∨ (w.heap.size ≤ k ∧ k < (b.setCell ⟨g i, j, none⟩ (.slice A2 L.length c2)).heap.size)) ∧ Turned (Own p q g C S.bl.length) w (b.setCell ⟨g i, j, none⟩ (.slice A2 L.length c2)) := by
  have hb := h.below hn.2
  have hi' : i < (S.told i j hi).bl.length := by rw [told_len]; exact hi
  have hs := h.turned.size
  have := hb.chip.page_set (D := fun k => C k ∨ (a.heap.size ≤ k ∧ k < b.heap.size)) (j := j) hi' hc hl (fun _ h => .inl h) (fun k hk => by
    rcases hk with hk | ⟨h1, h2⟩
    · exact ⟨hb.chip.cp k hk, hb.chip.cl k hk⟩
    · refine ⟨⟨fun e => ?_, fun e => ?_, fun m hm e => ?_⟩, h2⟩
      · have := hw p (.inl rfl); omega
      · have := hw q (.inr (.inl rfl)); omega
      · rw [told_len] at hm
        have := hw (g m) (.inr (.inr (.inl ⟨m, hm, rfl⟩))); omega) (hn.1.keep (fun _ _ => rfl) fun _ h => .inr h)
  rw [told_put S i j hi hi' hbad hx L] at this
  refine ⟨_, this, fun k hk => ?_, hb.turned.setCell (fun _ => .inr (.inr (.inl ⟨i, hi, rfl⟩))) _⟩
  rcases hk with hk | ⟨h1, h2⟩
  · exact .inl hk
  · exact .inr ⟨by omega, by simpa using h2⟩
theorem progS_told {S : CS} {i j : Nat} {l : List UInt8} (hh : hasS S i j = true) (h1 : 1 ≤ l.length) (h2 : l.length ≤ 2000) (hd : S.dark = false) (hi : i < S.bl.length) (hbad : S.bl[i].bad = false) (hn : S.bl[i].next = (j : Int)) :
    progS S i j l = if comesS S.cuts = true then (2, { S.told i j hi with dark := true, bl := putS S i j false (l.take (min S.keep.toNat l.length)) })
      else if comesS S.fails = true then (3, { S.told i j hi with bl := putS S i j true (l.take (l.length / 2)) }) else (0, { S.told i j hi with bl := putS S i j false l }) := by
  unfold progS
  rw [if_neg (prog_in hh h1 h2), if_neg (by rw [hd]; simp), blkS_at hi, if_neg (by rw [hbad]; simp), if_neg (by rw [hn]; simp)]
  rfl
theorem putS_bad {S : CS} {i j : Nat} (hi : i < S.bl.length) (L : List UInt8) : (putS S i j false L).set i { (putS S i j false L)[i]'(by simpa [putS] using hi) with bad := true } = putS S i j true L := by
  simp [putS]
/-- What a walk wants of the block. -/
theorem Mid.facts {w a : World} {i j : Nat} {S : CS} (hi : i < S.bl.length) (hj : j < S.np) (h : Mid w a p q cap g C S.bl.length i j (S.told i j hi)) :
    a.cell? ⟨q, i * 4 + 3, none⟩ = some (.slice (some ⟨g i, 0, none⟩) S.np S.np) ∧ (∃ v, a.cell? ⟨g i, j, none⟩ = some v) ∧ a.frozen? ⟨g i, j, none⟩ = false ∧ a.cell? ⟨w.heap.size, 0, none⟩ = some (.int .i64 i) ∧ a.cell? ⟨w.heap.size, 1, none⟩ = some (.int .i64 j) ∧ a.cell? ⟨p, 5, none⟩ = some (.int .i64 S.keep) ∧ a.frozen? ⟨p, 6, none⟩ = false ∧ a.frozen? ⟨q, i * 4, none⟩ = false ∧ (∃ v, a.cell? ⟨p, 6, none⟩ = some v) ∧ (∃ v, a.cell? ⟨q, i * 4, none⟩ = some v) := by
  have hi' : i < (S.told i j hi).bl.length := by rw [told_len]; exact hi
  have hb := h.chip.blocks i hi'
  obtain ⟨t, e⟩ := h.box
  obtain ⟨d0, d1, _, _⟩ := cells2' e
  obtain ⟨c0, c1, c2, c3, c4, c5, c6, c7, c8, c9⟩ := cells10 h.chip.self
  obtain ⟨cs, ct, hg⟩ := hb.plain
  obtain ⟨qs, qt, hq⟩ := h.chip.plain
  obtain ⟨A, c, hpg, _⟩ := hb.pages j (by rw [hb.len]; exact hj)
  exact ⟨hb.row, ⟨_, hpg⟩, frozen10 hg j, d0, d1, c5, frozen10 h.chip.self 6, frozen10 hq _, ⟨_, c6⟩, ⟨_, hb.bad⟩⟩
end
end Go.Proofs.Ytchghdpfgamfpaa
