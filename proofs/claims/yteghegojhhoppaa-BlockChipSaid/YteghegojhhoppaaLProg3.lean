/- The landed chip: Program where nothing refuses it: what its walk keeps. -/
import Derived.Deep.RegionWith
import Derived.Deep.Cut
import Derived.Deep.CutBlock
import Derived.Deep.CutRange
import Derived.Test.YteghegojhhoppaaLRead
namespace Go.Proofs.Yteghegojhhoppaa
open Go.RowKit
section
variable {p q cap : Nat} {g : Nat → Nat} {C E : Nat → Prop} {S : LS} {w : World}
def putL (S : LS) (b pg : Int) (bad : Bool) (l : List UInt8) : List Bk :=
  S.bl.set b.toNat { blkL S b with bad := bad, next := (blkL S b).next + 1, pages := (blkL S b).pages.set pg.toNat l }
def progL (S : LS) (b pg : Int) (l : List UInt8) : Int × LS :=
  if refS S b pg l.length ≠ 0 then (refS S b pg l.length, S)
  else if S.c.hit = true then (2, { S with pr := wrap64 (S.pr + 1), f := S.f.tick, c := S.c.tick, dark := true, bl := putL S b pg false (l.take S.keep.toNat) })
  else if S.f.hit = true then (3, { S with pr := wrap64 (S.pr + 1), f := S.f.tick, c := S.c.tick, bl := putL S b pg true (l.take (l.length / 2)) })
  else (0, { S with pr := wrap64 (S.pr + 1), f := S.f.tick, c := S.c.tick, bl := putL S b pg false l })
def LProgPost (p q cap : Nat) (g : Nat → Nat) (C : Nat → Prop) (S : LS) (b pg : Int) (l : List UInt8) (w : World) (e : Ending) (w' : World) : Prop :=
  e = .returned (.int .i64 (progL S b pg l).1) ∧ ∃ D, LAt w' p q cap g D (progL S b pg l).2 ∧ (∀ k, D k → C k ∨ (w.heap.size ≤ k ∧ k < w'.heap.size)) ∧ Turned (Own p q g C S.bl.length) w w'
theorem Turned.drewN {F : Nat → Prop} {a b : World} (h : Turned F a b) (n : Nat) : Turned F a (b.drewN n) := ⟨h.os, h.tape, h.output, h.size, h.block⟩
/-- The program is counted, the page is taken. -/
def LS.began (S : LS) (i j : Nat) (hi : i < S.bl.length) : LS := { S with pr := wrap64 (S.pr + 1), bl := S.bl.set i { S.bl[i] with next := (j : Int) + 1 } }
def LS.told (S : LS) (i j : Nat) (hi : i < S.bl.length) : LS := { S.began i j hi with f := S.f.tick, c := S.c.tick }
structure LMid (w wx : World) (p q cap : Nat) (g : Nat → Nat) (C : Nat → Prop) (n i j : Nat) (S : LS) : Prop where
  chip : LAt wx p q cap g C S
  turned : Turned (Own p q g C n) w wx
  box : ∃ t, wx.heap[w.heap.size]? = some (.cells #[.int .i64 i, .int .i64 j] t (0, 0))
theorem LMid.step {w a b : World} {n i j : Nat} {S S' : LS} (h : LMid w a p q cap g C n i j S) (hp : p < w.heap.size) (hc : LAt b p q cap g C S') (ht : Turned (fun b => b = p) a b) : LMid w b p q cap g C n i j S' where
  chip := hc
  turned := h.turned.trans ht fun k _ e => .inl e
  box := by
    obtain ⟨t, e⟩ := h.box
    exact ⟨t, (ht.block _ (lt_size e) (fun e' => by omega)).trans e⟩
theorem LMid.name {w a : World} {n i j : Nat} {S : LS} (h : LMid w a p q cap g C n i j S) : ∃ wm, wm = a ∧ LMid w wm p q cap g C n i j S := ⟨_, rfl, h⟩
theorem LMid.drew {w a : World} {n i j : Nat} {S : LS} (h : LMid w a p q cap g C n i j S) : LMid w a.drew p q cap g C n i j S := ⟨h.chip.drew, h.turned.drew, h.box⟩
theorem LMid.below {w a b : World} {n i j : Nat} {S : LS} (h : LMid w a p q cap g C n i j S) (hb : Below a.heap.size a b) : LMid w b p q cap g C n i j S := by
  obtain ⟨t, e⟩ := h.box
  exact ⟨h.chip.below hb, h.turned.trans (G := fun _ => False) (.of_below hb) (fun _ _ h => h.elim), t, (hb.block _ (lt_size e)).trans e⟩
theorem tellL_at (S : LS) (i j : Nat) (hi : i < S.bl.length) (hi' : i < (S.told i j hi).bl.length) : (S.told i j hi).bl[i] = { S.bl[i] with next := (j : Int) + 1 } := by simp [LS.told, LS.began]
theorem tellL_len (S : LS) (i j : Nat) (hi : i < S.bl.length) : (S.told i j hi).bl.length = S.bl.length := by simp [LS.told, LS.began]
theorem tellL_put (S : LS) (i j : Nat) (hi : i < S.bl.length) (hi' : i < (S.told i j hi).bl.length) (hbad : S.bl[i].bad = false) (hn : S.bl[i].next = (j : Int)) (L : List UInt8) :
    (S.told i j hi).bl.set i { (S.told i j hi).bl[i] with pages := (S.told i j hi).bl[i].pages.set j L } = putL S i j false L := by
  rw [tellL_at S i j hi hi']
  simp [LS.told, LS.began, putL, blkL, hi, hbad, hn]
/-- The page is written. -/
theorem LMid.done {w a b : World} {i j c2 : Nat} {A2 : Option Addr} {L : List UInt8} {S : LS} (hi : i < S.bl.length) (h : LMid w a p q cap g C S.bl.length i j (S.told i j hi)) (hw : ∀ k, Own p q g C S.bl.length k → k < w.heap.size) (hn : NewB a b A2 L) (hc : L.length ≤ c2) (hl : L.length ≤ 2000) (hbad : S.bl[i].bad = false) (hx : S.bl[i].next = (j : Int)) :
    ∃ D, LAt (b.setCell ⟨g i, j, none⟩ (.slice A2 L.length c2)) p q cap g D { S.told i j hi with bl := putL S i j false L } ∧ (∀ k, D k → C k ∨ (w.heap.size ≤ k ∧ k < (b.setCell ⟨g i, j, none⟩ (.slice A2 L.length c2)).heap.size)) ∧ Turned (Own p q g C S.bl.length) w (b.setCell ⟨g i, j, none⟩ (.slice A2 L.length c2)) := by
  have hb := h.below hn.2
  have hi' : i < (S.told i j hi).bl.length := by rw [tellL_len]; exact hi
  have hs := h.turned.size
  have := hb.chip.page_set (D := fun k => C k ∨ (a.heap.size ≤ k ∧ k < b.heap.size)) (j := j) hi' hc hl (fun _ h => .inl h) (fun k hk => by
    rcases hk with hk | ⟨h1, h2⟩
    · exact ⟨hb.chip.cp k hk, hb.chip.cl k hk⟩
    · refine ⟨⟨fun e => ?_, fun e => ?_, fun m hm e => ?_⟩, h2⟩
      · have := hw p (.inl rfl); omega
      · have := hw q (.inr (.inl rfl)); omega
      · rw [tellL_len] at hm
        have := hw (g m) (.inr (.inr (.inl ⟨m, hm, rfl⟩))); omega) (hn.1.keep (fun _ _ => rfl) fun _ h => .inr h)
  rw [tellL_put S i j hi hi' hbad hx L] at this
  refine ⟨_, this, fun k hk => ?_, hb.turned.setCell (fun _ => .inr (.inr (.inl ⟨i, hi, rfl⟩))) _⟩
  rcases hk with hk | ⟨h1, h2⟩
  · exact .inl hk
  · exact .inr ⟨by omega, by simpa using h2⟩
theorem progL_told {S : LS} {i j : Nat} {l : List UInt8} (hr : refS S i j l.length = 0) (hi : i < S.bl.length) :
    progL S i j l = if S.c.hit = true then (2, { S.told i j hi with dark := true, bl := putL S i j false (l.take S.keep.toNat) })
      else if S.f.hit = true then (3, { S.told i j hi with bl := putL S i j true (l.take (l.length / 2)) }) else (0, { S.told i j hi with bl := putL S i j false l }) := by
  unfold progL
  rw [if_neg (by rw [hr]; simp)]
  rfl
/-- What is not refused. -/
theorem refS_zero {S : LS} {b pg : Int} {n : Nat} (h : refS S b pg n = 0) : ∃ i j : Nat, ∃ hi : i < S.bl.length, b = i ∧ pg = j ∧ j < S.np ∧ 1 ≤ n ∧ n ≤ 2000 ∧ S.dark = false ∧ S.bl[i].bad = false ∧ S.bl[i].next = (j : Int) := by
  unfold refS at h
  split at h
  · cases h
  · next h1 =>
    split at h
    · next h2 => exact absurd h h2
    · next h2 =>
      split at h
      · cases h
      · next h3 =>
        have hh : hasL S b pg = true := by
          cases e : hasL S b pg with
          | true => rfl
          | false => exact absurd (.inl e) h1
        have h4 : barS S b = 0 := Classical.not_not.1 h2
        have h3' : pg = (blkL S b).next := Classical.not_not.1 h3
        obtain ⟨i, j, rfl, rfl, hi, hj⟩ := hasL_nats hh
        rw [blkL_at hi] at h3'
        unfold barS at h4
        rw [hasL_is hh, if_neg (by simp), blkL_at hi] at h4
        split at h4
        · cases h4
        · next h5 =>
          split at h4
          · cases h4
          · next h6 => exact ⟨i, j, hi, rfl, rfl, hj, by omega, by omega, by simpa using h5, by simpa using h6, h3'.symm⟩
theorem putL_bad {S : LS} {i j : Nat} (hi : i < S.bl.length) (L : List UInt8) : (putL S i j false L).set i { (putL S i j false L)[i]'(by simpa [putL] using hi) with bad := true } = putL S i j true L := by
  simp [putL]
/-- What a walk wants of the block. -/
theorem LMid.facts {w a : World} {i j : Nat} {S : LS} (hi : i < S.bl.length) (hj : j < S.np) (h : LMid w a p q cap g C S.bl.length i j (S.told i j hi)) :
    a.cell? ⟨q, i * 4 + 3, none⟩ = some (.slice (some ⟨g i, 0, none⟩) S.np S.np) ∧ (∃ v, a.cell? ⟨g i, j, none⟩ = some v) ∧ a.frozen? ⟨g i, j, none⟩ = false ∧ a.cell? ⟨w.heap.size, 0, none⟩ = some (.int .i64 i) ∧ a.cell? ⟨w.heap.size, 1, none⟩ = some (.int .i64 j) ∧ a.cell? ⟨p, 12, none⟩ = some (.int .i64 S.keep) ∧ a.frozen? ⟨p, 5, none⟩ = false ∧ a.frozen? ⟨q, i * 4, none⟩ = false ∧ (∃ v, a.cell? ⟨p, 5, none⟩ = some v) ∧ (∃ v, a.cell? ⟨q, i * 4, none⟩ = some v) := by
  have hi' : i < (S.told i j hi).bl.length := by rw [tellL_len]; exact hi
  have hb := h.chip.blocks i hi'
  obtain ⟨t, e⟩ := h.box
  obtain ⟨d0, d1, _, _⟩ := cells2' e
  obtain ⟨c0, c1, c2, c3, c4, c5, c6, c7, c8, c9, c10, c11, c12⟩ := cells13 h.chip.self
  obtain ⟨cs, ct, hg⟩ := hb.plain
  obtain ⟨qs, qt, hq⟩ := h.chip.plain
  obtain ⟨A, c, hpg, _⟩ := hb.pages j (by rw [hb.len]; exact hj)
  exact ⟨hb.row, ⟨_, hpg⟩, frozen10 hg j, d0, d1, c12, frozen10 h.chip.self 5, frozen10 hq _, ⟨_, c5⟩, ⟨_, hb.bad⟩⟩
end
end Go.Proofs.Yteghegojhhoppaa
