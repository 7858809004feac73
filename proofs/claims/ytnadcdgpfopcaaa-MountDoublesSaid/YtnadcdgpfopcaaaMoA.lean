/- A scan of a chip: as a datum, and in memory: a struct of eight cells, a chip, a row of what was found, the root's bytes. -/
import Derived.Test.YtnadcdgpfopcaaaGt
import Derived.Test.YtnadcdgpfopcaaaGs
namespace Go.Proofs.Ytnadcdgpfopcaaa
open Go.RowKit

/-- A scan as a datum. -/
structure MS where
  S : LS
  B : Nat
  P : Nat
  k : Nat
  fd : List Fd
  rp : Int
  rs : Int
  rd : List UInt8
/-- Sizes of a scan. -/
structure MOk (M : MS) : Prop where
  bl : M.S.bl.length = M.B
  np : M.S.np = M.P
  b64 : 1 ≤ M.B ∧ M.B ≤ 64
  p32 : 1 ≤ M.P ∧ M.P ≤ 32
  k : M.k ≤ M.B * M.P
abbrev New (w w' : World) (b : Nat) : Prop := w.heap.size ≤ b ∧ b < w'.heap.size
/-- The bytes don't lie in block b. -/
def NotAt (A : Option Addr) (l : List UInt8) (b : Nat) : Prop := 0 < l.length → ∀ ad, A = some ad → ad.block ≠ b
def MS.cells (M : MS) (c : Nat) (v : Value) (A : Option Addr) (cap : Nat) : Array Value :=
  #[.pointer (some ⟨c, 0, none⟩), .int .i64 M.B, .int .i64 M.P, .int .i64 M.k, v, .int .i64 M.rp, .int .i64 M.rs, .slice A M.rd.length cap]
/-- A scan at s; its chip at c leaves alone Y; its row is v. -/
structure ScanAt (w : World) (s c : Nat) (Y : Nat → Prop) (v : Value) (A : Option Addr) (cap : Nat) (M : MS) : Prop where
  self : w.heap[s]? = some (.cells (M.cells c v A cap) 88 (0, 0))
  chip : Held w c Y M.S
  own : FOwn w 0 v M.fd
  data : CB w (fun b => Y b ∧ b ≠ s ∧ v.ownBlock ≠ some b) A M.rd
  sY : Y s
  vY : ∀ g, v.ownBlock = some g → Y g ∧ g ≠ s
/-- What the scan has nothing to do with. -/
abbrev Far (s : Nat) (Y : Nat → Prop) (v : Value) (A : Option Addr) (l : List UInt8) (b : Nat) : Prop := Y b ∧ b ≠ s ∧ v.ownBlock ≠ some b ∧ NotAt A l b
def Scan (w : World) (s c : Nat) (x : Nat → Prop) (M : MS) : Prop := ∃ Y v A cap, ScanAt w s c Y v A cap M ∧ ∀ b, x b → Far s Y v A M.rd b
section
variable {w w' : World} {s c cap : Nat} {x y Y F : Nat → Prop} {v : Value} {A : Option Addr} {M : MS} {S' : LS}
theorem Turned.mono' {F G : Nat → Prop} {a b : World} (h : Turned F a b) (hG : ∀ i, F i → G i) : Turned G a b := ⟨h.os, h.tape, h.output, h.size, fun i hi k => h.block i hi fun f => k (hG i f)⟩
theorem Held.grow {S : LS} (h : Held w c x S) (ht : Turned x w w') : Held w' c (fun b => x b ∨ New w w' b) S := by
  obtain ⟨q, cap, g, C, h1, h2⟩ := h
  refine ⟨q, cap, g, C, h1.turned ht fun b hb hx => (h2 b hx).2 hb, fun b hx => ?_⟩
  rcases hx with hx | ⟨h3, h4⟩
  · exact ⟨Nat.lt_of_lt_of_le (h2 b hx).1 ht.size, (h2 b hx).2⟩
  · exact ⟨h4, fun ho => by have := h1.lt b ho; omega⟩
theorem Held.there {S : LS} (h : Held w c x S) : ∀ b, x b → b < w.heap.size := by
  obtain ⟨q, cap, g, C, h1, h2⟩ := h
  exact fun b hb => (h2 b hb).1
theorem CB.at_ {C : Nat → Prop} {l : List UInt8} (h : CB w C A l) : CB w (fun b => C b ∧ 0 < l.length ∧ ∃ ad, A = some ad ∧ ad.block = b) A l := fun h0 => by
  obtain ⟨ad, e, hC, hc⟩ := h h0
  exact ⟨ad, e, ⟨hC, h0, ad, e, rfl⟩, hc⟩
theorem ScanAt.lt (h : ScanAt w s c Y v A cap M) : s < w.heap.size := lt_size h.self
theorem ScanAt.vlt (h : ScanAt w s c Y v A cap M) {g : Nat} (e : v.ownBlock = some g) : g < w.heap.size := (World.ownsRow.lt h.own g e).2
theorem ScanAt.dlt (h : ScanAt w s c Y v A cap M) {b : Nat} (hb : w.heap.size ≤ b) : NotAt A M.rd b := fun h0 ad e eb => by
  obtain ⟨ad', e', hC, _⟩ := h.data h0
  rw [e] at e'
  cases e'
  have := h.chip.there _ hC.1
  omega
theorem ScanAt.new (h : ScanAt w s c Y v A cap M) {b : Nat} (hb : New w w' b) : b ≠ s ∧ v.ownBlock ≠ some b ∧ NotAt A M.rd b :=
  ⟨fun e => by have := h.lt; have := hb.1; omega, fun e => by have := h.vlt e; have := hb.1; omega, h.dlt hb.1⟩
/-- What turns blocks beside the scan alone leaves it. -/
theorem ScanAt.grow (h : ScanAt w s c Y v A cap M) (ht : Turned F w w') (hF : ∀ b, F b → Far s Y v A M.rd b) : ScanAt w' s c (fun b => Y b ∨ New w w' b) v A cap M where
  self := (ht.block s h.lt fun k => (hF s k).2.1 rfl).trans h.self
  chip := h.chip.grow (ht.mono' fun b hb => (hF b hb).1)
  own := own_keep h.own fun k e => ht.block k (h.vlt e) fun kf => (hF k kf).2.2.1 e
  data := h.data.at_.keep (fun b hb => ht.block b (h.chip.there _ hb.1.1) fun kf => (hF b kf).2.2.2 hb.2.1 hb.2.2.choose hb.2.2.choose_spec.1 hb.2.2.choose_spec.2) fun _ hb => ⟨.inl hb.1.1, hb.1.2⟩
  sY := .inl h.sY
  vY := fun g e => ⟨.inl (h.vY g e).1, (h.vY g e).2⟩
theorem Scan.grow (h : Scan w s c x M) (ht : Turned x w w') : Scan w' s c (fun b => x b ∨ New w w' b) M := by
  obtain ⟨Y, v, A, cap, h1, h2⟩ := h
  refine ⟨_, v, A, cap, h1.grow ht h2, fun b hb => ?_⟩
  rcases hb with hb | hb
  · exact ⟨.inl (h2 b hb).1, (h2 b hb).2⟩
  · exact ⟨.inr hb, h1.new hb⟩
theorem Scan.less (h : Scan w s c x M) (hy : ∀ b, y b → x b) : Scan w s c y M := by
  obtain ⟨Y, v, A, cap, h1, h2⟩ := h
  exact ⟨Y, v, A, cap, h1, fun b hb => h2 b (hy b hb)⟩
theorem Scan.turned (h : Scan w s c x M) (ht : Turned x w w') : Scan w' s c x M := (h.grow ht).less fun _ k => .inl k
theorem Scan.more (h : Scan w s c x M) (hb : Below w.heap.size w w') : Scan w' s c (fun b => x b ∨ New w w' b) M := h.grow (.of_below hb)
theorem Scan.below (h : Scan w s c x M) (hb : Below w.heap.size w w') : Scan w' s c x M := h.turned (.of_below hb)
theorem Scan.there (h : Scan w s c x M) : ∀ b, x b → b < w.heap.size := by
  obtain ⟨Y, v, A, cap, h1, h2⟩ := h
  exact fun b hb => h1.chip.there b (h2 b hb).1
theorem Scan.lt (h : Scan w s c x M) : s < w.heap.size := by
  obtain ⟨Y, v, A, cap, h1, h2⟩ := h
  exact h1.lt
/-- The chip is turned; the blocks of z are new and the caller's. -/
theorem ScanAt.chip_op {z : Nat → Prop} (h : ScanAt w s c Y v A cap M) (hc : Held w' c (fun b => Y b ∨ z b) S') (hs : Safe Y w w') : ScanAt w' s c (fun b => Y b ∨ z b) v A cap { M with S := S' } where
  self := (hs.block h.lt h.sY).trans h.self
  chip := hc
  own := own_keep h.own fun k e => hs.block (h.vlt e) (h.vY k e).1
  data := h.data.keep (fun _ hb => hs.block (h.chip.there _ hb.1) hb.1) fun _ hb => ⟨.inl hb.1, hb.2⟩
  sY := .inl h.sY
  vY := fun g e => ⟨.inl (h.vY g e).1, (h.vY g e).2⟩
theorem Scan.chip (h : Scan w s c x M) : ∃ Y, Held w c Y M.S ∧ (∀ b, x b → Y b) ∧ ∀ (w' : World) (S' : LS) (z : Nat → Prop), Held w' c (fun b => Y b ∨ z b) S' → Safe Y w w' → (∀ b, z b → w.heap.size ≤ b) → Scan w' s c (fun b => x b ∨ z b) { M with S := S' } ∧ Safe x w w' := by
  obtain ⟨Y, v, A, cap, h1, h2⟩ := h
  refine ⟨Y, h1.chip, fun b hb => (h2 b hb).1, fun w' S' z hc hs hz => ⟨⟨_, v, A, cap, h1.chip_op hc hs, fun b hb => ?_⟩, hs.mono' fun b hb k => hb (h2 b k).1⟩⟩
  rcases hb with hb | hb
  · exact ⟨.inl (h2 b hb).1, (h2 b hb).2⟩
  · have hl := hz b hb
    exact ⟨.inr hb, fun e => by have := h1.lt; omega, fun e => by have := h1.vlt e; omega, h1.dlt hl⟩
theorem cells8 {w : World} {p : Nat} {a b c d e f g h : Value} {t : TypeId} (hh : w.heap[p]? = some (.cells #[a, b, c, d, e, f, g, h] t (0, 0))) :
    w.cell? ⟨p, 0, none⟩ = some a ∧ w.cell? ⟨p, 1, none⟩ = some b ∧ w.cell? ⟨p, 2, none⟩ = some c ∧ w.cell? ⟨p, 3, none⟩ = some d ∧ w.cell? ⟨p, 4, none⟩ = some e ∧ w.cell? ⟨p, 5, none⟩ = some f ∧ w.cell? ⟨p, 6, none⟩ = some g ∧ w.cell? ⟨p, 7, none⟩ = some h := by
  simp [World.cell?, hh]
/-- The parts, for who only reads. -/
structure MParts (w : World) (s c : Nat) (v : Value) (A : Option Addr) (cap : Nat) (M : MS) : Prop where
  lt : s < w.heap.size
  c0 : w.cell? ⟨s, 0, none⟩ = some (.pointer (some ⟨c, 0, none⟩))
  c1 : w.cell? ⟨s, 1, none⟩ = some (.int .i64 M.B)
  c2 : w.cell? ⟨s, 2, none⟩ = some (.int .i64 M.P)
  c3 : w.cell? ⟨s, 3, none⟩ = some (.int .i64 M.k)
  c4 : w.cell? ⟨s, 4, none⟩ = some v
  c5 : w.cell? ⟨s, 5, none⟩ = some (.int .i64 M.rp)
  c6 : w.cell? ⟨s, 6, none⟩ = some (.int .i64 M.rs)
  c7 : w.cell? ⟨s, 7, none⟩ = some (.slice A M.rd.length cap)
  fr : ∀ j, w.frozen? ⟨s, j, none⟩ = false
theorem ScanAt.parts (h : ScanAt w s c Y v A cap M) : MParts w s c v A cap M := by
  obtain ⟨a0, a1, a2, a3, a4, a5, a6, a7⟩ := cells8 h.self
  exact ⟨h.lt, a0, a1, a2, a3, a4, a5, a6, a7, fun j => by simp [World.frozen?, h.self]⟩
theorem MParts.drewN (h : MParts w s c v A cap M) (n : Nat) : MParts (w.drewN n) s c v A cap M := by
  have hb := drewN_below (Below.refl w.heap.size w) n
  have hc : ∀ j u, w.cell? ⟨s, j, none⟩ = some u → (w.drewN n).cell? ⟨s, j, none⟩ = some u := fun j u e => (hb.cell (p := ⟨s, j, none⟩) h.lt).trans e
  have hp := hb.block s h.lt
  exact ⟨Nat.lt_of_lt_of_le h.lt hb.size, hc _ _ h.c0, hc _ _ h.c1, hc _ _ h.c2, hc _ _ h.c3, hc _ _ h.c4, hc _ _ h.c5, hc _ _ h.c6, hc _ _ h.c7, fun j => by have := h.fr j; simp only [World.frozen?, hp] at this ⊢; exact this⟩
abbrev PtrV (p : Nat) : Value := .pointer (some ⟨p, 0, none⟩)
set_option maxRecDepth 100000 in
theorem m_is (h : MParts w s c v A cap M) : Calls Try.prog 34 #[PtrV s] w fun e w' => e = .returned (.bool true) ∧ w = w' := by
  have c0 := h.c0
  clear h
  go_enter Try.func34, Try.ntmps34
  go_wp2_with fail
  go_ret
  exact ⟨rfl, rfl⟩
set_option maxRecDepth 100000 in
theorem m_is_nil (w : World) : Calls Try.prog 34 #[.pointer none] w fun e w' => e = .returned (.bool false) ∧ w = w' := by
  go_enter Try.func34, Try.ntmps34
  go_wp2_with fail
  go_ret
  exact ⟨rfl, rfl⟩
end
end Go.Proofs.Ytnadcdgpfopcaaa
