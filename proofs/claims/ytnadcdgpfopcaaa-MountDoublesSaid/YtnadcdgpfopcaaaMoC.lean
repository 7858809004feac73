/- A scan: New; the iterator over the pages that are read. -/
import Derived.Test.YtnadcdgpfopcaaaMoB
namespace Go.Proofs.Ytnadcdgpfopcaaa
open Go.RowKit Go.Shelf

attribute [local go_sem] Oper.semAt_some

section
variable {w w' : World} {s c cap : Nat} {x y Y F : Nat → Prop} {v : Value} {A : Option Addr} {M : MS} {S S' : LS}
theorem held_blocks_len (h : Held w c x S) (h1 : 1 ≤ S.bl.length) : Calls Try.prog 32 #[PtrV c] w fun e w' => ∃ q cap, e = .returned (.slice q S.bl.length cap) ∧ Below w.heap.size w w' := by
  obtain ⟨q, cap, g, C, h2, _⟩ := h
  refine (blocks_any h2 h1).mono ?_
  rintro e w' ⟨v, rfl, ⟨L, _, hown, _⟩, hb⟩
  obtain ⟨q, cap, rfl, _⟩ := own_slice hown
  exact ⟨q, cap, rfl, hb⟩
theorem Held.small (h : Held w c x S) : S.bl.length ≤ 64 ∧ 1 ≤ S.np ∧ S.np ≤ 32 := by
  obtain ⟨q, cap, g, C, h2, _⟩ := h
  exact h2.small
theorem Held.tell_len (h : Held w c x S) {i : Nat} (hi : i < S.bl.length) : (tellB S (i : Int)).pages.length = S.np := by
  obtain ⟨q, cap, g, C, h2, _⟩ := h
  unfold tellB
  rw [if_pos (by simp [isL]; omega), blkL_at hi]
  exact (h2.blocks i hi).len
/-- A scan of which nothing is through. -/
def startM (S : LS) : MS := { S := S, B := S.bl.length, P := S.np, k := 0, fd := [], rp := 0, rs := 0, rd := [] }
theorem start_ok (h : Held w c x S) (h1 : 1 ≤ S.bl.length) : MOk (startM S) := by
  obtain ⟨a, b, d⟩ := h.small
  exact ⟨rfl, rfl, ⟨h1, a⟩, ⟨b, d⟩, Nat.zero_le _⟩
theorem field_next (b : Bool) (x y : Int) (A : Option Addr) (n c : Nat) (w : World) : (Instr.field 81 (.agg #[.bool b, .int .i64 x, .int .i64 y, .slice A n c]) 1).run Try.prog w = .ok (.int .i64 x) w := by
  simp [Instr.field, go_sem]
  rfl
theorem field_pages (b : Bool) (x y : Int) (A : Option Addr) (n c : Nat) (w : World) : (Instr.field 81 (.agg #[.bool b, .int .i64 x, .int .i64 y, .slice A n c]) 3).run Try.prog w = .ok (.slice A n c) w := by
  simp [Instr.field, go_sem]
  rfl
set_option maxRecDepth 100000 in
set_option maxHeartbeats 1000000 in
theorem m_new (h : Held w c x S) (h1 : 1 ≤ S.bl.length) : Calls Try.prog 14 #[PtrV c] w fun e w' => ∃ s, e = .returned (PtrV s) ∧ Scan w' s c (fun b => x b ∨ (New w w' b ∧ b ≠ s)) (startM S) ∧ Below w.heap.size w w' := by
  have HH := Lib.hid h
  have hN : (tellB S 0).pages.length = S.np := h.tell_len (i := 0) (by omega)
  have HN := Lib.hid hN
  have HL := Lib.hid h1
  clear h h1 hN
  go_enter Try.func14, Try.ntmps14
  go_wp2_with (first
    | (go_at_call 32; (with_reducible refine (held_blocks_len HH.out HL.out).mono ?_); rintro e w1 ⟨q1, cap1, rfl, hb1⟩; have HB1 := Lib.hid hb1; clear hb1)
    | (go_at_call 33; refine (held_block 0 (HH.out.below HB1.out)).mono ?_; rintro e w2 ⟨v2, rfl, ⟨A2, c2, rfl, _, _⟩, hb2⟩; rw [HN.out]; have fpg := field_pages (tellB S 0).bad (tellB S 0).next (tellB S 0).count A2 S.np c2 w2; have HB2 := Lib.hid (HB1.out.trans (hb2.mono HB1.out.size)); clear hb2)
    | fail)
  go_ret
  have hB3 : Below w.heap.size w (w2.alloc (.cells #[.pointer (some ⟨c, 0, none⟩), .int .i64 S.bl.length, .int .i64 S.np, .int .i64 0, .slice none 0 0, .int .i64 0, .int .i64 0, .slice none 0 0] 88)) := HB2.out.alloc HB2.out.size _
  refine ⟨w2.heap.size, rfl, ⟨fun b => x b ∨ New w _ b, .slice none 0 0, none, 0, ⟨heap_alloc_new w2 _, HH.out.more hB3, fown_nil _ _, CB.nil, .inr ⟨HB2.out.size, by simp⟩, fun _ e => by cases e⟩, fun b hb => ?_⟩, hB3⟩
  rcases hb with hb | ⟨hb, hne⟩
  · exact ⟨.inl hb, fun e => by have := HH.out.there b hb; have := HB2.out.size; omega, fun e => (by cases e), fun h0 => absurd h0 (by simp [startM])⟩
  · exact ⟨.inr hb, hne, fun e => (by cases e), fun h0 => absurd h0 (by simp [startM])⟩
theorem m_new_nil (w : World) : Calls Try.prog 14 #[.pointer none] w fun e w' => e = .returned (.pointer none) ∧ w = w' := by
  go_enter Try.func14, Try.ntmps14
  go_wp2_with fail
  go_ret
  exact ⟨rfl, rfl⟩

/-- What the iterator reads of memory: the scan's first cells, its three boxes, the chip, which leaves alone Z and what there was not at first. -/
structure Reads (N0 s c b1 b2 b3 : Nat) (Z : Nat → Prop) (B P fr en : Nat) (S : LS) (W : World) : Prop where
  c0 : W.cell? ⟨s, 0, none⟩ = some (PtrV c)
  c1 : W.cell? ⟨s, 1, none⟩ = some (.int .i64 B)
  c2 : W.cell? ⟨s, 2, none⟩ = some (.int .i64 P)
  x1 : W.cell? ⟨b1, 0, none⟩ = some (PtrV s)
  x2 : W.cell? ⟨b2, 0, none⟩ = some (.int .i64 fr)
  x3 : W.cell? ⟨b3, 0, none⟩ = some (.int .i64 en)
  chip : ∃ S', Held W c (fun b => Z b ∨ (N0 ≤ b ∧ b < W.heap.size)) S' ∧ S'.bl = S.bl ∧ S'.np = S.np
  lt : s < N0 ∧ b1 < N0 ∧ b2 < N0 ∧ b3 < N0 ∧ N0 ≤ W.heap.size
/-- What a round must keep for the iterator. -/
abbrev WKeep (N0 s c b1 b2 b3 : Nat) (Z : Nat → Prop) (B P fr en : Nat) (S : LS) (W W' : World) : Prop := Reads N0 s c b1 b2 b3 Z B P fr en S W → Reads N0 s c b1 b2 b3 Z B P fr en S W'
variable {N0 b1 b2 b3 B P fr en : Nat} {Z : Nat → Prop} {W W' : World}
/-- Whoever turns no block but such as there were not at first. -/
theorem Reads.turned {G : Nat → Prop} (h : Reads N0 s c b1 b2 b3 Z B P fr en S W) (ht : Turned G W W') (hG : ∀ b, G b → N0 ≤ b ∧ b < W.heap.size) : Reads N0 s c b1 b2 b3 Z B P fr en S W' := by
  obtain ⟨l1, l2, l3, l4, l5⟩ := h.lt
  have key : ∀ b, b < N0 → W'.heap[b]? = W.heap[b]? := fun b hb => ht.block b (by omega) fun k => by have := (hG b k).1; omega
  obtain ⟨S1, h1, e1, e2⟩ := h.chip
  exact ⟨(World.cell?_of_block (key s l1)).trans h.c0, (World.cell?_of_block (key s l1)).trans h.c1, (World.cell?_of_block (key s l1)).trans h.c2, (World.cell?_of_block (key b1 l2)).trans h.x1, (World.cell?_of_block (key b2 l3)).trans h.x2, (World.cell?_of_block (key b3 l4)).trans h.x3, ⟨S1, (h1.grow (ht.mono' fun b hb => .inr (hG b hb))).less fun b hb => by
    rcases hb with hb | hb
    · exact .inl (.inl hb)
    · rcases Nat.lt_or_ge b W.heap.size with k | k
      · exact .inl (.inr ⟨hb.1, k⟩)
      · exact .inr ⟨k, hb.2⟩, e1, e2⟩, l1, l2, l3, l4, Nat.le_trans l5 ht.size⟩
theorem Reads.below (h : Reads N0 s c b1 b2 b3 Z B P fr en S W) (hb : Below W.heap.size W W') : Reads N0 s c b1 b2 b3 Z B P fr en S W' :=
  h.turned (G := fun _ => False) (.of_below hb) fun _ k => k.elim
theorem turned_grown {row : Option Nat} (h : W.grownBy W' row) : Turned (fun b => row = some b) W W' := ⟨h.os, h.tape, h.output, h.size, fun i hi k => h.block i hi fun e => k e.symm⟩
theorem wkeep_b {w : World} (W : World) (l : Nat) (o o' : Obj) (hl : w.heap.size ≤ l) (h : W.heap[l]? = some o) (_ : o.isCells = false) (_ : o.isWalk = false) : WKeep w.heap.size s c b1 b2 b3 Z B P fr en S W (W.putObj l o') := fun hR =>
  hR.turned (turned_grown (grownBy_putObj' W l o')) fun b e => by cases e; exact ⟨hl, (Array.getElem?_eq_some_iff.1 h).1⟩
abbrev encS (x : P2) : Array Value := #[P2V x]
theorem enters_written : ∀ args w, (callFunc 53 args).run Try.prog w = .ok (.enter 53 args) w := enters_of Try.func53 (by kernel_rfl) rfl
/-- What written leaves. -/
def WrittenPost (s fr en : Nat) (w : World) (e : Ending) (w' : World) : Prop :=
  e = .returned (.func (.func 53) #[] #[PtrV w.heap.size, PtrV (w.heap.size + 1), PtrV (w.heap.size + 1 + 1)]) ∧ w'.heap.size = w.heap.size + 1 + 1 + 1 ∧ Below w.heap.size w w' ∧ w'.cell? ⟨w.heap.size, 0, none⟩ = some (PtrV s) ∧ w'.cell? ⟨w.heap.size + 1, 0, none⟩ = some (.int .i64 fr) ∧ w'.cell? ⟨w.heap.size + 1 + 1, 0, none⟩ = some (.int .i64 en)
set_option maxRecDepth 100000 in
theorem m_written (fr en : Nat) (w : World) : Calls Try.prog 36 #[PtrV s, .int .i64 fr, .int .i64 en] w (WrittenPost s fr en w) := by
  have a1 := Boxed.new w 41 (PtrV s)
  have a2 := Boxed.new (w.alloc (.cells #[PtrV s] 41)) 3 (.int .i64 fr)
  have a3 := Boxed.new ((w.alloc (.cells #[PtrV s] 41)).alloc (.cells #[.int .i64 fr] 3)) 3 (.int .i64 en)
  simp only [World.size_alloc] at a2 a3
  have A1 := Lib.hid ((a1.alloc (.cells #[.int .i64 fr] 3)).alloc (.cells #[.int .i64 en] 3)).cell
  have A2 := Lib.hid (a2.alloc (.cells #[.int .i64 en] 3)).cell
  have A3 := Lib.hid a3.cell
  clear a1 a2 a3
  go_enter Try.func36, Try.ntmps36
  go_wp2_with fail
  go_ret
  exact ⟨rfl, by simp, (((Below.refl _ _).alloc (Nat.le_refl _) _).alloc (by simp) _).alloc (by simp; omega) _, A1.out, A2.out, A3.out⟩
end
end Go.Proofs.Ytnadcdgpfopcaaa
