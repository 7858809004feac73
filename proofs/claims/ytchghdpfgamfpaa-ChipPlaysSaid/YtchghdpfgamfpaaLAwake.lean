/- A chip that every program must know: awake is true; nothing that was there has turned. -/
import Derived.Laws.IdiomStrings
import Derived.Test.YtchghdpfgamfpaaLHeld
namespace Go.Proofs.Ytchghdpfgamfpaa
open Go.RowKit

def xy : List UInt8 := [120, 121]
def aw0 : LS := madeS 3 2 [2]
def aw1 : LS := (progL aw0 1 0 xy).2
def aw2 : LS := (rdL aw1 1 0).2.2
def aw3 : LS := (eraseL aw2 1).2
theorem aw_p1 : (progL aw0 1 0 xy).1 = 0 := by kernel_rfl
theorem aw_p2 : progL aw1 1 0 xy = (4, aw1) := by kernel_rfl
theorem aw_r : (rdL aw1 1 0).1 = xy ∧ (rdL aw1 1 0).2.1 = 0 := ⟨by kernel_rfl, by kernel_rfl⟩
theorem aw_e1 : (eraseL aw2 1).1 = 0 := by kernel_rfl
theorem aw_b1 : (tellB aw3 1).count = 1 := by kernel_rfl
theorem aw_b2 : (tellB aw3 2).bad = true := by kernel_rfl
theorem aw_e2 : (eraseL aw3 2).1 = 3 := by kernel_rfl
def sl2 (b : Nat) : Value := .slice (some ⟨b, 0, none⟩) 2 2
theorem sl2_ne (b : Nat) : sl2 b ≠ undef := by simp [sl2, undef]
theorem sl2_inj {a b : Nat} (h : sl2 a = sl2 b) : a = b := by simpa [sl2] using h
/-- What the region's walk holds, by what was yielded. -/
structure AwG (w W : World) (p k : Nat) (f : Nat → Value) (w' : World) : Prop where
  held : ∃ S, Held w' p (fun b => (b < w.heap.size ∨ b = k) ∨ f 2 = sl2 b ∨ f 7 = sl2 b) S ∧ (f 4 = undef ∧ S = aw0 ∨ f 4 ≠ undef ∧ S = aw1)
  bytes : ∀ b, f 2 = sl2 b ∨ f 7 = sl2 b → W.heap.size ≤ b ∧ ∃ fr, w'.heap[b]? = some (.cells #[.int .u8 120, .int .u8 121] 5 fr)
  e3 : f 3 = undef ∨ f 3 = f 2
  e8 : f 8 = undef ∨ f 8 = f 7
  safe : Safe (fun b => b < w.heap.size ∨ b = k) W w'
  ks : k < W.heap.size
theorem AwG.quiet {w W w' : World} {p k i : Nat} {f : Nat → Value} {v : Value} (h : AwG w W p k f w') (h2 : i ≠ 2) (h3 : i ≠ 3) (h4 : i ≠ 4) (h7 : i ≠ 7) (h8 : i ≠ 8) : AwG w W p k (updv f i v) w' := by
  obtain ⟨a, b, c, d, e, g⟩ := h
  constructor
  · rw [updv_ne _ (Ne.symm h2), updv_ne _ (Ne.symm h7), updv_ne _ (Ne.symm h4)]; exact a
  · rw [updv_ne _ (Ne.symm h2), updv_ne _ (Ne.symm h7)]; exact b
  · rw [updv_ne _ (Ne.symm h2), updv_ne _ (Ne.symm h3)]; exact c
  · rw [updv_ne _ (Ne.symm h7), updv_ne _ (Ne.symm h8)]; exact d
  · exact e
  · exact g
theorem AwG.conv3 {w W w' : World} {p k : Nat} {f : Nat → Value} (h : AwG w W p k f w') : AwG w W p k (updv f 3 (f 2)) w' := by
  obtain ⟨a, b, c, d, e, g⟩ := h
  have n2 : updv f 3 (f 2) 2 = f 2 := updv_ne _ (by decide) _
  have n4 : updv f 3 (f 2) 4 = f 4 := updv_ne _ (by decide) _
  have n7 : updv f 3 (f 2) 7 = f 7 := updv_ne _ (by decide) _
  have n8 : updv f 3 (f 2) 8 = f 8 := updv_ne _ (by decide) _
  constructor
  · rw [n2, n7, n4]; exact a
  · rw [n2, n7]; exact b
  · rw [updv_same, n2]; exact .inr rfl
  · rw [n7, n8]; exact d
  · exact e
  · exact g
theorem AwG.conv8 {w W w' : World} {p k : Nat} {f : Nat → Value} (h : AwG w W p k f w') : AwG w W p k (updv f 8 (f 7)) w' := by
  obtain ⟨a, b, c, d, e, g⟩ := h
  have n2 : updv f 8 (f 7) 2 = f 2 := updv_ne _ (by decide) _
  have n3 : updv f 8 (f 7) 3 = f 3 := updv_ne _ (by decide) _
  have n4 : updv f 8 (f 7) 4 = f 4 := updv_ne _ (by decide) _
  have n7 : updv f 8 (f 7) 7 = f 7 := updv_ne _ (by decide) _
  constructor
  · rw [n2, n7, n4]; exact a
  · rw [n2, n7]; exact b
  · rw [n2, n3]; exact c
  · rw [updv_same, n7]; exact .inr rfl
  · exact e
  · exact g
theorem conv_const {w : World} {b : Nat} {fr : Nat × Nat} {x y : Value} (h : w.heap[b]? = some (.cells #[x, y] 5 fr)) :
    ∃ w' fr', (convert 32 32 (.slice (some ⟨b, 0, none⟩) 2 2)).run Try.prog w = .ok (.slice (some ⟨b, 0, none⟩) 2 2) w' ∧ w'.heap[b]? = some (.cells #[x, y] 5 fr') ∧ (∀ k, k ≠ b → w'.heap[k]? = w.heap[k]?) ∧ w'.heap.size = w.heap.size ∧ w'.os = w.os ∧ w'.tape = w.tape ∧ w'.output = w.output := by
  obtain ⟨lo, hi⟩ := fr
  have hsh : w.shape? b = some (5, 2) := by
    unfold World.shape?
    rw [h]
    rfl
  refine ⟨w.freeze ⟨b, 2, none⟩ 1, if lo == hi then (2, 3) else (min lo 2, max hi 3), ?_, ?_, ?_, ?_, rfl, rfl, rfl⟩
  · simp [convert, run_underlying Try.underlying32, run_underlying Try.underlying5, markStringish, hsh]
  · unfold World.freeze
    rw [if_neg (by decide)]
    show (w.heap.modify b _)[b]? = _
    rw [Array.getElem?_modify, if_pos rfl, h]
    rfl
  · intro k hk
    unfold World.freeze
    rw [if_neg (by decide)]
    show (w.heap.modify b _)[k]? = _
    rw [Array.getElem?_modify, if_neg (Ne.symm hk)]
  · unfold World.freeze
    rw [if_neg (by decide)]
    simp
theorem Held.turn {w w' : World} {p b : Nat} {x : Nat → Prop} {S : LS} (h : Held w p x S) (hs : w'.heap.size = w.heap.size) (hk : ∀ k, k ≠ b → w'.heap[k]? = w.heap[k]?) (hb : x b) : Held w' p x S := by
  obtain ⟨q, cap, g, C, h1, h2⟩ := h
  exact ⟨q, cap, g, C, h1.kept (by omega) (fun c hc => hk c (fun e => (h2 b hb).2 (e ▸ hc))), fun c hc => by rw [hs]; exact h2 c hc⟩
/-- Bytes of a constant are marked. -/
theorem AwG.mark {w W w' w'' : World} {p k b : Nat} {f : Nat → Value} {fr : Nat × Nat} (h : AwG w W p k f w') (hb : f 2 = sl2 b ∨ f 7 = sl2 b) (h1 : w''.heap[b]? = some (.cells #[.int .u8 120, .int .u8 121] 5 fr)) (h2 : ∀ k, k ≠ b → w''.heap[k]? = w'.heap[k]?) (h3 : w''.heap.size = w'.heap.size) (h4 : w''.os = w'.os) (h5 : w''.tape = w'.tape) (h6 : w''.output = w'.output) : AwG w W p k f w'' := by
  obtain ⟨S, hS, hS2⟩ := h.held
  have hbw := (h.bytes b hb).1
  constructor
  · exact ⟨S, hS.turn h3 h2 (.inr hb), hS2⟩
  · intro c hc
    by_cases e : c = b
    · subst e; exact ⟨hbw, _, h1⟩
    · obtain ⟨h7, fr, h8⟩ := h.bytes c hc
      exact ⟨h7, fr, (h2 c e).trans h8⟩
  · exact h.e3
  · exact h.e8
  · exact ⟨h4.trans h.safe.os, h5.trans h.safe.tape, h6.trans h.safe.output, by have := h.safe.size; omega, fun i hi hF => (h2 i (by omega)).trans (Turned.block h.safe i hi hF)⟩
  · exact h.ks
theorem AwG.size {w W w' : World} {p k : Nat} {f : Nat → Value} (h : AwG w W p k f w') : W.heap.size ≤ w'.heap.size := h.safe.size
/-- Bytes are built. -/
theorem AwG.build {w W w' : World} {p k i : Nat} {f : Nat → Value} (h : AwG w W p k f w') (hi : i = 2 ∨ i = 7) (hf : f i = undef) (h3 : f 3 = undef ∨ i = 7) (h8 : f 8 = undef ∨ i = 2) : AwG w W p k (updv f i (sl2 w'.heap.size)) (w'.alloc (.cells #[.int .u8 120, .int .u8 121] 5)) := by
  have hb := (Below.refl w'.heap.size w').alloc (Nat.le_refl _) (.cells #[.int .u8 120, .int .u8 121] 5)
  have hx : ∀ b, (updv f i (sl2 w'.heap.size) 2 = sl2 b ∨ updv f i (sl2 w'.heap.size) 7 = sl2 b) → (f 2 = sl2 b ∨ f 7 = sl2 b) ∨ b = w'.heap.size := fun b hb => by
    rcases hi with rfl | rfl
    · rw [updv_same, updv_ne _ (by decide)] at hb
      exact hb.elim (fun e => .inr (sl2_inj e).symm) (fun e => .inl (.inr e))
    · rw [updv_same, updv_ne _ (by decide)] at hb
      exact hb.elim (fun e => .inl (.inl e)) (fun e => .inr (sl2_inj e).symm)
  constructor
  · have e4 : updv f i (sl2 w'.heap.size) 4 = f 4 := updv_ne _ (by rcases hi with rfl | rfl <;> decide) _
    rw [e4]
    obtain ⟨S, hS, hS2⟩ := h.held
    refine ⟨S, (hS.alloc _).less fun b hb' => ?_, hS2⟩
    rcases hb' with hb' | hb'
    · exact .inl (.inl hb')
    · rcases hx b hb' with e | e
      · exact .inl (.inr e)
      · exact .inr e
  · intro b hb'
    rcases hx b hb' with e | e
    · obtain ⟨h5, fr, h6⟩ := h.bytes b e
      exact ⟨h5, fr, (hb.block b (lt_size h6)).trans h6⟩
    · subst e; exact ⟨h.size, _, heap_alloc_new _ _⟩
  · rcases hi with rfl | rfl
    · rw [updv_ne _ (by decide)]; exact .inl (h3.resolve_right (by decide))
    · rw [updv_ne _ (by decide), updv_ne _ (by decide)]; exact h.e3
  · rcases hi with rfl | rfl
    · rw [updv_ne _ (by decide), updv_ne _ (by decide)]; exact h.e8
    · rw [updv_ne _ (by decide)]; exact .inl (h8.resolve_right (by decide))
  · exact h.safe.then (safe_of_below hb)
  · exact h.ks
theorem xy_cells {w' : World} {b : Nat} {fr : Nat × Nat} (h : w'.heap[b]? = some (.cells #[.int .u8 120, .int .u8 121] 5 fr)) {C : Nat → Prop} (hC : C b) : CB w' C (some ⟨b, 0, none⟩) xy := fun _ => ⟨_, rfl, hC, fun j hj => by
  have hj' : j < 2 := hj
  have e : (⟨b, 0, none⟩ : Addr).add j = ⟨b, j, none⟩ := by
    unfold Addr.add
    split
    · next e => subst e; rfl
    · simp
  rw [e]
  obtain rfl | rfl : j = 0 ∨ j = 1 := by omega
  · simp [World.cell?, h, xy, ub]
  · simp [World.cell?, h, xy, ub]⟩
/-- A program. -/
theorem AwG.prog {w W w1 w2 : World} {p k i : Nat} {f : Nat → Value} {S' : LS} {v : Value} (h : AwG w W p k f w1) (hi : i = 4 ∨ i = 9) (hv : v ≠ undef) (hS : S' = aw1) (h4 : i = 9 → f 4 ≠ undef) (hh : Held w2 p (fun b => (b < w.heap.size ∨ b = k) ∨ f 2 = sl2 b ∨ f 7 = sl2 b) S') (hs : Safe (fun b => (b < w.heap.size ∨ b = k) ∨ f 2 = sl2 b ∨ f 7 = sl2 b) w1 w2) : AwG w W p k (updv f i v) w2 := by
  have n2 : updv f i v 2 = f 2 := updv_ne _ (by rcases hi with rfl | rfl <;> decide) _
  have n3 : updv f i v 3 = f 3 := updv_ne _ (by rcases hi with rfl | rfl <;> decide) _
  have n7 : updv f i v 7 = f 7 := updv_ne _ (by rcases hi with rfl | rfl <;> decide) _
  have n8 : updv f i v 8 = f 8 := updv_ne _ (by rcases hi with rfl | rfl <;> decide) _
  have n4 : updv f i v 4 ≠ undef := by
    rcases hi with rfl | rfl
    · rw [updv_same]; exact hv
    · rw [updv_ne _ (by decide)]; exact h4 rfl
  constructor
  · rw [n2, n7]; exact ⟨_, hh, .inr ⟨n4, hS⟩⟩
  · rw [n2, n7]
    intro b hb
    obtain ⟨h5, fr, h6⟩ := h.bytes b hb
    exact ⟨h5, fr, (Safe.block hs (lt_size h6) (.inr hb)).trans h6⟩
  · rw [n2, n3]; exact h.e3
  · rw [n7, n8]; exact h.e8
  · exact h.safe.then' hs (fun b _ hb => .inl hb)
  · exact h.ks
theorem tmps_eq {tm : Array Value} {l : List Value} (hs : tm.size = l.length) (h : ∀ i, i < l.length → tm.getD i undef = l.getD i undef) : tm = l.toArray := by
  apply Array.ext
  · simpa using hs
  · intro i h1 h2
    have := h i (by omega)
    simpa [Array.getD, List.getD, h1, show i < l.length by omega] using this
theorem field_bad (b : Bool) (x y : Int) (A : Option Addr) (n c : Nat) (w : World) : (Instr.field 38 (.agg #[.bool b, .int .i64 x, .int .i64 y, .slice A n c]) 0).run Try.prog w = .ok (.bool b) w := by
  simp [Instr.field, go_sem]
  rfl
theorem field_next (b : Bool) (x y : Int) (A : Option Addr) (n c : Nat) (w : World) : (Instr.field 38 (.agg #[.bool b, .int .i64 x, .int .i64 y, .slice A n c]) 1).run Try.prog w = .ok (.int .i64 x) w := by
  simp [Instr.field, go_sem]
  rfl
theorem field_count (b : Bool) (x y : Int) (A : Option Addr) (n c : Nat) (w : World) : (Instr.field 38 (.agg #[.bool b, .int .i64 x, .int .i64 y, .slice A n c]) 2).run Try.prog w = .ok (.int .i64 y) w := by
  simp [Instr.field, go_sem]
  rfl
theorem field_pages (b : Bool) (x y : Int) (A : Option Addr) (n c : Nat) (w : World) : (Instr.field 38 (.agg #[.bool b, .int .i64 x, .int .i64 y, .slice A n c]) 3).run Try.prog w = .ok (.slice A n c) w := by
  simp [Instr.field, go_sem]
  rfl
theorem aw_all : ∃ A1 A2 A3, A1 = aw1 ∧ (rdL A1 1 0).1 = xy ∧ (rdL A1 1 0).2.1 = 0 ∧ (rdL A1 1 0).2.2 = A2 ∧ (eraseL A2 1).1 = 0 ∧ (eraseL A2 1).2 = A3 ∧ (tellB A3 1).count = 1 ∧ (tellB A3 2).bad = true ∧ (eraseL A3 2).1 = 3 :=
  ⟨aw1, aw2, aw3, rfl, aw_r.1, aw_r.2, rfl, aw_e1, rfl, aw_b1, aw_b2, aw_e2⟩
theorem aw_arg (w : World) : IntsArg (w.alloc (.cells #[.int .i64 2] 3)) (some ⟨w.heap.size, 0, none⟩) [2] := fun _ => ⟨w.heap.size, 0, rfl, by simp, fun j hj => by
  obtain rfl : j = 0 := by simpa using hj
  exact (Boxed.new w 3 (.int .i64 2)).cell⟩
set_option maxRecDepth 100000 in
set_option maxHeartbeats 4000000 in
theorem awake_any (w : World) : Calls Try.prog 11 #[] w fun e w' => e = .returned (.bool true) ∧ Below w.heap.size w w' := by
  have HN := Lib.hid (held_new 3 2 (some ⟨w.heap.size, 0, none⟩) 1 [2] (aw_arg w) (by decide) (by decide) (by decide) (by decide) (by decide))
  go_enter Try.func11, Try.ntmps11
  go_wp2_with (go_at_call 12; refine HN.out.mono ?_; rintro e w1 ⟨p, rfl, hH, hB⟩)
  clear HN
  have hB0 : Below w.heap.size w w1 := ((Below.refl _ w).alloc (Nat.le_refl _) _).trans (hB.mono (by simp))
  have hkb : (w1.alloc (.cells #[.int .i64 1, .int .i64 0] 31)).heap[w1.heap.size]? = some (.cells #[.int .i64 1, .int .i64 0] 31 (0, 0)) := heap_alloc_new _ _
  have hH1 : Held (w1.alloc (.cells #[.int .i64 1, .int .i64 0] 31)) p (fun b => b < w.heap.size ∨ b = w1.heap.size) aw0 := (hH.alloc _).less fun b hb => hb.imp (fun h => by rw [World.size_alloc]; omega) id
  have hks : w1.heap.size < (w1.alloc (.cells #[.int .i64 1, .int .i64 0] 31)).heap.size := by simp
  have hB1 : Below w.heap.size w (w1.alloc (.cells #[.int .i64 1, .int .i64 0] 31)) := hB0.alloc hB0.size _
  obtain ⟨W, hW⟩ : ∃ W, W = w1.alloc (.cells #[.int .i64 1, .int .i64 0] 31) := ⟨_, rfl⟩
  rw [← hW] at hkb hH1 hks hB1 ⊢
  have H1 := Lib.hid hH1
  have HB1 := Lib.hid hB1
  clear hH hB hB0 hW hH1 hB1
  go_cut [3, 4] from 11 to 20 (fun x y wx => x = .int .i64 0 ∧ y = .int .i64 4 ∧ Held wx p (fun b => b < w.heap.size ∨ b = w1.heap.size) aw1 ∧ Safe (fun b => b < w.heap.size ∨ b = w1.heap.size) W wx)
  case first => as_aux_lemma =>
    refine region_st (fun j v _ => (j = 2 ∨ j = 3 ∨ j = 7 ∨ j = 8 → ∃ b, v = sl2 b) ∧ (¬ (j = 2 ∨ j = 3 ∨ j = 7 ∨ j = 8) → v = (match j with | 0 => .pointer (some ⟨p, 0, none⟩) | 1 => .agg #[.int .i64 1, .int .i64 0] | 4 => .int .i64 0 | 5 => .pointer (some ⟨p, 0, none⟩) | 6 => .agg #[.int .i64 1, .int .i64 0] | 9 => .int .i64 4 | 10 => .int .i64 0 | 11 => .int .i64 4 | _ => undef : Value))) (fun f w' => AwG w W p w1.heap.size f w') (fun _ _ => True) (by kernel_rfl) (by kernel_rfl) (by kernel_rfl) ?hR ?hG ?hops ?hend
    case hR => exact fun _ _ _ _ h _ => h
    case hG =>
      have ne : ∀ b, undef ≠ sl2 b := fun b e => sl2_ne b e.symm
      exact ⟨⟨aw0, H1.out.drew.less (fun b hb => hb.elim id fun h => h.elim (fun e => absurd e (ne b)) (fun e => absurd e (ne b))), .inl ⟨rfl, rfl⟩⟩, fun b h => h.elim (fun e => absurd e (ne b)) (fun e => absurd e (ne b)), .inl rfl, .inl rfl, (Turned.refl _ _).drew, hks⟩
    case hops =>
     refine OpsOkS.cons ?o0 (OpsOkS.cons ?o1 (OpsOkS.cons ?o2 (OpsOkS.cons ?o3 (OpsOkS.cons ?o4 (OpsOkS.cons ?o5 (OpsOkS.cons ?o6 (OpsOkS.cons ?o7 (OpsOkS.cons ?o8 (OpsOkS.cons ?o9 (OpsOkS.cons ?o10 (OpsOkS.cons ?o11 (OpsOkS.nil))))))))))))
     case o0 =>
       intro a w2 Kx hG need old hsz fresh hK
       have e0 : a.tmps[1]?.getD undef = .pointer (some ⟨p, 0, none⟩) := by
         rw [← Array.getD_eq_getD_getElem?]
         exact old 1 (by kernel_rfl)
       refine op_value (v := .pointer (some ⟨p, 0, none⟩)) (wanted_none rfl) ?_ (hK _ w2 ⟨fun e => absurd e (by decide), fun _ => rfl⟩ (hG.quiet (by decide) (by decide) (by decide) (by decide) (by decide)) trivial)
       simp [execOp, go_sem, e0]
     case o1 =>
       intro a w2 Kx hG need old hsz fresh hK
       have e0 : a.tmps[2]?.getD undef = .pointer (some ⟨w1.heap.size, 0, none⟩) := by
         rw [← Array.getD_eq_getD_getElem?]
         exact old 2 (by kernel_rfl)
       have hbx := (Safe.block hG.safe hG.ks (.inr rfl)).trans hkb
       obtain ⟨d0, d1, _, _⟩ := cells2' hbx
       refine op_value (v := .agg #[.int .i64 1, .int .i64 0]) (wanted_none rfl) ?_ (hK _ w2 ⟨fun e => absurd e (by decide), fun _ => rfl⟩ (hG.quiet (by decide) (by decide) (by decide) (by decide) (by decide)) trivial)
       simp [execOp, go_sem, e0, d0, d1]
     case o2 =>
       intro a w2 Kx hG need old hsz fresh hK
       have hf : vals _ a 2 = undef := fresh
       refine op_value (v := sl2 w2.heap.size) (w' := w2.alloc (.cells #[.int .u8 120, .int .u8 121] 5)) (wanted_none rfl) ?_ (hK _ _ ⟨fun _ => ⟨_, rfl⟩, fun e => (e (by decide)).elim⟩ (hG.build (by decide) hf (.inl (hG.e3.elim id fun e => e.trans hf)) (.inr rfl)) trivial)
       simp [execOp, go_sem, sl2]
     case o3 =>
       intro a w2 Kx hG need old hsz fresh hK
       obtain ⟨b, hb⟩ := (need 2 (by kernel_rfl) (by kernel_rfl)).1 (by decide)
       have e0 : a.tmps[13]?.getD undef = .slice (some ⟨b, 0, none⟩) 2 2 := by
         rw [← Array.getD_eq_getD_getElem?]
         exact hb
       obtain ⟨hbw, fr, hbc⟩ := hG.bytes b (.inl hb)
       obtain ⟨w3, fr', hr, c1, c2, c3, c4, c5, c6⟩ := conv_const hbc
       have hc := (hG.mark (.inl hb) c1 c2 c3 c4 c5 c6).conv3
       rw [hb] at hc
       refine op_value (v := sl2 b) (w' := w3) (wanted_none rfl) ?_ (hK _ w3 ⟨fun _ => ⟨_, rfl⟩, fun e => (e (by decide)).elim⟩ hc trivial)
       simp [execOp, go_sem, sl2, e0, hr]
     case o4 =>
       intro a w2 Kx hG need old hsz fresh hK
       have e0 : a.tmps[11]?.getD undef = .pointer (some ⟨p, 0, none⟩) := by
         rw [← Array.getD_eq_getD_getElem?]
         exact (need 0 (by kernel_rfl) (by kernel_rfl)).2 (by decide)
       have e1 : a.tmps[12]?.getD undef = .agg #[.int .i64 1, .int .i64 0] := by
         rw [← Array.getD_eq_getD_getElem?]
         exact (need 1 (by kernel_rfl) (by kernel_rfl)).2 (by decide)
       obtain ⟨b, hb⟩ := (need 3 (by kernel_rfl) (by kernel_rfl)).1 (by decide)
       have e2 : a.tmps[14]?.getD undef = .slice (some ⟨b, 0, none⟩) 2 2 := by
         rw [← Array.getD_eq_getD_getElem?]
         exact hb
       have h2b := (hG.e3.resolve_left (fun e => absurd (hb.symm.trans e) (sl2_ne b))).symm.trans hb
       obtain ⟨_, fr, hby⟩ := hG.bytes b (.inl h2b)
       obtain ⟨S, hS, hS2⟩ := hG.held
       obtain rfl : S = aw0 := by
         rcases hS2 with ⟨_, e⟩ | ⟨e, _⟩
         · exact e
         · exact absurd (fresh : _ = undef) e
       refine op_call (wanted_none rfl) (f := 26) (args := #[.pointer (some ⟨p, 0, none⟩), .agg #[.int .i64 1, .int .i64 0], .slice (some ⟨b, 0, none⟩) xy.length 2]) ?run ((held_prog (some ⟨b, 0, none⟩) 2 xy 1 0 hS (xy_cells hby (.inr (.inl h2b)))).mono ?post)
       case run =>
         show _ = Result.ok (Next.enter _ #[_, _, .slice (some ⟨b, 0, none⟩) 2 2]) _
         simp [go_sem, e0, e1, e2]
       case post =>
         rintro e w3 ⟨rfl, hH3, hs3⟩
         rw [aw_p1]
         exact ⟨_, rfl, hK _ w3 ⟨fun e => absurd e (by decide), fun _ => rfl⟩ (hG.prog (.inl rfl) (by simp [undef, told]) rfl (fun e => absurd e (by decide)) hH3 hs3) trivial⟩
     case o5 =>
       intro a w2 Kx hG need old hsz fresh hK
       have e0 : a.tmps[1]?.getD undef = .pointer (some ⟨p, 0, none⟩) := by
         rw [← Array.getD_eq_getD_getElem?]
         exact old 1 (by kernel_rfl)
       refine op_value (v := .pointer (some ⟨p, 0, none⟩)) (wanted_none rfl) ?_ (hK _ w2 ⟨fun e => absurd e (by decide), fun _ => rfl⟩ (hG.quiet (by decide) (by decide) (by decide) (by decide) (by decide)) trivial)
       simp [execOp, go_sem, e0]
     case o6 =>
       intro a w2 Kx hG need old hsz fresh hK
       have e0 : a.tmps[2]?.getD undef = .pointer (some ⟨w1.heap.size, 0, none⟩) := by
         rw [← Array.getD_eq_getD_getElem?]
         exact old 2 (by kernel_rfl)
       have hbx := (Safe.block hG.safe hG.ks (.inr rfl)).trans hkb
       obtain ⟨d0, d1, _, _⟩ := cells2' hbx
       refine op_value (v := .agg #[.int .i64 1, .int .i64 0]) (wanted_none rfl) ?_ (hK _ w2 ⟨fun e => absurd e (by decide), fun _ => rfl⟩ (hG.quiet (by decide) (by decide) (by decide) (by decide) (by decide)) trivial)
       simp [execOp, go_sem, e0, d0, d1]
     case o7 =>
       intro a w2 Kx hG need old hsz fresh hK
       have hf : vals _ a 7 = undef := fresh
       refine op_value (v := sl2 w2.heap.size) (w' := w2.alloc (.cells #[.int .u8 120, .int .u8 121] 5)) (wanted_none rfl) ?_ (hK _ _ ⟨fun _ => ⟨_, rfl⟩, fun e => (e (by decide)).elim⟩ (hG.build (by decide) hf (.inr rfl) (.inl (hG.e8.elim id fun e => e.trans hf))) trivial)
       simp [execOp, go_sem, sl2]
     case o8 =>
       intro a w2 Kx hG need old hsz fresh hK
       obtain ⟨b, hb⟩ := (need 7 (by kernel_rfl) (by kernel_rfl)).1 (by decide)
       have e0 : a.tmps[18]?.getD undef = .slice (some ⟨b, 0, none⟩) 2 2 := by
         rw [← Array.getD_eq_getD_getElem?]
         exact hb
       obtain ⟨hbw, fr, hbc⟩ := hG.bytes b (.inr hb)
       obtain ⟨w3, fr', hr, c1, c2, c3, c4, c5, c6⟩ := conv_const hbc
       have hc := (hG.mark (.inr hb) c1 c2 c3 c4 c5 c6).conv8
       rw [hb] at hc
       refine op_value (v := sl2 b) (w' := w3) (wanted_none rfl) ?_ (hK _ w3 ⟨fun _ => ⟨_, rfl⟩, fun e => (e (by decide)).elim⟩ hc trivial)
       simp [execOp, go_sem, sl2, e0, hr]
     case o9 =>
       intro a w2 Kx hG need old hsz fresh hK
       have e0 : a.tmps[16]?.getD undef = .pointer (some ⟨p, 0, none⟩) := by
         rw [← Array.getD_eq_getD_getElem?]
         exact (need 5 (by kernel_rfl) (by kernel_rfl)).2 (by decide)
       have e1 : a.tmps[17]?.getD undef = .agg #[.int .i64 1, .int .i64 0] := by
         rw [← Array.getD_eq_getD_getElem?]
         exact (need 6 (by kernel_rfl) (by kernel_rfl)).2 (by decide)
       obtain ⟨b, hb⟩ := (need 8 (by kernel_rfl) (by kernel_rfl)).1 (by decide)
       have e2 : a.tmps[19]?.getD undef = .slice (some ⟨b, 0, none⟩) 2 2 := by
         rw [← Array.getD_eq_getD_getElem?]
         exact hb
       have h2b := (hG.e8.resolve_left (fun e => absurd (hb.symm.trans e) (sl2_ne b))).symm.trans hb
       obtain ⟨_, fr, hby⟩ := hG.bytes b (.inr h2b)
       obtain ⟨S, hS, hS2⟩ := hG.held
       have h40 := (need 4 (by kernel_rfl) (by kernel_rfl)).2 (by decide)
       obtain rfl : S = aw1 := by
         rcases hS2 with ⟨e, _⟩ | ⟨_, e⟩
         · exact absurd (h40.symm.trans e) (by simp [undef])
         · exact e
       refine op_call (wanted_none rfl) (f := 26) (args := #[.pointer (some ⟨p, 0, none⟩), .agg #[.int .i64 1, .int .i64 0], .slice (some ⟨b, 0, none⟩) xy.length 2]) ?run ((held_prog (some ⟨b, 0, none⟩) 2 xy 1 0 hS (xy_cells hby (.inr (.inr h2b)))).mono ?post)
       case run =>
         show _ = Result.ok (Next.enter _ #[_, _, .slice (some ⟨b, 0, none⟩) 2 2]) _
         simp [go_sem, e0, e1, e2]
       case post =>
         rintro e w3 ⟨rfl, hH3, hs3⟩
         rw [aw_p2] at hH3 ⊢
         exact ⟨_, rfl, hK _ w3 ⟨fun e => absurd e (by decide), fun _ => rfl⟩ (hG.prog (.inr rfl) (by simp [undef, told]) rfl (fun _ e => absurd (h40.symm.trans e) (by simp [undef])) hH3 hs3) trivial⟩
     case o10 =>
       intro a w2 Kx hG need old hsz fresh hK
       have e0 : a.tmps[15]?.getD undef = .int .i64 0 := by
         rw [← Array.getD_eq_getD_getElem?]
         exact (need 4 (by kernel_rfl) (by kernel_rfl)).2 (by decide)
       refine op_value (v := .int .i64 0) (wanted_none rfl) ?_ (hK _ w2 ⟨fun e => absurd e (by decide), fun _ => rfl⟩ (hG.quiet (by decide) (by decide) (by decide) (by decide) (by decide)) trivial)
       simp [execOp, go_sem, e0]
     case o11 =>
       intro a w2 Kx hG need old hsz fresh hK
       have e0 : a.tmps[20]?.getD undef = .int .i64 4 := by
         rw [← Array.getD_eq_getD_getElem?]
         exact (need 9 (by kernel_rfl) (by kernel_rfl)).2 (by decide)
       refine op_value (v := .int .i64 4) (wanted_none rfl) ?_ (hK _ w2 ⟨fun e => absurd e (by decide), fun _ => rfl⟩ (hG.quiet (by decide) (by decide) (by decide) (by decide) (by decide)) trivial)
       simp [execOp, go_sem, e0]
    case hend =>
      intro a w' hG hde hsz hφ hold
      obtain ⟨b1, hb1⟩ := (hφ 2 (by kernel_rfl)).1 (by decide)
      obtain ⟨b2, hb2⟩ := (hφ 3 (by kernel_rfl)).1 (by decide)
      obtain ⟨b3, hb3⟩ := (hφ 7 (by kernel_rfl)).1 (by decide)
      obtain ⟨b4, hb4⟩ := (hφ 8 (by kernel_rfl)).1 (by decide)
      obtain ⟨S, hS, hS2⟩ := hG.held
      obtain rfl : S = aw1 := by
        rcases hS2 with ⟨e, _⟩ | ⟨_, e⟩
        · exact absurd (((hφ 4 (by kernel_rfl)).2 (by decide)).symm.trans e) (by simp [undef])
        · exact e
      have ht : a.tmps = #[.bool false, .pointer (some ⟨p, 0, none⟩), .pointer (some ⟨w1.heap.size, 0, none⟩), .int .i64 0, .int .i64 4, undef, undef, undef, .slice (some ⟨w.heap.size, 0, none⟩) 1 1, .pointer (some ⟨p, 0, none⟩), .agg #[.int .i64 1, .int .i64 0], .pointer (some ⟨p, 0, none⟩), .agg #[.int .i64 1, .int .i64 0], sl2 b1, sl2 b2, .int .i64 0, .pointer (some ⟨p, 0, none⟩), .agg #[.int .i64 1, .int .i64 0], sl2 b3, sl2 b4, .int .i64 4, undef, undef, undef, undef, undef, undef, undef, undef, undef, undef, undef, undef, undef, undef, undef, undef, undef, undef, undef, undef, undef, undef, undef, undef, undef, undef, undef, undef, undef, undef, undef, undef, undef, undef, undef, undef, undef, undef, undef, undef, undef, undef, undef] := tmps_eq (l := [.bool false, .pointer (some ⟨p, 0, none⟩), .pointer (some ⟨w1.heap.size, 0, none⟩), .int .i64 0, .int .i64 4, undef, undef, undef, .slice (some ⟨w.heap.size, 0, none⟩) 1 1, .pointer (some ⟨p, 0, none⟩), .agg #[.int .i64 1, .int .i64 0], .pointer (some ⟨p, 0, none⟩), .agg #[.int .i64 1, .int .i64 0], sl2 b1, sl2 b2, .int .i64 0, .pointer (some ⟨p, 0, none⟩), .agg #[.int .i64 1, .int .i64 0], sl2 b3, sl2 b4, .int .i64 4, undef, undef, undef, undef, undef, undef, undef, undef, undef, undef, undef, undef, undef, undef, undef, undef, undef, undef, undef, undef, undef, undef, undef, undef, undef, undef, undef, undef, undef, undef, undef, undef, undef, undef, undef, undef, undef, undef, undef, undef, undef, undef, undef]) hsz (fun i hi => match i, hi with
        | 0, _ => Eq.trans (hold 0 (by kernel_rfl)) (by rfl)
        | 1, _ => Eq.trans (hold 1 (by kernel_rfl)) (by rfl)
        | 2, _ => Eq.trans (hold 2 (by kernel_rfl)) (by rfl)
        | 3, _ => Eq.trans ((hφ 10 (by kernel_rfl)).2 (by decide)) (by rfl)
        | 4, _ => Eq.trans ((hφ 11 (by kernel_rfl)).2 (by decide)) (by rfl)
        | 5, _ => Eq.trans (hold 5 (by kernel_rfl)) (by rfl)
        | 6, _ => Eq.trans (hold 6 (by kernel_rfl)) (by rfl)
        | 7, _ => Eq.trans (hold 7 (by kernel_rfl)) (by rfl)
        | 8, _ => Eq.trans (hold 8 (by kernel_rfl)) (by rfl)
        | 9, _ => Eq.trans (hold 9 (by kernel_rfl)) (by rfl)
        | 10, _ => Eq.trans (hold 10 (by kernel_rfl)) (by rfl)
        | 11, _ => Eq.trans ((hφ 0 (by kernel_rfl)).2 (by decide)) (by rfl)
        | 12, _ => Eq.trans ((hφ 1 (by kernel_rfl)).2 (by decide)) (by rfl)
        | 13, _ => Eq.trans (hb1) (by rfl)
        | 14, _ => Eq.trans (hb2) (by rfl)
        | 15, _ => Eq.trans ((hφ 4 (by kernel_rfl)).2 (by decide)) (by rfl)
        | 16, _ => Eq.trans ((hφ 5 (by kernel_rfl)).2 (by decide)) (by rfl)
        | 17, _ => Eq.trans ((hφ 6 (by kernel_rfl)).2 (by decide)) (by rfl)
        | 18, _ => Eq.trans (hb3) (by rfl)
        | 19, _ => Eq.trans (hb4) (by rfl)
        | 20, _ => Eq.trans ((hφ 9 (by kernel_rfl)).2 (by decide)) (by rfl)
        | 21, _ => Eq.trans (hold 21 (by kernel_rfl)) (by rfl)
        | 22, _ => Eq.trans (hold 22 (by kernel_rfl)) (by rfl)
        | 23, _ => Eq.trans (hold 23 (by kernel_rfl)) (by rfl)
        | 24, _ => Eq.trans (hold 24 (by kernel_rfl)) (by rfl)
        | 25, _ => Eq.trans (hold 25 (by kernel_rfl)) (by rfl)
        | 26, _ => Eq.trans (hold 26 (by kernel_rfl)) (by rfl)
        | 27, _ => Eq.trans (hold 27 (by kernel_rfl)) (by rfl)
        | 28, _ => Eq.trans (hold 28 (by kernel_rfl)) (by rfl)
        | 29, _ => Eq.trans (hold 29 (by kernel_rfl)) (by rfl)
        | 30, _ => Eq.trans (hold 30 (by kernel_rfl)) (by rfl)
        | 31, _ => Eq.trans (hold 31 (by kernel_rfl)) (by rfl)
        | 32, _ => Eq.trans (hold 32 (by kernel_rfl)) (by rfl)
        | 33, _ => Eq.trans (hold 33 (by kernel_rfl)) (by rfl)
        | 34, _ => Eq.trans (hold 34 (by kernel_rfl)) (by rfl)
        | 35, _ => Eq.trans (hold 35 (by kernel_rfl)) (by rfl)
        | 36, _ => Eq.trans (hold 36 (by kernel_rfl)) (by rfl)
        | 37, _ => Eq.trans (hold 37 (by kernel_rfl)) (by rfl)
        | 38, _ => Eq.trans (hold 38 (by kernel_rfl)) (by rfl)
        | 39, _ => Eq.trans (hold 39 (by kernel_rfl)) (by rfl)
        | 40, _ => Eq.trans (hold 40 (by kernel_rfl)) (by rfl)
        | 41, _ => Eq.trans (hold 41 (by kernel_rfl)) (by rfl)
        | 42, _ => Eq.trans (hold 42 (by kernel_rfl)) (by rfl)
        | 43, _ => Eq.trans (hold 43 (by kernel_rfl)) (by rfl)
        | 44, _ => Eq.trans (hold 44 (by kernel_rfl)) (by rfl)
        | 45, _ => Eq.trans (hold 45 (by kernel_rfl)) (by rfl)
        | 46, _ => Eq.trans (hold 46 (by kernel_rfl)) (by rfl)
        | 47, _ => Eq.trans (hold 47 (by kernel_rfl)) (by rfl)
        | 48, _ => Eq.trans (hold 48 (by kernel_rfl)) (by rfl)
        | 49, _ => Eq.trans (hold 49 (by kernel_rfl)) (by rfl)
        | 50, _ => Eq.trans (hold 50 (by kernel_rfl)) (by rfl)
        | 51, _ => Eq.trans (hold 51 (by kernel_rfl)) (by rfl)
        | 52, _ => Eq.trans (hold 52 (by kernel_rfl)) (by rfl)
        | 53, _ => Eq.trans (hold 53 (by kernel_rfl)) (by rfl)
        | 54, _ => Eq.trans (hold 54 (by kernel_rfl)) (by rfl)
        | 55, _ => Eq.trans (hold 55 (by kernel_rfl)) (by rfl)
        | 56, _ => Eq.trans (hold 56 (by kernel_rfl)) (by rfl)
        | 57, _ => Eq.trans (hold 57 (by kernel_rfl)) (by rfl)
        | 58, _ => Eq.trans (hold 58 (by kernel_rfl)) (by rfl)
        | 59, _ => Eq.trans (hold 59 (by kernel_rfl)) (by rfl)
        | 60, _ => Eq.trans (hold 60 (by kernel_rfl)) (by rfl)
        | 61, _ => Eq.trans (hold 61 (by kernel_rfl)) (by rfl)
        | 62, _ => Eq.trans (hold 62 (by kernel_rfl)) (by rfl)
        | 63, _ => Eq.trans (hold 63 (by kernel_rfl)) (by rfl)
        | n + 64, h => absurd h (by simp))
      have hS' := hS.less (y := fun b => b < w.heap.size ∨ b = w1.heap.size) (fun b hb => .inl hb)
      have hsf := hG.safe
      obtain ⟨tm, df⟩ := a
      dsimp only at ht hde
      subst ht hde
      clear hφ hold hG hS hb1 hb2 hb3 hb4 hsz hS2
      go_wp2_with fail
      go_meet
      case rel => exact ⟨rfl, rfl, hS', hsf⟩
  case rest =>
    obtain ⟨rfl, rfl, hH2, hs2⟩ := hcut
    obtain ⟨w3, rfl⟩ : ∃ w3 : World, w3 = wc := ⟨_, rfl⟩
    obtain ⟨d0, d1, _, _⟩ := cells2' ((Safe.block hs2 hks (.inr rfl)).trans hkb)
    obtain ⟨A1, A2, A3, hA1, hr1, hr2, hA2, he1, hA3, hb1, hb2, he2⟩ := aw_all
    have H2 := Lib.hid (show Held w3 p (fun b => b < w.heap.size ∨ b = w1.heap.size) A1 by rw [hA1]; exact hH2)
    have S2 := Lib.hid hs2
    have R1 := Lib.hid hr1
    have R2 := Lib.hid hr2
    have R3 := Lib.hid hA2
    have E1 := Lib.hid he1
    have E2 := Lib.hid hA3
    have B1 := Lib.hid hb1
    have B2 := Lib.hid hb2
    have E3 := Lib.hid he2
    clear hH2 hs2 hkb hks H1 hA1 hr1 hr2 hA2 he1 hA3 hb1 hb2 he2
    go_wp2_with (first
      | (go_at_call 14; (with_reducible refine (held_read 1 0 H2.out).mono ?_); rintro e w4 ⟨A, L, rfl, hL, hc, hH4, hs4⟩; rw [R2.out]; rw [R3.out] at hH4; have HL := Lib.hid (hL.out.trans R1.out); have HC := Lib.hid hc; have H4 := Lib.hid hH4; have S4 := Lib.hid hs4; clear hL hc hH4 hs4)
      | (go_at_call 16; (with_reducible refine (held_erase 1 H4.out).mono ?_); rintro e w5 ⟨rfl, hH5, hs5⟩; rw [E1.out]; rw [E2.out] at hH5; have hrb := (HC.out.safe hs5 (fun b hb => ⟨.inr hb, hb.2⟩) (fun b hb => hb)).rb (B := w5.heap.size) (fun b hb => Nat.lt_of_lt_of_le hb.2 hs5.size); have hstr := run_str hrb L.length; rw [show strOf L = { data := #[120, 121] } from by rw [HL.out]; rfl] at hstr; have H5 := Lib.hid hH5; have S5 := Lib.hid hs5; clear hH5 hs5 hrb)
      | (go_at_call 31; (with_reducible refine (held_block 1 H5.out).mono ?_); rintro e w6 ⟨v, rfl, ⟨A6, c6, rfl, hv6⟩, hb6⟩; rw [B1.out]; have fl2 := field_count (tellB A3 1).bad (tellB A3 1).next 1 A6 (tellB A3 1).pages.length c6; have HB6 := Lib.hid hb6; clear hb6 hv6)
      | (go_at_call 31; (with_reducible refine (held_block 2 (H5.out.below HB6.out)).mono ?_); rintro e w7 ⟨v, rfl, ⟨A7, c7, rfl, hv7⟩, hb7⟩; rw [B2.out]; have fl0 := field_bad true (tellB A3 2).next (tellB A3 2).count A7 (tellB A3 2).pages.length c7; have HB7 := Lib.hid hb7; clear hb7 hv7)
      | (go_at_call 16; (with_reducible refine (held_erase 2 ((H5.out.below HB6.out).below HB7.out)).mono ?_); rintro e w8 ⟨rfl, hH8, hs8⟩; rw [E3.out]; have S8 := Lib.hid hs8; clear hH8 hs8))
    go_ret
    refine ⟨rfl, ?_⟩
    have z1 := HB1.out.size
    have z2 := S2.out.size
    have z4 := S4.out.size
    have z5 := S5.out.size
    have z6 := HB6.out.size
    have z7 := HB7.out.size
    have b5 : Below w.heap.size W w5 := Safe.below (S2.out.then (S4.out.then' S5.out (fun b _ h => .inl h))) (fun b hb => .inl hb) z1
    exact ((HB1.out.trans b5).trans ((HB6.out.trans (HB7.out.mono z6)).mono (by omega))).trans (Safe.below S8.out (fun b hb => .inl (.inl hb)) (by omega))
end Go.Proofs.Ytchghdpfgamfpaa
