/- The landed chip and the reference's, beside each other in memory: what each call leaves. -/
import Derived.Test.YtchghdpfgamfpaaRel
namespace Go.Proofs.Ytchghdpfgamfpaa
open Go.RowKit

/-- A landed chip at c, the reference's at r, apart; the blocks of x are neither's. -/
def Both (w : World) (c r : Nat) (x : Nat → Prop) (S : LS) (T : CS) : Prop :=
  ∃ q cap g C q' cap' g' C', LAt w c q cap g C S ∧ ChipAt w r q' cap' g' C' T ∧ (∀ b, x b → b < w.heap.size ∧ ¬ Go.Proofs.Ytchghdpfgamfpaa.Own c q g C S.bl.length b ∧ ¬ Go.Proofs.Ytchghdpfgamfpaa.Own r q' g' C' T.bl.length b) ∧ ∀ b, Go.Proofs.Ytchghdpfgamfpaa.Own c q g C S.bl.length b → ¬ Go.Proofs.Ytchghdpfgamfpaa.Own r q' g' C' T.bl.length b
theorem own_more {p q n b : Nat} {g : Nat → Nat} {C D N : Nat → Prop} (hD : ∀ k, D k → C k ∨ N k) (h : Go.Proofs.Ytchghdpfgamfpaa.Own p q g D n b) : Go.Proofs.Ytchghdpfgamfpaa.Own p q g C n b ∨ N b := by
  rcases h with e | e | e | e
  · exact .inl (.inl e)
  · exact .inl (.inr (.inl e))
  · exact .inl (.inr (.inr (.inl e)))
  · rcases hD b e with e | e
    · exact .inl (.inr (.inr (.inr e)))
    · exact .inr e
section
variable {w w' : World} {c r : Nat} {x y : Nat → Prop} {S S' : LS} {T T' : CS}
theorem Both.below (h : Both w c r x S T) (hb : Below w.heap.size w w') : Both w' c r x S T := by
  obtain ⟨q, cap, g, C, q', cap', g', C', h1, h2, h3, h4⟩ := h
  exact ⟨q, cap, g, C, q', cap', g', C', h1.below hb, h2.below hb, fun b hx => ⟨Nat.lt_of_lt_of_le (h3 b hx).1 hb.size, (h3 b hx).2⟩, h4⟩
theorem Both.more (h : Both w c r x S T) (hb : Below w.heap.size w w') : Both w' c r (fun b => x b ∨ (w.heap.size ≤ b ∧ b < w'.heap.size)) S T := by
  obtain ⟨q, cap, g, C, q', cap', g', C', h1, h2, h3, h4⟩ := h
  refine ⟨q, cap, g, C, q', cap', g', C', h1.below hb, h2.below hb, fun b hx => ?_, h4⟩
  rcases hx with hx | ⟨h5, h6⟩
  · exact ⟨Nat.lt_of_lt_of_le (h3 b hx).1 hb.size, (h3 b hx).2⟩
  · exact ⟨h6, fun ho => by have := h1.lt b ho; omega, fun ho => by have := h2.lt b ho; omega⟩
theorem Both.less (h : Both w c r x S T) (hy : ∀ b, y b → x b) : Both w c r y S T := by
  obtain ⟨q, cap, g, C, q', cap', g', C', h1, h2, h3, h4⟩ := h
  exact ⟨q, cap, g, C, q', cap', g', C', h1, h2, fun b hb => h3 b (hy b hb), h4⟩
theorem Both.alloc (h : Both w c r x S T) (o : Obj) : Both (w.alloc o) c r (fun b => x b ∨ b = w.heap.size) S T :=
  (h.more ((Below.refl _ _).alloc (Nat.le_refl _) o)).less fun b hb => hb.imp id (fun e => ⟨by omega, by rw [World.size_alloc]; omega⟩)
theorem Both.drew (h : Both w c r x S T) : Both w.drew c r x S T := h.below (Below.refl _ _).drew
/-- A block of x is written. -/
theorem Both.set (h : Both w c r x S T) {a : Addr} (ha : x a.block) (u : Value) : Both (w.setCell a u) c r x S T := by
  obtain ⟨q, cap, g, C, q', cap', g', C', h1, h2, h3, h4⟩ := h
  have k : ∀ b, b ≠ a.block → (w.setCell a u).heap[b]? = w.heap[b]? := fun b hb => Below.heap_setCell w a u b hb
  exact ⟨q, cap, g, C, q', cap', g', C', h1.kept (by simp) fun b ho => k b (fun e => (h3 _ ha).2.1 (e ▸ ho)), h2.kept (by simp) fun b ho => k b (fun e => (h3 _ ha).2.2 (e ▸ ho)), fun b hb => ⟨by simpa using (h3 b hb).1, (h3 b hb).2⟩, h4⟩
theorem Both.held (h : Both w c r x S T) : Held w c x S := by
  obtain ⟨q, cap, g, C, q', cap', g', C', h1, h2, h3, h4⟩ := h
  exact ⟨q, cap, g, C, h1, fun b hb => ⟨(h3 b hb).1, (h3 b hb).2.1⟩⟩
/-- The landed chip was turned. -/
theorem both_left {q cap q' cap' : Nat} {g g' : Nat → Nat} {C C' D : Nat → Prop} (_h1 : LAt w c q cap g C S) (h2 : ChipAt w r q' cap' g' C' T) (h3 : ∀ b, x b → b < w.heap.size ∧ ¬ Go.Proofs.Ytchghdpfgamfpaa.Own c q g C S.bl.length b ∧ ¬ Go.Proofs.Ytchghdpfgamfpaa.Own r q' g' C' T.bl.length b) (h4 : ∀ b, Go.Proofs.Ytchghdpfgamfpaa.Own c q g C S.bl.length b → ¬ Go.Proofs.Ytchghdpfgamfpaa.Own r q' g' C' T.bl.length b)
    (hl : S'.bl.length = S.bl.length) (h : LAt w' c q cap g D S') (hD : ∀ k, D k → C k ∨ (w.heap.size ≤ k ∧ k < w'.heap.size)) (ht : Turned (Go.Proofs.Ytchghdpfgamfpaa.Own c q g C S.bl.length) w w') : Both w' c r x S' T ∧ Safe x w w' := by
  refine ⟨⟨q, cap, g, D, q', cap', g', C', h, h2.turned ht fun b hb ho => h4 b ho hb, fun b hb => ⟨Nat.lt_of_lt_of_le (h3 b hb).1 ht.size, fun ho => ?_, (h3 b hb).2.2⟩, fun b ho hr => ?_⟩, ht.os, ht.tape, ht.output, ht.size, fun i hi hx => ht.block i hi fun ho => hx fun hxi => (h3 i hxi).2.1 ho⟩
  · rw [hl] at ho
    rcases own_more hD ho with e | e
    · exact (h3 b hb).2.1 e
    · have := (h3 b hb).1; omega
  · rw [hl] at ho
    rcases own_more hD ho with e | e
    · exact h4 b e hr
    · have := h2.lt b hr; omega
/-- The reference's was. -/
theorem both_right {q cap q' cap' : Nat} {g g' : Nat → Nat} {C C' D : Nat → Prop} (h1 : LAt w c q cap g C S) (_h2 : ChipAt w r q' cap' g' C' T) (h3 : ∀ b, x b → b < w.heap.size ∧ ¬ Go.Proofs.Ytchghdpfgamfpaa.Own c q g C S.bl.length b ∧ ¬ Go.Proofs.Ytchghdpfgamfpaa.Own r q' g' C' T.bl.length b) (h4 : ∀ b, Go.Proofs.Ytchghdpfgamfpaa.Own c q g C S.bl.length b → ¬ Go.Proofs.Ytchghdpfgamfpaa.Own r q' g' C' T.bl.length b)
    (hl : T'.bl.length = T.bl.length) (h : ChipAt w' r q' cap' g' D T') (hD : ∀ k, D k → C' k ∨ (w.heap.size ≤ k ∧ k < w'.heap.size)) (ht : Turned (Go.Proofs.Ytchghdpfgamfpaa.Own r q' g' C' T.bl.length) w w') : Both w' c r x S T' ∧ Safe x w w' := by
  refine ⟨⟨q, cap, g, C, q', cap', g', D, h1.turned ht fun b hb ho => h4 b hb ho, h, fun b hb => ⟨Nat.lt_of_lt_of_le (h3 b hb).1 ht.size, (h3 b hb).2.1, fun ho => ?_⟩, fun b ho hr => ?_⟩, ht.os, ht.tape, ht.output, ht.size, fun i hi hx => ht.block i hi fun ho => hx fun hxi => (h3 i hxi).2.2 ho⟩
  · rw [hl] at ho
    rcases own_more hD ho with e | e
    · exact (h3 b hb).2.2 e
    · have := (h3 b hb).1; omega
  · rw [hl] at hr
    rcases own_more hD hr with e | e
    · exact h4 b ho e
    · have := h1.lt b ho; omega
theorem progS_len (T : CS) (b pg : Int) (l : List UInt8) : (progS T b pg l).2.bl.length = T.bl.length := by
  unfold progS putS
  repeat' split
  all_goals simp
theorem eraseS_len (T : CS) (b : Int) : (eraseS T b).2.bl.length = T.bl.length := by
  unfold eraseS
  repeat' split
  all_goals simp
theorem readS_len (T : CS) (b pg : Int) : (readS T b pg).2.2.bl = T.bl := by
  unfold readS
  repeat' split
  all_goals rfl
theorem both_progL (A : Option Addr) (m : Nat) (l : List UInt8) (b pg : Int) (h : Both w c r x S T) (hl : CB w x A l) :
    Calls Try.prog 26 #[.pointer (some ⟨c, 0, none⟩), .agg #[.int .i64 b, .int .i64 pg], .slice A l.length m] w fun e w' => e = .returned (.int .i64 (progL S b pg l).1) ∧ Both w' c r x (progL S b pg l).2 T ∧ Safe x w w' := by
  obtain ⟨q, cap, g, C, q', cap', g', C', h1, h2, h3, h4⟩ := h
  refine (prog_any A m l b pg h1 hl fun k hk => ⟨(h3 k hk).1, (h3 k hk).2.1⟩).mono ?_
  rintro e w' ⟨rfl, D, h5, h6, h7⟩
  exact ⟨rfl, both_left h1 h2 h3 h4 (progL_len S b pg l) h5 h6 h7⟩
theorem both_progR (A : Option Addr) (m : Nat) (l : List UInt8) (b pg : Int) (h : Both w c r x S T) (hl : CB w x A l) (hm : l.length ≤ m) :
    Calls Try.prog 27 #[.pointer (some ⟨r, 0, none⟩), .agg #[.int .i64 b, .int .i64 pg], .slice A l.length m] w fun e w' => e = .returned (.int .i64 (progS T b pg l).1) ∧ Both w' c r x S (progS T b pg l).2 ∧ Safe x w w' := by
  obtain ⟨q, cap, g, C, q', cap', g', C', h1, h2, h3, h4⟩ := h
  refine (prog_ref A m l b pg h2 hl hm fun k hk => ⟨(h3 k hk).1, (h3 k hk).2.2⟩).mono ?_
  rintro e w' ⟨rfl, D, h5, h6, h7⟩
  exact ⟨rfl, both_right h1 h2 h3 h4 (progS_len T b pg l) h5 h6 h7⟩
theorem both_eraseL (b : Int) (h : Both w c r x S T) :
    Calls Try.prog 16 #[.pointer (some ⟨c, 0, none⟩), .int .i64 b] w fun e w' => e = .returned (.int .i64 (eraseL S b).1) ∧ Both w' c r x (eraseL S b).2 T ∧ Safe x w w' := by
  obtain ⟨q, cap, g, C, q', cap', g', C', h1, h2, h3, h4⟩ := h
  refine (erase_any b h1).mono ?_
  rintro e w' ⟨rfl, h5, h7⟩
  exact ⟨rfl, both_left h1 h2 h3 h4 (eraseL_len S b) h5 (fun _ h => .inl h) h7⟩
theorem both_eraseR (b : Int) (h : Both w c r x S T) :
    Calls Try.prog 17 #[.pointer (some ⟨r, 0, none⟩), .int .i64 b] w fun e w' => e = .returned (.int .i64 (eraseS T b).1) ∧ Both w' c r x S (eraseS T b).2 ∧ Safe x w w' := by
  obtain ⟨q, cap, g, C, q', cap', g', C', h1, h2, h3, h4⟩ := h
  refine (erase_ref b h2).mono ?_
  rintro e w' ⟨rfl, h5, h7⟩
  exact ⟨rfl, both_right h1 h2 h3 h4 (eraseS_len T b) h5 (fun _ h => .inl h) h7⟩
/-- What Read told lies in new blocks, and these are safe. -/
theorem both_readL (b pg : Int) (h : Both w c r x S T) :
    Calls Try.prog 14 #[.pointer (some ⟨c, 0, none⟩), .agg #[.int .i64 b, .int .i64 pg]] w fun e w' => ∃ A L, e = .returned (.tuple #[.slice A L.length L.length, .int .i64 (rdL S b pg).2.1]) ∧ Hid (L = (rdL S b pg).1) ∧ CB w' (fun k => w.heap.size ≤ k ∧ k < w'.heap.size) A L ∧ Both w' c r (fun b => x b ∨ (w.heap.size ≤ b ∧ b < w'.heap.size)) (rdL S b pg).2.2 T ∧ Safe x w w' := by
  obtain ⟨q, cap, g, C, q', cap', g', C', h1, h2, h3, h4⟩ := h
  refine (read_any b pg h1).mono ?_
  rintro e w' ⟨A, L, rfl, hL, hc, h5, h7⟩
  have hbl := rdL_len S b pg
  obtain ⟨⟨q1, cap1, g1, C1, q2, cap2, g2, C2, k1, k2, k3, k4⟩, hs⟩ := both_left h1 h2 h3 h4 (by rw [hbl]) h5 (fun _ h => .inl h) h7
  refine ⟨A, L, rfl, hL, hc, ⟨q, cap, g, C, q', cap', g', C', h5, h2.turned h7 fun b hb ho => h4 b ho hb, fun b hb => ?_, by rw [hbl]; exact h4⟩, hs⟩
  rw [hbl]
  rcases hb with hb | ⟨h8, h9⟩
  · exact ⟨Nat.lt_of_lt_of_le (h3 b hb).1 h7.size, (h3 b hb).2⟩
  · exact ⟨h9, fun ho => by have := h1.lt b ho; omega, fun ho => by have := h2.lt b ho; omega⟩
theorem both_readR (b pg : Int) (h : Both w c r x S T) :
    Calls Try.prog 15 #[.pointer (some ⟨r, 0, none⟩), .agg #[.int .i64 b, .int .i64 pg]] w fun e w' => ∃ A m L, e = .returned (.tuple #[.slice A L.length m, .int .i64 (readS T b pg).2.1]) ∧ Hid (L = (readS T b pg).1) ∧ L.length ≤ m ∧ CB w' (fun k => w.heap.size ≤ k ∧ k < w'.heap.size) A L ∧ Both w' c r (fun b => x b ∨ (w.heap.size ≤ b ∧ b < w'.heap.size)) S (readS T b pg).2.2 ∧ Safe x w w' := by
  obtain ⟨q, cap, g, C, q', cap', g', C', h1, h2, h3, h4⟩ := h
  refine (read_ref b pg h2).mono ?_
  rintro e w' ⟨A, m, L, rfl, hL, hm, hc, h5, h7⟩
  have hbl := readS_len T b pg
  obtain ⟨_, hs⟩ := both_right h1 h2 h3 h4 (by rw [hbl]) h5 (fun _ h => .inl h) h7
  refine ⟨A, m, L, rfl, hL, hm, hc, ⟨q, cap, g, C, q', cap', g', C', h1.turned h7 fun b hb ho => h4 b hb ho, h5, fun b hb => ?_, by rw [hbl]; exact h4⟩, hs⟩
  rw [hbl]
  rcases hb with hb | ⟨h8, h9⟩
  · exact ⟨Nat.lt_of_lt_of_le (h3 b hb).1 h7.size, (h3 b hb).2⟩
  · exact ⟨h9, fun ho => by have := h1.lt b ho; omega, fun ho => by have := h2.lt b ho; omega⟩
/-- A setter of the landed chip, of the reference's. -/
theorem both_postL {v : Value} {q cap q' cap' : Nat} {g g' : Nat → Nat} {C C' : Nat → Prop} (h1 : LAt w c q cap g C S) (h2 : ChipAt w r q' cap' g' C' T) (h3 : ∀ b, x b → b < w.heap.size ∧ ¬ Go.Proofs.Ytchghdpfgamfpaa.Own c q g C S.bl.length b ∧ ¬ Go.Proofs.Ytchghdpfgamfpaa.Own r q' g' C' T.bl.length b) (h4 : ∀ b, Go.Proofs.Ytchghdpfgamfpaa.Own c q g C S.bl.length b → ¬ Go.Proofs.Ytchghdpfgamfpaa.Own r q' g' C' T.bl.length b)
    {e : Ending} (h : LPost c q cap g C S.bl.length v S' w e w') (hl : S'.bl = S.bl) : e = .returned v ∧ Both w' c r x S' T ∧ Safe x w w' := by
  obtain ⟨rfl, h5, h6⟩ := h
  exact ⟨rfl, both_left h1 h2 h3 h4 (by rw [hl]) h5 (fun _ h => .inl h) h6⟩
theorem both_postR {v : Value} {q cap q' cap' : Nat} {g g' : Nat → Nat} {C C' : Nat → Prop} (h1 : LAt w c q cap g C S) (h2 : ChipAt w r q' cap' g' C' T) (h3 : ∀ b, x b → b < w.heap.size ∧ ¬ Go.Proofs.Ytchghdpfgamfpaa.Own c q g C S.bl.length b ∧ ¬ Go.Proofs.Ytchghdpfgamfpaa.Own r q' g' C' T.bl.length b) (h4 : ∀ b, Go.Proofs.Ytchghdpfgamfpaa.Own c q g C S.bl.length b → ¬ Go.Proofs.Ytchghdpfgamfpaa.Own r q' g' C' T.bl.length b)
    {e : Ending} (h : ChipPost r q' cap' g' C' T.bl.length v T' w e w') (hl : T'.bl = T.bl) : e = .returned v ∧ Both w' c r x S T' ∧ Safe x w w' := by
  obtain ⟨rfl, h5, h6⟩ := h
  exact ⟨rfl, both_right h1 h2 h3 h4 (by rw [hl]) h5 (fun _ h => .inl h) h6⟩
theorem both_failL (n : Int) (hn : n ≤ 9223372036854775807) (h : Both w c r x S T) : Calls Try.prog 18 #[.pointer (some ⟨c, 0, none⟩), .int .i64 n] w fun e w' => e = .returned (.tuple #[]) ∧ Both w' c r x { S with f := behindS n } T ∧ Safe x w w' := by
  obtain ⟨q, cap, g, C, q', cap', g', C', h1, h2, h3, h4⟩ := h
  exact (fail_any n hn h1).mono fun e w' h => both_postL h1 h2 h3 h4 h rfl
theorem both_failR (n : Int) (h : Both w c r x S T) : Calls Try.prog 19 #[.pointer (some ⟨r, 0, none⟩), .int .i64 n] w fun e w' => e = .returned (.tuple #[]) ∧ Both w' c r x S { T with fails := afterS n } ∧ Safe x w w' := by
  obtain ⟨q, cap, g, C, q', cap', g', C', h1, h2, h3, h4⟩ := h
  exact (fail_ref n h2).mono fun e w' h => both_postR h1 h2 h3 h4 h rfl
theorem both_wornL (n : Int) (hn : n ≤ 9223372036854775807) (h : Both w c r x S T) : Calls Try.prog 20 #[.pointer (some ⟨c, 0, none⟩), .int .i64 n] w fun e w' => e = .returned (.tuple #[]) ∧ Both w' c r x { S with w := behindS n } T ∧ Safe x w w' := by
  obtain ⟨q, cap, g, C, q', cap', g', C', h1, h2, h3, h4⟩ := h
  exact (worn_any n hn h1).mono fun e w' h => both_postL h1 h2 h3 h4 h rfl
theorem both_wornR (n : Int) (h : Both w c r x S T) : Calls Try.prog 21 #[.pointer (some ⟨r, 0, none⟩), .int .i64 n] w fun e w' => e = .returned (.tuple #[]) ∧ Both w' c r x S { T with worns := afterS n } ∧ Safe x w w' := by
  obtain ⟨q, cap, g, C, q', cap', g', C', h1, h2, h3, h4⟩ := h
  exact (worn_ref n h2).mono fun e w' h => both_postR h1 h2 h3 h4 h rfl
theorem both_cutL (n k : Int) (hn : n ≤ 9223372036854775807) (h : Both w c r x S T) : Calls Try.prog 22 #[.pointer (some ⟨c, 0, none⟩), .int .i64 n, .int .i64 k] w fun e w' => e = .returned (.tuple #[]) ∧ Both w' c r x { S with c := behindS n, keep := max 0 k } T ∧ Safe x w w' := by
  obtain ⟨q, cap, g, C, q', cap', g', C', h1, h2, h3, h4⟩ := h
  exact (cut_any n k hn h1).mono fun e w' h => both_postL h1 h2 h3 h4 h rfl
theorem both_cutR (n k : Int) (h : Both w c r x S T) : Calls Try.prog 23 #[.pointer (some ⟨r, 0, none⟩), .int .i64 n, .int .i64 k] w fun e w' => e = .returned (.tuple #[]) ∧ Both w' c r x S { T with cuts := afterS n, keep := max 0 k } ∧ Safe x w w' := by
  obtain ⟨q, cap, g, C, q', cap', g', C', h1, h2, h3, h4⟩ := h
  exact (cut_ref n k h2).mono fun e w' h => both_postR h1 h2 h3 h4 h rfl
theorem both_powerL (h : Both w c r x S T) : Calls Try.prog 24 #[.pointer (some ⟨c, 0, none⟩)] w fun e w' => e = .returned (.tuple #[]) ∧ Both w' c r x { S with dark := false, c := ⟨false, 0⟩ } T ∧ Safe x w w' := by
  obtain ⟨q, cap, g, C, q', cap', g', C', h1, h2, h3, h4⟩ := h
  exact (power_any h1).mono fun e w' h => both_postL h1 h2 h3 h4 h rfl
theorem both_powerR (h : Both w c r x S T) : Calls Try.prog 25 #[.pointer (some ⟨r, 0, none⟩)] w fun e w' => e = .returned (.tuple #[]) ∧ Both w' c r x S { T with dark := false, cuts := 0 } ∧ Safe x w w' := by
  obtain ⟨q, cap, g, C, q', cap', g', C', h1, h2, h3, h4⟩ := h
  exact (power_ref h2).mono fun e w' h => both_postR h1 h2 h3 h4 h rfl
theorem both_at (i : Int) (h : Both w c r x S T) : Calls Try.prog 32 #[.pointer (some ⟨r, 0, none⟩), .int .i64 i] w (AtPost (tellR T i) w) := by
  obtain ⟨q, cap, g, C, q', cap', g', C', h1, h2, h3, h4⟩ := h
  exact at_any i h2
/-- The reference's struct, as the law reads it. -/
theorem both_cells (h : Both w c r x S T) : ∃ q cap, w.cell? ⟨r, 0, none⟩ = some (.slice (some ⟨q, 0, none⟩) T.bl.length cap) ∧ T.bl.length ≤ cap ∧ w.cell? ⟨r, 6, none⟩ = some (.bool T.dark) ∧ w.cell? ⟨r, 7, none⟩ = some (.int .i64 T.rd) ∧ w.cell? ⟨r, 8, none⟩ = some (.int .i64 T.pr) ∧ w.cell? ⟨r, 9, none⟩ = some (.int .i64 T.er) ∧ (∀ i (hi : i < T.bl.length), w.cell? ⟨q, i * 4 + 1, none⟩ = some (.int .i64 T.bl[i].next)) ∧
    ∀ (B : Nat) (v : Value) (w1 : World), RowB w1 B v T.bl → Below w.heap.size w w1 → Calls Try.prog 33 #[v, .slice (some ⟨q, 0, none⟩) T.bl.length cap] w1 fun e w' => e = .returned (.bool true) ∧ Below w1.heap.size w1 w' := by
  obtain ⟨q, cap, g, C, q', cap', g', C', h1, h2, h3, h4⟩ := h
  obtain ⟨c0, _, _, _, _, _, c6, c7, c8, c9⟩ := cells10 h2.self
  exact ⟨q', cap', c0, h2.cap, c6, c7, c8, c9, fun i hi => (h2.blocks i hi).next, fun B v w1 hr hb => sameblocks_any (h2.below hb) hr⟩
theorem both_blocks (h : Both w c r x S T) (h1 : 1 ≤ S.bl.length) : Calls Try.prog 34 #[.pointer (some ⟨c, 0, none⟩)] w (BlocksPost S.bl w) := by
  obtain ⟨q, cap, g, C, q', cap', g', C', h5, h2, h3, h4⟩ := h
  exact blocks_any h5 h1
/-- Two new ones, one made behind the other. -/
theorem both_new {w0 w1 w2 : World} {n np cap q' cap' : Nat} {q : Nat} {g g' : Nat → Nat} {C C' : Nat → Prop} (h1 : LAt w1 c q cap g C S) (hb1 : Below w0.heap.size w0 w1) (hb2 : Below w1.heap.size w1 w2) (hn : S.bl.length = n) (hm : T.bl.length = np) (ho : ∀ b, Go.Proofs.Ytchghdpfgamfpaa.Own c q g C n b → w0.heap.size ≤ b)
    (h2 : ChipAt w2 r q' cap' g' C' T) (hp : ∀ b, Go.Proofs.Ytchghdpfgamfpaa.Own r q' g' C' np b → w1.heap.size ≤ b) : Both w2 c r (fun b => b < w0.heap.size) S T := by
  have hs1 := hb1.size
  have hs2 := hb2.size
  refine ⟨q, cap, g, C, q', cap', g', C', h1.below hb2, h2, fun b hb => ⟨by omega, fun h => ?_, fun h => ?_⟩, fun b h5 h6 => ?_⟩
  · have := ho b (by rw [← hn]; exact h); omega
  · have := hp b (by rw [← hm]; exact h); omega
  · have := h1.lt b h5
    have := hp b (by rw [← hm]; exact h6); omega
end
end Go.Proofs.Ytchghdpfgamfpaa
