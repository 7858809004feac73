/- What reads bytes: number, NewReader, Err, Left, Number, Text of package bytes. -/
import Derived.Test.YtfjijpejoocngaaMake
namespace Go.Proofs.Ytfjijpejoocngaa
open Go.RowKit

/-- What is told of what is read: the number, and how many bytes it has. -/
def told (o : Option (Nat × Nat)) : Nat × Nat := o.getD (0, 0)
def Told (o : Option (Nat × Nat)) (w : World) (e : Ending) (w' : World) : Prop := e = .returned (.tuple #[.int .i64 (told o).1, .int .i64 (told o).2]) ∧ w = w'
set_option maxRecDepth 100000 in
set_option maxHeartbeats 1000000 in
theorem parse_any (B : Nat) (A : Option Addr) (c : Nat) (l : List UInt8) (most : Int) (w : World) (h : RB w B A l) (hc : l.length ≤ c) (hl : l.length ≤ 70368744177664) :
    Calls Try.prog 38 #[.slice A l.length c, .int .i64 most] w (Told (readL l most) w) := by
  by_cases h0 : l = []
  · subst h0
    go_enter Try.func38, Try.ntmps38
    go_wp2
    refine wp_loop_rounds 1 ?_
    rw [rounds_succ]
    go_wp2
    go_ret2
    exact ⟨rfl, rfl⟩
  · have hn : 0 < l.length := by cases l; exact absurd rfl h0; simp
    obtain ⟨ad, rfl, hb, hcell⟩ := h hn
    have hd : w.cell? ad = some (.int .u8 l[0].toNat) := by simpa [Addr.add, ub] using hcell 0 hn
    by_cases h1 : l[0] = 128
    · have e : (l[0].toNat : Int) = 128 := by rw [h1]; rfl
      rw [e] at hd
      have hr : readL l most = none := by unfold readL; rw [if_pos (by simp [hn, h1])]
      rw [hr]
      clear e h1 hr h0 hcell
      go_enter Try.func38, Try.ntmps38
      go_wp2
      go_ret2
      exact ⟨rfl, rfl⟩
    · have hne : ((l[0].toNat : Int) == 128) = false := by
        have : l[0].toNat ≠ 128 := fun e => h1 (UInt8.toNat.inj e)
        simp; omega
      have hr : readL l most = scanL most 0 0 (l.take 6) := by unfold readL; rw [if_neg (by simp [hn, h1])]
      rw [hr]
      clear hr h0
      generalize hd0 : l[0].toNat = d0 at hd hne
      clear hd0 h1
      obtain ⟨m, hm⟩ : ∃ m : Nat, min (l.length : Int) 6 = (m : Int) := ⟨min l.length 6, by omega⟩
      have hm2 : max (m : Int) 0 = m := by omega
      have hm3 : m ≤ l.length := by omega
      have hm6 : m ≤ 6 := by omega
      have hml : (l.take 6).length = m := by simp; omega
      have Hml := Lib.hid hml
      clear hml
      go_enter Try.func38, Try.ntmps38
      go_wp2
      clear hm hm2 hd hne
      go_loop [4, 23] (fun a i => ∃ k acc : Nat, k ≤ m ∧ i = .int .i64 k ∧ a = .int .i64 acc ∧ acc < 128 ^ k ∧ scanL most 0 0 (l.take 6) = scanL most acc k ((l.take 6).drop k)) (fun _ i => m - (intOf i).toNat)
      case atStart => exact ⟨0, 0, Nat.zero_le _, rfl, rfl, by simp, by simp⟩
      case round =>
        obtain ⟨k, acc, hk, rfl, rfl, hacc, hsc⟩ := hrel
        have Hsc := Lib.hid hsc
        clear hsc
        by_cases hlt : k < m
        · have hck := hcell k (by omega)
          unfold ub at hck
          have hacc5 : acc < 34359738368 := Nat.lt_of_lt_of_le hacc (Nat.le_trans (Nat.pow_le_pow_right (by decide) (show k ≤ 5 by omega)) (by decide))
          have hd256 := l[k].toNat_lt
          have hdk : ((l.take 6).drop k) = l[k] :: (l.take 6).drop (k + 1) := by
            rw [List.drop_eq_getElem_cons (by rw [Hml.out]; exact hlt)]; simp
          have HS : scanL most 0 0 (l.take 6) = (if most < ((acc * 128 + l[k].toNat % 128 : Nat) : Int) then none else if l[k].toNat < 128 then some (acc * 128 + l[k].toNat % 128, k + 1) else scanL most (acc * 128 + l[k].toNat % 128) (k + 1) ((l.take 6).drop (k + 1))) := by rw [Hsc.out, hdk, scanL]
          clear hdk
          generalize l[k].toNat = d at hck hd256 HS
          obtain ⟨x, hx⟩ : ∃ x, x = d % 128 := ⟨_, rfl⟩
          have hx1 : x < 128 := by omega
          have e1 : bits .andNot .u8 (d : Int) 128 = (x : Int) := by rw [not128 _ (by omega) (by omega)]; omega
          obtain ⟨y, hy⟩ : ∃ y, y = acc * 128 + x := ⟨_, rfl⟩
          have hy1 : y < 4398046511104 := by omega
          have e3 : bits .or .i64 ((acc : Int) * 128) (x : Int) = (y : Int) := by rw [or7 acc x hacc5 hx1, hy]
          have e4 := and128 (d : Int) (by omega) (by omega)
          rw [← hx, ← hy] at HS
          have Hy : y < 128 ^ (k + 1) := by rw [Nat.pow_succ]; omega
          clear hx hy
          by_cases hmost : most < (y : Int)
          · rw [if_pos hmost] at HS
            have HS' := Lib.hid HS
            clear HS
            go_wp2
            go_ret2
            exact ⟨by rw [HS'.out]; rfl, rfl⟩
          · rw [if_neg hmost] at HS
            by_cases hdl : d < 128
            · rw [decide_eq_true (by omega : (d : Int) < 128)] at e4
              rw [if_pos hdl] at HS
              have HS' := Lib.hid HS
              clear HS
              go_wp2
              go_ret2
              exact ⟨by rw [HS'.out]; rfl, rfl⟩
            · rw [decide_eq_false (by omega : ¬ (d : Int) < 128)] at e4
              rw [if_neg hdl] at HS
              have HS' := Lib.hid HS
              clear HS
              go_wp2
              go_round
              case rel => exact ⟨k + 1, y, by omega, by go_num, rfl, Hy, HS'.out⟩
              case measure => simp [intOf]; omega
        · have HS : Hid (scanL most 0 0 (l.take 6) = none) := by
            show _ = _
            rw [Hsc.out, List.drop_eq_nil_of_le (by rw [Hml.out]; omega)]; rfl
          go_wp2
          go_ret2
          exact ⟨by rw [HS.out]; rfl, rfl⟩

/-- A reader at p: the bytes l are left, it has met the error er; what is left lies below B. -/
def RD (t : TypeId) (w : World) (p B : Nat) (l : List UInt8) (er : Int) : Prop :=
  ∃ (A : Option Addr) (c : Nat), w.heap[p]? = some (.cells #[.slice A l.length c, .int .i64 er] t (0, 0)) ∧ RB w B A l ∧ l.length ≤ c ∧ B ≤ p ∧ l.length ≤ 70368744177664
/-- What a call of a reader at p turns: that reader, and nothing else that was there. -/
structure Touch (p : Nat) (w w' : World) : Prop where
  os : w'.os = w.os
  tape : w'.tape = w.tape
  output : w'.output = w.output
  size : w.heap.size ≤ w'.heap.size
  block : ∀ i, i < w.heap.size → i ≠ p → w'.heap[i]? = w.heap[i]?
theorem Touch.refl (p : Nat) (w : World) : Touch p w w := ⟨rfl, rfl, rfl, Nat.le_refl _, fun _ _ _ => rfl⟩
theorem Touch.below {p : Nat} {w w' : World} (h : Touch p w w') {B : Nat} (hp : B ≤ p) (hB : B ≤ w.heap.size) : Below B w w' :=
  ⟨h.os, h.tape, h.output, h.size, fun i hi => h.block i (by omega) (by omega)⟩
theorem Touch.of_below {p : Nat} {w w' : World} (h : Below w.heap.size w w') : Touch p w w' := ⟨h.os, h.tape, h.output, h.size, fun i hi _ => h.block i hi⟩
theorem Touch.trans {p : Nat} {a b c : World} (h : Touch p a b) (k : Touch p b c) : Touch p a c :=
  ⟨k.os.trans h.os, k.tape.trans h.tape, k.output.trans h.output, Nat.le_trans h.size k.size, fun i hi hp => (k.block i (Nat.lt_of_lt_of_le hi h.size) hp).trans (h.block i hi hp)⟩
theorem Touch.setCell {p : Nat} {a b : World} (h : Touch p a b) (j : Nat) (u : Value) : Touch p a (b.setCell ⟨p, j, none⟩ u) :=
  ⟨h.os, h.tape, h.output, by simpa using h.size, fun i hi hp => (Below.heap_setCell b ⟨p, j, none⟩ u i hp).trans (h.block i hi hp)⟩
section
variable {t : TypeId} {w w' : World} {p B : Nat} {l : List UInt8} {er : Int}
theorem RD.lt (h : RD t w p B l er) : p < w.heap.size := by
  obtain ⟨A, c, hp, _⟩ := h
  exact lt_size hp
theorem RD.keep (h : RD t w p B l er) (hp : w'.heap[p]? = w.heap[p]?) (hb : ∀ b, b < B → w'.heap[b]? = w.heap[b]?) : RD t w' p B l er := by
  obtain ⟨A, c, hc, hr, h1, h2⟩ := h
  exact ⟨A, c, hp.trans hc, hr.keep hb, h1, h2⟩
theorem RD.below (h : RD t w p B l er) (hb : Below w.heap.size w w') : RD t w' p B l er := by
  have hl := h.lt
  obtain ⟨_, _, _, _, _, h2, _⟩ := id h
  exact h.keep (hb.block p hl) fun b hlt => hb.block b (by omega)
theorem RD.alloc (h : RD t w p B l er) (o : Obj) : RD t (w.alloc o) p B l er := h.below ((Below.refl _ _).alloc (Nat.le_refl _) o)
theorem RD.drew (h : RD t w p B l er) : RD t w.drew p B l er := h.below (Below.refl _ _).drew
/-- Another reader's call turns nothing of this one. -/
theorem RD.other (h : RD t w p B l er) {q : Nat} (ht : Touch q w w') (hne : p ≠ q) (hq : B ≤ q) : RD t w' p B l er := by
  have hl := h.lt
  obtain ⟨_, _, _, _, _, h2, _⟩ := id h
  exact h.keep (ht.block p hl hne) fun b hlt => ht.block b (by omega) (by omega)
end
/-- A new reader of l. -/
def NewRD (w : World) (l : List UInt8) (e : Ending) (w' : World) : Prop :=
  ∃ p B, e = .returned (.pointer (some ⟨p, 0, none⟩)) ∧ w.heap.size ≤ p ∧ RD 59 w' p B l 0 ∧ w.heap.size ≤ B ∧ Below w.heap.size w w'
set_option maxRecDepth 100000 in
theorem new_any (B : Nat) (A : Option Addr) (c : Nat) (l : List UInt8) (w : World) (h : RB w B A l) (hB : B ≤ w.heap.size) (hl : l.length ≤ 70368744177664) :
    Calls Try.prog 26 #[.slice A l.length c] w (NewRD w l) := by
  go_enter Try.func26, Try.ntmps26
  go_wp2_with fail
  refine (clone_any B A c l _ h hB hl).mono ?_
  rintro e w1 ⟨A1, c1, L1, rfl, hL1, hc1, hr1, _, hb1⟩
  have hs1 := hb1.size
  go_wp2
  go_ret
  exact ⟨w1.heap.size, w1.heap.size, rfl, hs1, by rw [← hL1.out] at hl ⊢; exact ⟨A1, c1, heap_alloc_new w1 _, hr1.alloc (Nat.le_refl _) _, hc1, Nat.le_refl _, hl⟩, hs1, hb1.alloc hs1 _⟩
set_option maxRecDepth 100000 in
theorem err_any (p B : Nat) (l : List UInt8) (er : Int) (w : World) (h : RD 59 w p B l er) :
    Calls Try.prog 29 #[.pointer (some ⟨p, 0, none⟩)] w fun e w' => e = .returned (.int .i64 er) ∧ w = w' := by
  obtain ⟨A, c, hp, _⟩ := h
  have h1 : w.cell? ⟨p, 1, none⟩ = some (.int .i64 er) := by simp [World.cell?, hp]
  clear hp
  go_enter Try.func29, Try.ntmps29
  go_wp2
  go_ret
  exact ⟨rfl, rfl⟩
theorem err_nil (w : World) : Calls Try.prog 29 #[.pointer none] w fun e w' => e = .returned (.int .i64 1) ∧ w = w' := by
  go_enter Try.func29, Try.ntmps29
  go_wp2
  go_ret
  exact ⟨rfl, rfl⟩
set_option maxRecDepth 100000 in
theorem left_any (p B : Nat) (l : List UInt8) (er : Int) (w : World) (h : RD 59 w p B l er) :
    Calls Try.prog 30 #[.pointer (some ⟨p, 0, none⟩)] w fun e w' => e = .returned (.int .i64 l.length) ∧ w = w' := by
  obtain ⟨A, c, hp, _⟩ := h
  have h1 : w.cell? ⟨p, 0, none⟩ = some (.slice A l.length c) := by simp [World.cell?, hp]
  clear hp
  go_enter Try.func30, Try.ntmps30
  go_wp2
  go_ret
  exact ⟨rfl, rfl⟩
theorem left_nil (w : World) : Calls Try.prog 30 #[.pointer none] w fun e w' => e = .returned (.int .i64 0) ∧ w = w' := by
  go_enter Try.func30, Try.ntmps30
  go_wp2
  go_ret
  exact ⟨rfl, rfl⟩
theorem number_nil (most : Int) (w : World) : Calls Try.prog 27 #[.pointer none, .int .i64 most] w fun e w' => e = .returned (.int .i64 0) ∧ w = w' := by
  go_enter Try.func27, Try.ntmps27
  go_wp2_with (go_at_call 29; refine (err_nil _).mono ?_; rintro e w' ⟨rfl, rfl⟩)
  go_ret
  exact ⟨rfl, rfl⟩
theorem text_nil (most : Int) (w : World) : Calls Try.prog 28 #[.pointer none, .int .i64 most] w fun e w' => e = .returned (.slice none 0 0) ∧ w = w' := by
  go_enter Try.func28, Try.ntmps28
  go_wp2_with (go_at_call 29; refine (err_nil _).mono ?_; rintro e w' ⟨rfl, rfl⟩)
  go_ret
  exact ⟨rfl, rfl⟩
end Go.Proofs.Ytfjijpejoocngaa
