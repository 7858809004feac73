/- BytesReads: any bytes, any calls: each answer, what is left, the error, as the reference's. -/
import Derived.Test.YtmnaboeffdhhjaaRefStep
import Derived.Test.YtmnaboeffdhhjaaOpen
import Derived.Deep.RegionHeld3
import Derived.Deep.CutBlock
import Derived.Deep.DeepCutAuto
namespace Go.Proofs.Ytmnaboeffdhhjaa
open Go.RowKit

/-- Two readers side by side, the program's at p, the reference's at q: what is left, and the error. -/
structure Both (W : World) (p q B : Nat) (s : RS) (wr : World) : Prop where
  r1 : RD 52 wr p B s.1 s.2
  r2 : RD 33 wr q W.heap.size s.1 s.2
  hp : W.heap.size ≤ p
  hB : W.heap.size ≤ B
  hq : p < q
  hBq : B ≤ q
  below : Below W.heap.size W wr
  siz : W.heap.size ≤ wr.heap.size
theorem Both.alloc {W wr : World} {p q B : Nat} {s : RS} (h : Both W p q B s wr) (o : Obj) : Both W p q B s (wr.alloc o) :=
  { h with r1 := h.r1.alloc o, r2 := h.r2.alloc o, below := h.below.alloc h.siz o, siz := by have := h.siz; simp; omega }
theorem Both.drew {W wr : World} {p q B : Nat} {s : RS} (h : Both W p q B s wr) : Both W p q B s wr.drew :=
  { h with r1 := h.r1.drew, r2 := h.r2.drew, below := h.below.drew, siz := h.siz }
/-- One step of both. -/
theorem Both.step {W w1 w2 w3 : World} {p q B : Nat} {s s' : RS} (h : Both W p q B s w1) (h1 : Stepped 52 p B s' w1 w2) (h2 : Stepped 33 q W.heap.size s' w2 w3) : Both W p q B s' w3 :=
  { h with
    r1 := h1.1.other h2.2 (by have := h.hq; omega) h.hBq
    r2 := h2.1
    below := (h.below.trans (h1.2.below h.hp h.siz)).trans (h2.2.below (by have := h.hp; have := h.hq; omega) (Nat.le_trans h.siz h1.2.size))
    siz := Nat.le_trans h.siz (Nat.le_trans h1.2.size h2.2.size) }
theorem Both.half {W w1 w2 : World} {p q B : Nat} {s s' : RS} (h : Both W p q B s w1) (h1 : Stepped 52 p B s' w1 w2) : RD 33 w2 q W.heap.size s.1 s.2 :=
  h.r2.other h1.2 (by have := h.hq; omega) h.hp

theorem RB.touch {w w' : World} {B q : Nat} {A : Option Addr} {l : List UInt8} (h : RB w B A l) (ht : Touch q w w') (hB : B ≤ w.heap.size) (hne : ∀ ad, A = some ad → ad.block ≠ q) : RB w' B A l := fun hn => by
  obtain ⟨ad, e, hb, hc⟩ := h hn
  exact ⟨ad, e, hb, fun j hj => (World.cell?_of_block (ht.block _ (by rw [block_add]; omega) (by rw [block_add]; exact hne ad e))).trans (hc j hj)⟩
theorem RD.drewN {t : TypeId} {w : World} {p B : Nat} {l : List UInt8} {er : Int} (h : RD t w p B l er) (n : Nat) : RD t (w.drewN n) p B l er := h.keep (by simp) fun b _ => by simp
theorem left_q (p B : Nat) (l : List UInt8) (er : Int) (w : World) (h : RD 52 w p B l er) (n : Nat) : Calls Try.prog 19 #[.pointer (some ⟨p, 0, none⟩)] (w.drewN n) fun e w' => e = .returned (.int .i64 l.length) ∧ w' = w.drewN n :=
  (left_any p B l er _ (h.drewN n)).mono fun _ _ ⟨he, hw⟩ => ⟨he, hw.symm⟩
theorem err_q (p B : Nat) (l : List UInt8) (er : Int) (w : World) (h : RD 52 w p B l er) (n : Nat) : Calls Try.prog 20 #[.pointer (some ⟨p, 0, none⟩)] (w.drewN n) fun e w' => e = .returned (.int .i64 er) ∧ w' = w.drewN n :=
  (err_any p B l er _ (h.drewN n)).mono fun _ _ ⟨he, hw⟩ => ⟨he, hw.symm⟩
theorem Both.drewN {W wr : World} {p q B : Nat} {s : RS} (h : Both W p q B s wr) (n : Nat) : Both W p q B s (wr.drewN n) :=
  { h with r1 := h.r1.drewN n, r2 := h.r2.drewN n, below := ⟨h.below.os, h.below.tape, h.below.output, h.below.size, h.below.block⟩, siz := h.siz }

set_option maxRecDepth 100000 in
set_option maxHeartbeats 4000000 in
theorem reads_any (A : Option Addr) (c : Nat) (b : List UInt8) (sv : Value) (l : List (Int × Int)) (w : World) (h : RB w w.heap.size A b) (hc : b.length ≤ c) (hl : b.length ≤ maxLen) (hr : PRow w sv l) (hll : l.length ≤ maxLen) :
    Calls Try.prog 4 #[.slice A b.length c, sv] w (Holds w) := by
  obtain ⟨A', c', rfl, hcells⟩ := prow_form hr
  clear hr
  unfold maxLen at hl hll
  by_cases hlong : 500 < b.length
  · go_enter Try.func4, Try.ntmps4
    go_wp2_with (go_at_call 9; refine (awake_any _).mono ?_; rintro e w1 ⟨rfl, hb⟩)
    go_ret
    exact ⟨rfl, hb⟩
  by_cases hlong' : 100 < l.length
  · go_enter Try.func4, Try.ntmps4
    go_wp2_with (go_at_call 9; refine (awake_any _).mono ?_; rintro e w1 ⟨rfl, hb⟩)
    go_ret
    exact ⟨rfl, hb⟩
  go_enter Try.func4, Try.ntmps4
  go_wp2_with fail
  refine (new_any w.heap.size A c b _ h (Nat.le_refl _) (by omega)).mono ?_
  rintro e w1 ⟨p, B, rfl, hp, hrd, hB, hb⟩
  have hs := hb.size
  have hpl := hrd.lt
  have h0 : Both w p w1.heap.size B (b, 0) (w1.alloc (.cells #[.slice A b.length c, .int .i64 0] 33)) :=
    { r1 := hrd.alloc _
      r2 := ⟨A, c, heap_alloc_new w1 _, (h.below hb (Nat.le_refl _)).alloc hs _, hc, hs, (by show b.length ≤ _; omega)⟩
      hp := hp
      hB := hB
      hq := hpl
      hBq := by obtain ⟨_, _, _, _, _, h2, _⟩ := hrd; omega
      below := hb.alloc hs _
      siz := by simp; omega }
  have hql : w1.heap.size < (w1.alloc (.cells #[.slice A b.length c, .int .i64 0] 33)).heap.size := by simp
  clear hrd hb
  go_wp2_with fail
  generalize (w1.alloc (.cells #[.slice A b.length c, .int .i64 0] 33)) = w2 at h0 hql ⊢
  generalize w1.heap.size = q at h0 hql ⊢
  clear hs hpl
  go_loopw [26] (fun i wr => ∃ (k : Nat) (s : RS), k ≤ l.length ∧ i = .int .i64 k ∧ Both w p q B s wr) (fun i _ => l.length - (intOf i).toNat)
  case atStart => exact ⟨0, _, Nat.zero_le _, rfl, h0⟩
  case round =>
    obtain ⟨k, s, hk, rfl, hbo⟩ := hrel
    clear h0 hql
    by_cases hlt : k < l.length
    · obtain ⟨bb, off, rfl, hbb, hx0, hx1⟩ := hcells k hlt
      have hc0 : wr.cell? ⟨bb, off + k * 2, none⟩ = some (.int .i64 l[k].1) := (hbo.below.cell (p := ⟨bb, off + k * 2, none⟩) hbb).trans hx0
      have hc1 : wr.cell? ⟨bb, off + k * 2 + 1, none⟩ = some (.int .i64 l[k].2) := (hbo.below.cell (p := ⟨bb, off + k * 2 + 1, none⟩) hbb).trans hx1
      generalize l[k].1 = d at hc0 hx0
      generalize l[k].2 = m at hc1 hx1
      clear hx0 hx1
      have Hbo := Lib.hid hbo
      have hsz := hbo.siz
      clear hbo
      by_cases hd : d = 0
      · subst hd
        go_wp2
        have Hba := Lib.hid (Hbo.out.alloc (.cells #[.int .i64 0, .int .i64 m] 35))
        have hca := World.cell?_alloc_mark wr #[.int .i64 0, .int .i64 m] 35 (0, 0) 1
        have hca' : (wr.alloc (.cells #[.int .i64 0, .int .i64 m] 35)).cell? ⟨wr.heap.size, 1, none⟩ = some (.int .i64 m) := hca
        have hqa : wr.heap.size < (wr.alloc (.cells #[.int .i64 0, .int .i64 m] 35)).heap.size := by simp
        have hpq := Lib.hid (show wr.heap.size ≠ p ∧ wr.heap.size ≠ q from ⟨fun e => by have := Hbo.out.r1.lt; omega, fun e => by have := Hbo.out.r2.lt; omega⟩)
        clear hca
        generalize (wr.alloc (.cells #[.int .i64 0, .int .i64 m] 35)) = wa at Hba hca' hqa ⊢
        obtain ⟨sl, se⟩ := s
        have Hqa := Lib.hid hqa
        clear hqa
        go_region_held3 (fun w' => w'.cell? ⟨wr.heap.size, 1, none⟩ = some (.int .i64 m))
          (first
            | exact hca'
            | exact (World.cell?_of_block (a := ⟨wr.heap.size, 1, none⟩) (hst3.out.2.block _ Hqa.out hpq.out.1)).trans hca'
            | exact (World.cell?_of_block (a := ⟨wr.heap.size, 1, none⟩) (hst4.out.2.block _ (Nat.lt_of_lt_of_le Hqa.out hst3.out.2.size) hpq.out.2)).trans ((World.cell?_of_block (a := ⟨wr.heap.size, 1, none⟩) (hst3.out.2.block _ Hqa.out hpq.out.1)).trans hca'))
          (first
            | (go_at_call 15; refine (number_any p B sl se m _ Hba.out.drew.r1).mono ?_; rintro e w3 ⟨rfl, hst3'⟩; have hst3 := Lib.hid hst3'; clear hst3')
            | (go_at_call 16; refine (refnumber_any q w.heap.size sl se m _ (Hba.out.drew.half hst3.out)).mono ?_; rintro e w4 ⟨rfl, hst4'⟩; have hst4 := Lib.hid hst4'; clear hst4'))
        all_goals
          have hbo5 := Hba.out.drew.step hst3.out hst4.out
          have Hb5 := Lib.hid hbo5
          obtain ⟨A5, c5, hp5, _, _⟩ := hbo5.r2
          obtain ⟨hd0, hd1, _, _⟩ := cells2 hp5
          clear hbo5 hp5
          go_wp2
          go_quiet ((first
            | (go_at_call 19; exact Calls.quiet_of_same (left_q p B _ _ _ Hb5.out.r1 _))
            | (go_at_call 20; exact Calls.quiet_of_same (err_q p B _ _ _ Hb5.out.r1 _))))
          go_wp2
          go_roundw
          case rel => exact ⟨k + 1, _, by omega, by go_num, Hb5.out.drewN _⟩
          case measure => simp [intOf]; omega
      · have hd' : (d == 0) = false := by simpa using hd
        go_wp2
        have Hba := Lib.hid (Hbo.out.alloc (.cells #[.int .i64 d, .int .i64 m] 35))
        have hca := World.cell?_alloc_mark wr #[.int .i64 d, .int .i64 m] 35 (0, 0) 1
        have hca' : (wr.alloc (.cells #[.int .i64 d, .int .i64 m] 35)).cell? ⟨wr.heap.size, 1, none⟩ = some (.int .i64 m) := hca
        have hqa : wr.heap.size < (wr.alloc (.cells #[.int .i64 d, .int .i64 m] 35)).heap.size := by simp
        have hpq := Lib.hid (show wr.heap.size ≠ p ∧ wr.heap.size ≠ q from ⟨fun e => by have := Hbo.out.r1.lt; omega, fun e => by have := Hbo.out.r2.lt; omega⟩)
        clear hca
        generalize (wr.alloc (.cells #[.int .i64 d, .int .i64 m] 35)) = wa at Hba hca' hqa ⊢
        obtain ⟨sl, se⟩ := s
        have Hqa := Lib.hid hqa
        clear hqa
        have hqs := Lib.hid (show q < wa.heap.size from Hba.out.r2.lt)
        go_region_held (fun w' => w'.cell? ⟨wr.heap.size, 1, none⟩ = some (.int .i64 m))
          (first
            | exact hca'
            | exact (World.cell?_of_block (a := ⟨wr.heap.size, 1, none⟩) (hst3.out.2.block _ Hqa.out hpq.out.1)).trans hca'
            | exact (World.cell?_of_block (a := ⟨wr.heap.size, 1, none⟩) (hst4.out.2.block _ (Nat.lt_of_lt_of_le Hqa.out hst3.out.2.size) hpq.out.2)).trans ((World.cell?_of_block (a := ⟨wr.heap.size, 1, none⟩) (hst3.out.2.block _ Hqa.out hpq.out.1)).trans hca'))
          (first
            | (go_at_call 17; refine (text_any p B sl se m _ Hba.out.drew.r1).mono ?_; rintro e w3 ⟨A3, c3, L3, rfl, hL3, hr3, hn3, hst3'⟩; have hst3 := Lib.hid hst3'; have Hr3 := Lib.hid hr3; have ks3 := run_str hr3 c3; clear hst3' hr3)
            | (go_at_call 18; refine (reftext_any q w.heap.size sl se m _ (Hba.out.drew.half hst3.out)).mono ?_; rintro e w4 ⟨A4, c4, L4, rfl, hL4, hr4, _, hst4'⟩; obtain rfl : L4 = L3 := hL4.out.trans hL3.out.symm; have hst4 := Lib.hid hst4'; have ks4 := run_str hr4 c4; have ks3' := run_str (Hr3.out.touch hst4.out.2 (Nat.le_refl _) fun ad e => (by have h1 := hn3 ad e; have h2 := hqs.out; have h3 : wa.drew.heap.size = wa.heap.size := rfl; omega)) c3; clear hst4' hr4))
        all_goals
          have hbo5 := Hba.out.drew.step hst3.out hst4.out
          have Hb5 := Lib.hid hbo5
          obtain ⟨A5, c5, hp5, _, _⟩ := hbo5.r2
          obtain ⟨hd0, hd1, _, _⟩ := cells2 hp5
          clear hbo5 hp5
          go_wp2
          go_quiet ((first
            | (go_at_call 19; exact Calls.quiet_of_same (left_q p B _ _ _ Hb5.out.r1 _))
            | (go_at_call 20; exact Calls.quiet_of_same (err_q p B _ _ _ Hb5.out.r1 _))))
          go_wp2
          go_roundw
          case rel => exact ⟨k + 1, _, by omega, by go_num, Hb5.out.drewN _⟩
          case measure => simp [intOf]; omega
    · go_wp2_with (go_at_call 9; refine (awake_any _).mono ?_; rintro e w3 ⟨rfl, hb3⟩)
      go_ret
      exact ⟨rfl, hbo.below.trans (hb3.mono hbo.siz)⟩
end Go.Proofs.Ytmnaboeffdhhjaa
