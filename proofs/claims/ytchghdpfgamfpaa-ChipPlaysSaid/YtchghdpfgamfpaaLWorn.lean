/- ChipWorn: for every n the law answers true, and nothing that was there has turned. -/
import Derived.Test.YtchghdpfgamfpaaLAwake
namespace Go.Proofs.Ytchghdpfgamfpaa
open Go.RowKit

/-- A law's answer. -/
def Holds (w : World) (e : Ending) (w' : World) : Prop := e = .returned (.bool true) ∧ Below w.heap.size w w'
theorem small_of (f : Int) (d : Int) (h1 : 1 ≤ d) (h2 : d ≤ 100000) : ∃ s : Nat, (s : Int) < d ∧ wrap64 ((IntKind.u64.wrap f).tmod d) = (s : Int) := by
  have hu : 0 ≤ IntKind.u64.wrap f := by
    have : IntKind.u64.wrap f = f % (2 ^ 64 : Int) := by simp [IntKind.wrap, IntKind.bits, IntKind.signed]
    rw [this]; exact Int.emod_nonneg _ (by decide)
  rw [Int.tmod_eq_emod_of_nonneg hu]
  have e1 := Int.emod_nonneg (IntKind.u64.wrap f) (show d ≠ 0 by omega)
  have e2 := Int.emod_lt_of_pos (IntKind.u64.wrap f) (show 0 < d by omega)
  obtain ⟨s, hs⟩ := Int.eq_ofNat_of_zero_le e1
  exact ⟨s, by omega, by rw [IntWalk.wrap64_in _ ⟨by omega, by omega⟩, hs]⟩

def wp (j : Nat) : LS := match j with
  | 0 => madeS 3 2 []
  | j + 1 => (progL (wp j) (j : Int) 0 [UInt8.ofNat (j + 1)]).2
def we (n j : Nat) : LS := match j with
  | 0 => { wp 3 with w := behindS n }
  | j + 1 => (eraseL (we n j) ((j % 3 : Nat) : Int)).2
def wwant (n j : Nat) : Int := if j = n ∨ (n < j ∧ j % 3 = n % 3) then 3 else 0
theorem we_want : ∀ n : Fin 6, ∀ j : Fin 6, (eraseL (we n j) ((j.val % 3 : Nat) : Int)).1 = wwant n j := by decide +kernel
theorem we_read : ∀ n : Fin 6, (rdL (we n 6) ((n.val % 3 : Nat) : Int) 0).2.1 = 0 ∧ (rdL (we n 6) ((n.val % 3 : Nat) : Int) 0).1 = (if 3 ≤ n.val then [] else [UInt8.ofNat (n.val + 1)]) := by decide +kernel
theorem we_end : ∀ n : Fin 6, (tellB (rdL (we n 6) ((n.val % 3 : Nat) : Int) 0).2.2 ((n.val % 3 : Nat) : Int)).bad = true ∧ (tellB (rdL (we n 6) ((n.val % 3 : Nat) : Int) 0).2.2 ((n.val % 3 : Nat) : Int)).count = ((n.val / 3 + 1 : Nat) : Int) ∧
    (tellB (rdL (we n 6) ((n.val % 3 : Nat) : Int) 0).2.2 (((n.val + 1) % 3 : Nat) : Int)).bad = false ∧ (tellB (rdL (we n 6) ((n.val % 3 : Nat) : Int) 0).2.2 (((n.val + 1) % 3 : Nat) : Int)).next = 0 := by decide +kernel
theorem one_byte {w : World} {x : Nat → Prop} {k : Nat} (hk : k < 256) : CB (w.alloc (.cells #[.int .u8 (k : Int)] 5)) (fun b => x b ∨ b = w.heap.size) (some ⟨w.heap.size, 0, none⟩) [UInt8.ofNat k] := fun _ => ⟨_, rfl, .inr rfl, fun j hj => by
  obtain rfl : j = 0 := by simpa using hj
  have h := (Boxed.new w 5 (.int .u8 (k : Int))).cell
  have e : (⟨w.heap.size, 0, none⟩ : Addr).add 0 = ⟨w.heap.size, 0, none⟩ := rfl
  rw [e, h]
  simp [ub, Nat.mod_eq_of_lt hk]⟩
theorem held_prog_n {w : World} {p : Nat} {x : Nat → Prop} {S : LS} (A : Option Addr) (m c : Nat) (l : List UInt8) (b pg : Int) (hm : m = l.length) (h : Held w p x S) (hl : CB w x A l) :
    Calls Try.prog 26 #[.pointer (some ⟨p, 0, none⟩), .agg #[.int .i64 b, .int .i64 pg], .slice A m c] w fun e w' => e = .returned (.int .i64 (progL S b pg l).1) ∧ Held w' p x (progL S b pg l).2 ∧ Safe x w w' := by
  subst hm
  exact held_prog A c l b pg h hl
theorem clean_any (y : Int) (A : Option Addr) (n c : Nat) (w : World) : Calls Try.prog 35 #[.agg #[.bool false, .int .i64 0, .int .i64 y, .slice A n c]] w fun e w' => e = .returned (.bool true) ∧ Below w.heap.size w w' := by
  go_enter Try.func35, Try.ntmps35
  go_wp2
  go_ret
  exact ⟨rfl, (Below.refl _ _).alloc (Nat.le_refl _) _⟩
theorem str_new (k : Nat) (hk : k < 256) (w : World) : (convert 32 9 (.slice (some ⟨w.heap.size, 0, none⟩) 1 1)).run Try.prog (w.alloc (.cells #[.int .u8 (k : Int)] 5)) = .ok (.string (strOf [UInt8.ofNat k])) (w.alloc (.cells #[.int .u8 (k : Int)] 5)) :=
  run_str ((one_byte (w := w) (x := fun _ => False) hk).rb (B := w.heap.size + 1) (fun _ hb => Nat.lt_succ_of_le (Nat.le_of_eq (hb.resolve_left id)))) 1
set_option maxRecDepth 100000 in
set_option maxHeartbeats 8000000 in
theorem worn_law (n : Int) (w : World) : Calls Try.prog 9 #[.int .i64 n] w (Holds w) := by
  obtain ⟨s, hs1, hs⟩ := small_of n 6 (by omega) (by omega)
  have HN := Lib.hid (held_new (w := w) 3 2 none 0 [] (fun h => absurd h (by simp)) (by decide) (by decide) (by decide) (by decide) (by decide))
  go_enter Try.func9, Try.ntmps9
  go_wp2_with (go_at_call 12; refine HN.out.mono ?_; rintro e w1 ⟨p, rfl, hH, hB⟩)
  have H0 := Lib.hid (show Held w1 p (fun b => b < w.heap.size) (wp 0) from hH)
  have HB0 := Lib.hid hB
  clear hH hB HN
  go_loopw [4, 15] (fun _ i wr => ∃ j : Nat, j ≤ 3 ∧ i = .int .i64 j ∧ Held wr p (fun b => b < w.heap.size) (wp j) ∧ Below w.heap.size w wr) (fun _ i _ => 3 - (intOf i).toNat)
  case atStart => exact ⟨0, by omega, rfl, H0.out, HB0.out⟩
  case round =>
    obtain ⟨j, hj, rfl, hH, hB⟩ := hrel
    have H1 := Lib.hid hH
    have HB1 := Lib.hid hB
    clear hH hB
    by_cases hj3 : j < 3
    · have hk : IntKind.u8.wrap ((j : Int) + 1) = (j : Int) + 1 := by
        obtain rfl | rfl | rfl : j = 0 ∨ j = 1 ∨ j = 2 := by omega
        · decide
        · decide
        · decide
      have h2 := (H1.out.alloc (.cells #[.int .u8 ((j + 1 : Nat) : Int)] 5))
      have h3 := held_prog_n (some ⟨wr.heap.size, 0, none⟩) 1 1 [UInt8.ofNat (j + 1)] j 0 rfl h2 (one_byte (by omega))
      rw [show ((j + 1 : Nat) : Int) = (j : Int) + 1 by omega] at h3
      have H3 := Lib.hid h3
      clear h2 h3
      go_wp2_with (go_at_call 26; (with_reducible refine H3.out.mono ?_); rintro e w2 ⟨rfl, hH2, hs2⟩; have H2 := Lib.hid hH2; have S2 := Lib.hid hs2; clear hH2 hs2)
      go_roundw
      case rel => exact ⟨j + 1, by omega, by simp, H2.out.less (fun b hb => .inl hb), (HB1.out.alloc HB1.out.size _).trans (Safe.below S2.out (fun b hb => .inl hb) (by have := HB1.out.size; simp; omega))⟩
      case measure => simp [intOf]; omega
    · obtain rfl : j = 3 := by omega
      have hn9 : (s : Int) ≤ 9223372036854775807 := by omega
      go_wp2_with (go_at_call 20; (with_reducible refine (held_worn s hn9 H1.out).mono ?_); rintro e w2 ⟨rfl, hH2, hs2⟩)
      have H2 := Lib.hid (show Held w2 p (fun b => b < w.heap.size) (we s 0) from hH2)
      have HB2 := Lib.hid (HB1.out.trans (Safe.below hs2 (fun b hb => hb) HB1.out.size))
      clear hH2 hs2 H1 HB1 H0 HB0
      go_loopw [5, 6, 7, 30] (fun _ _ _ i wr => ∃ j : Nat, j ≤ 6 ∧ i = .int .i64 j ∧ Held wr p (fun b => b < w.heap.size) (we s j) ∧ Below w.heap.size w wr) (fun _ _ _ i _ => 6 - (intOf i).toNat)
      case atStart => exact ⟨0, by omega, rfl, H2.out, HB2.out⟩
      case round =>
        obtain ⟨j, hj, rfl, hH, hB⟩ := hrel
        have H3 := Lib.hid hH
        have HB3 := Lib.hid hB
        clear hH hB
        by_cases hj6 : j < 6
        · have hw := we_want ⟨s, by omega⟩ ⟨j, hj6⟩
          have h3 : (j : Int).tmod 3 = ((j % 3 : Nat) : Int) := by rw [Int.tmod_eq_emod_of_nonneg (by omega)]; omega
          have e3 : ((j % 3 : Nat) : Int) = (j : Int) % 3 := by omega
          have he := held_erase ((j % 3 : Nat) : Int) H3.out
          rw [e3] at he h3
          have HE := Lib.hid he
          clear he
          have HW := Lib.hid hw
          clear hw
          by_cases c1 : j = s
          · obtain rfl := c1
            go_wp2_with (go_at_call 16; (with_reducible refine HE.out.mono ?_); rintro e w3 ⟨rfl, hH4, hs4⟩; rw [show (eraseL (we j j) ((j : Int) % 3)).1 = 3 from by rw [← e3, HW.out]; exact if_pos (.inl rfl)]; have H4 := Lib.hid (show Held w3 p (fun b => b < w.heap.size) (we j (j + 1)) by rw [← e3] at hH4; exact hH4); have S4 := Lib.hid hs4; clear hH4 hs4)
            go_roundw
            case rel => exact ⟨j + 1, by omega, by simp, H4.out, HB3.out.trans (Safe.below S4.out (fun b hb => hb) HB3.out.size)⟩
            case measure => simp [intOf]; omega
          · have b1 : ((j : Int) == (s : Int)) = false := by simp; omega
            by_cases c2 : s < j
            · by_cases c3 : j % 3 = s % 3
              · have b3 : ((j : Int) % 3 == (s : Int) % 3) = true := by simp; omega
                go_wp2_with (go_at_call 16; (with_reducible refine HE.out.mono ?_); rintro e w3 ⟨rfl, hH4, hs4⟩; rw [show (eraseL (we s j) ((j : Int) % 3)).1 = 3 from by rw [← e3, HW.out]; exact if_pos (.inr ⟨c2, c3⟩)]; have H4 := Lib.hid (show Held w3 p (fun b => b < w.heap.size) (we s (j + 1)) by rw [← e3] at hH4; exact hH4); have S4 := Lib.hid hs4; clear hH4 hs4)
                go_roundw
                case rel => exact ⟨j + 1, by omega, by simp, H4.out, HB3.out.trans (Safe.below S4.out (fun b hb => hb) HB3.out.size)⟩
                case measure => simp [intOf]; omega
              · have b3 : ((j : Int) % 3 == (s : Int) % 3) = false := by simp; omega
                go_wp2_with (go_at_call 16; (with_reducible refine HE.out.mono ?_); rintro e w3 ⟨rfl, hH4, hs4⟩; rw [show (eraseL (we s j) ((j : Int) % 3)).1 = 0 from by rw [← e3, HW.out]; exact if_neg (by omega)]; have H4 := Lib.hid (show Held w3 p (fun b => b < w.heap.size) (we s (j + 1)) by rw [← e3] at hH4; exact hH4); have S4 := Lib.hid hs4; clear hH4 hs4)
                go_roundw
                case rel => exact ⟨j + 1, by omega, by simp, H4.out, HB3.out.trans (Safe.below S4.out (fun b hb => hb) HB3.out.size)⟩
                case measure => simp [intOf]; omega
            · go_wp2_with (go_at_call 16; (with_reducible refine HE.out.mono ?_); rintro e w3 ⟨rfl, hH4, hs4⟩; rw [show (eraseL (we s j) ((j : Int) % 3)).1 = 0 from by rw [← e3, HW.out]; exact if_neg (by omega)]; have H4 := Lib.hid (show Held w3 p (fun b => b < w.heap.size) (we s (j + 1)) by rw [← e3] at hH4; exact hH4); have S4 := Lib.hid hs4; clear hH4 hs4)
              go_roundw
              case rel => exact ⟨j + 1, by omega, by simp, H4.out, HB3.out.trans (Safe.below S4.out (fun b hb => hb) HB3.out.size)⟩
              case measure => simp [intOf]; omega
        · obtain rfl : j = 6 := by omega
          obtain ⟨hr1, hr2⟩ := we_read ⟨s, by omega⟩
          obtain ⟨hq1, hq2, hq3, hq4⟩ := we_end ⟨s, by omega⟩
          obtain ⟨S6, hS6⟩ : ∃ S6, S6 = we s 6 := ⟨_, rfl⟩
          have H6 := Lib.hid (show Held wr p (fun b => b < w.heap.size) S6 by rw [hS6]; exact H3.out)
          dsimp only at hr1 hr2 hq1 hq2 hq3 hq4
          rw [← hS6] at hr1 hr2 hq1 hq2 hq3 hq4
          have e3 : (s : Int).tmod 3 = ((s % 3 : Nat) : Int) := by rw [Int.tmod_eq_emod_of_nonneg (by omega)]; omega
          clear H3 H2 HB2 hS6
          have : s = 0 ∨ s = 1 ∨ s = 2 ∨ s = 3 ∨ s = 4 ∨ s = 5 := by omega
          rcases this with rfl | rfl | rfl | rfl | rfl | rfl
          · have hr1' : (rdL S6 0 0).2.1 = 0 := hr1
            have hr2' : (rdL S6 0 0).1 = [UInt8.ofNat 1] := hr2
            obtain ⟨S7, hS7⟩ : ∃ S7, (rdL S6 0 0).2.2 = S7 := ⟨_, rfl⟩
            have hq1' : (tellB S7 0).bad = true := by rw [← hS7]; exact hq1
            have hq2' : (tellB S7 0).count = 1 := by rw [← hS7]; exact hq2
            have hq3' : (tellB S7 1).bad = false := by rw [← hS7]; exact hq3
            have hq4' : (tellB S7 1).next = 0 := by rw [← hS7]; exact hq4
            have R1 := Lib.hid hr1'
            have R2 := Lib.hid hr2'
            have R3 := Lib.hid hS7
            have Q1 := Lib.hid hq1'
            have Q2 := Lib.hid hq2'
            have Q3 := Lib.hid hq3'
            have Q4 := Lib.hid hq4'
            clear hr1 hr2 hq1 hq2 hq3 hq4 hr1' hr2' hS7 hq1' hq2' hq3' hq4'
            have hst2 : ∀ w0 : World, (convert 32 9 (.slice (some ⟨w0.heap.size, 0, none⟩) 1 1)).run Try.prog (w0.alloc (.cells #[.int .u8 1] 5)) = .ok (.string { data := #[1] }) (w0.alloc (.cells #[.int .u8 1] 5)) := fun w0 => str_new 1 (by decide) w0
            go_wp2_with (first
              | (go_at_call 14; (with_reducible refine (held_read 0 0 H6.out).mono ?_); rintro e w4 ⟨A, L, rfl, hL, hc, hH7, hs7⟩; rw [R1.out]; rw [R3.out] at hH7; have hstr := run_str (hc.rb (B := w4.heap.size) (fun b hb => hb.2)) L.length; rw [show strOf L = { data := #[1] } from by rw [hL.out, R2.out]; rfl] at hstr; have H7 := Lib.hid hH7; have S7' := Lib.hid hs7; clear hL hc hH7 hs7)
              | (go_at_call 31; (with_reducible refine (held_block 0 (H7.out.alloc (.cells #[.int .u8 1] 5))).mono ?_); rintro e w5 ⟨v, rfl, ⟨A5, c5, rfl, hv5⟩, hb5⟩; rw [Q1.out]; have fl5 := field_bad true (tellB S7 0).next (tellB S7 0).count A5 (tellB S7 0).pages.length c5; have HB5 := Lib.hid hb5; clear hb5 hv5)
              | (go_at_call 31; (with_reducible refine (held_block 0 ((H7.out.alloc (.cells #[.int .u8 1] 5)).below HB5.out)).mono ?_); rintro e w6 ⟨v, rfl, ⟨A6, c6, rfl, hv6⟩, hb6⟩; rw [Q2.out]; have fl6 := field_count (tellB S7 0).bad (tellB S7 0).next 1 A6 (tellB S7 0).pages.length c6; have HB6 := Lib.hid hb6; clear hb6 hv6)
              | (go_at_call 31; (with_reducible refine (held_block 1 (((H7.out.alloc (.cells #[.int .u8 1] 5)).below HB5.out).below HB6.out)).mono ?_); rintro e w7 ⟨v, rfl, ⟨A7, c7, rfl, hv7⟩, hb7⟩; rw [Q3.out, Q4.out]; have HB7 := Lib.hid hb7; clear hb7 hv7)
              | (go_at_call 35; (with_reducible refine (clean_any _ _ _ _ _).mono ?_); rintro e w8 ⟨rfl, hb8⟩; have HB8 := Lib.hid hb8; clear hb8)
              | (go_at_call 11; (with_reducible refine (awake_any _).mono ?_); rintro e w9 ⟨rfl, hb9⟩))
            go_ret
            refine ⟨rfl, ?_⟩
            have z1 := HB3.out.size
            have z2 := S7'.out.size
            have z5 := HB5.out.size
            have z6 := HB6.out.size
            have z7 := HB7.out.size
            have z8 := HB8.out.size
            have b4 : Below w.heap.size w w4 := HB3.out.trans (Safe.below S7'.out (fun b hb => hb) z1)
            have b9 := (HB5.out.trans (HB6.out.mono z5)).trans ((HB7.out.trans ((HB8.out.trans (hb9.mono z8)).mono z7)).mono (Nat.le_trans z5 z6))
            exact (b4.alloc b4.size _).trans (b9.mono (by have := b4.size; simp; omega))
          · have hr1' : (rdL S6 1 0).2.1 = 0 := hr1
            have hr2' : (rdL S6 1 0).1 = [UInt8.ofNat 2] := hr2
            obtain ⟨S7, hS7⟩ : ∃ S7, (rdL S6 1 0).2.2 = S7 := ⟨_, rfl⟩
            have hq1' : (tellB S7 1).bad = true := by rw [← hS7]; exact hq1
            have hq2' : (tellB S7 1).count = 1 := by rw [← hS7]; exact hq2
            have hq3' : (tellB S7 2).bad = false := by rw [← hS7]; exact hq3
            have hq4' : (tellB S7 2).next = 0 := by rw [← hS7]; exact hq4
            have R1 := Lib.hid hr1'
            have R2 := Lib.hid hr2'
            have R3 := Lib.hid hS7
            have Q1 := Lib.hid hq1'
            have Q2 := Lib.hid hq2'
            have Q3 := Lib.hid hq3'
            have Q4 := Lib.hid hq4'
            clear hr1 hr2 hq1 hq2 hq3 hq4 hr1' hr2' hS7 hq1' hq2' hq3' hq4'
            have hst2 : ∀ w0 : World, (convert 32 9 (.slice (some ⟨w0.heap.size, 0, none⟩) 1 1)).run Try.prog (w0.alloc (.cells #[.int .u8 2] 5)) = .ok (.string { data := #[2] }) (w0.alloc (.cells #[.int .u8 2] 5)) := fun w0 => str_new 2 (by decide) w0
            go_wp2_with (first
              | (go_at_call 14; (with_reducible refine (held_read 1 0 H6.out).mono ?_); rintro e w4 ⟨A, L, rfl, hL, hc, hH7, hs7⟩; rw [R1.out]; rw [R3.out] at hH7; have hstr := run_str (hc.rb (B := w4.heap.size) (fun b hb => hb.2)) L.length; rw [show strOf L = { data := #[2] } from by rw [hL.out, R2.out]; rfl] at hstr; have H7 := Lib.hid hH7; have S7' := Lib.hid hs7; clear hL hc hH7 hs7)
              | (go_at_call 31; (with_reducible refine (held_block 1 (H7.out.alloc (.cells #[.int .u8 2] 5))).mono ?_); rintro e w5 ⟨v, rfl, ⟨A5, c5, rfl, hv5⟩, hb5⟩; rw [Q1.out]; have fl5 := field_bad true (tellB S7 1).next (tellB S7 1).count A5 (tellB S7 1).pages.length c5; have HB5 := Lib.hid hb5; clear hb5 hv5)
              | (go_at_call 31; (with_reducible refine (held_block 1 ((H7.out.alloc (.cells #[.int .u8 2] 5)).below HB5.out)).mono ?_); rintro e w6 ⟨v, rfl, ⟨A6, c6, rfl, hv6⟩, hb6⟩; rw [Q2.out]; have fl6 := field_count (tellB S7 1).bad (tellB S7 1).next 1 A6 (tellB S7 1).pages.length c6; have HB6 := Lib.hid hb6; clear hb6 hv6)
              | (go_at_call 31; (with_reducible refine (held_block 2 (((H7.out.alloc (.cells #[.int .u8 2] 5)).below HB5.out).below HB6.out)).mono ?_); rintro e w7 ⟨v, rfl, ⟨A7, c7, rfl, hv7⟩, hb7⟩; rw [Q3.out, Q4.out]; have HB7 := Lib.hid hb7; clear hb7 hv7)
              | (go_at_call 35; (with_reducible refine (clean_any _ _ _ _ _).mono ?_); rintro e w8 ⟨rfl, hb8⟩; have HB8 := Lib.hid hb8; clear hb8)
              | (go_at_call 11; (with_reducible refine (awake_any _).mono ?_); rintro e w9 ⟨rfl, hb9⟩))
            go_ret
            refine ⟨rfl, ?_⟩
            have z1 := HB3.out.size
            have z2 := S7'.out.size
            have z5 := HB5.out.size
            have z6 := HB6.out.size
            have z7 := HB7.out.size
            have z8 := HB8.out.size
            have b4 : Below w.heap.size w w4 := HB3.out.trans (Safe.below S7'.out (fun b hb => hb) z1)
            have b9 := (HB5.out.trans (HB6.out.mono z5)).trans ((HB7.out.trans ((HB8.out.trans (hb9.mono z8)).mono z7)).mono (Nat.le_trans z5 z6))
            exact (b4.alloc b4.size _).trans (b9.mono (by have := b4.size; simp; omega))
          · have hr1' : (rdL S6 2 0).2.1 = 0 := hr1
            have hr2' : (rdL S6 2 0).1 = [UInt8.ofNat 3] := hr2
            obtain ⟨S7, hS7⟩ : ∃ S7, (rdL S6 2 0).2.2 = S7 := ⟨_, rfl⟩
            have hq1' : (tellB S7 2).bad = true := by rw [← hS7]; exact hq1
            have hq2' : (tellB S7 2).count = 1 := by rw [← hS7]; exact hq2
            have hq3' : (tellB S7 0).bad = false := by rw [← hS7]; exact hq3
            have hq4' : (tellB S7 0).next = 0 := by rw [← hS7]; exact hq4
            have R1 := Lib.hid hr1'
            have R2 := Lib.hid hr2'
            have R3 := Lib.hid hS7
            have Q1 := Lib.hid hq1'
            have Q2 := Lib.hid hq2'
            have Q3 := Lib.hid hq3'
            have Q4 := Lib.hid hq4'
            clear hr1 hr2 hq1 hq2 hq3 hq4 hr1' hr2' hS7 hq1' hq2' hq3' hq4'
            have hst2 : ∀ w0 : World, (convert 32 9 (.slice (some ⟨w0.heap.size, 0, none⟩) 1 1)).run Try.prog (w0.alloc (.cells #[.int .u8 3] 5)) = .ok (.string { data := #[3] }) (w0.alloc (.cells #[.int .u8 3] 5)) := fun w0 => str_new 3 (by decide) w0
            go_wp2_with (first
              | (go_at_call 14; (with_reducible refine (held_read 2 0 H6.out).mono ?_); rintro e w4 ⟨A, L, rfl, hL, hc, hH7, hs7⟩; rw [R1.out]; rw [R3.out] at hH7; have hstr := run_str (hc.rb (B := w4.heap.size) (fun b hb => hb.2)) L.length; rw [show strOf L = { data := #[3] } from by rw [hL.out, R2.out]; rfl] at hstr; have H7 := Lib.hid hH7; have S7' := Lib.hid hs7; clear hL hc hH7 hs7)
              | (go_at_call 31; (with_reducible refine (held_block 2 (H7.out.alloc (.cells #[.int .u8 3] 5))).mono ?_); rintro e w5 ⟨v, rfl, ⟨A5, c5, rfl, hv5⟩, hb5⟩; rw [Q1.out]; have fl5 := field_bad true (tellB S7 2).next (tellB S7 2).count A5 (tellB S7 2).pages.length c5; have HB5 := Lib.hid hb5; clear hb5 hv5)
              | (go_at_call 31; (with_reducible refine (held_block 2 ((H7.out.alloc (.cells #[.int .u8 3] 5)).below HB5.out)).mono ?_); rintro e w6 ⟨v, rfl, ⟨A6, c6, rfl, hv6⟩, hb6⟩; rw [Q2.out]; have fl6 := field_count (tellB S7 2).bad (tellB S7 2).next 1 A6 (tellB S7 2).pages.length c6; have HB6 := Lib.hid hb6; clear hb6 hv6)
              | (go_at_call 31; (with_reducible refine (held_block 0 (((H7.out.alloc (.cells #[.int .u8 3] 5)).below HB5.out).below HB6.out)).mono ?_); rintro e w7 ⟨v, rfl, ⟨A7, c7, rfl, hv7⟩, hb7⟩; rw [Q3.out, Q4.out]; have HB7 := Lib.hid hb7; clear hb7 hv7)
              | (go_at_call 35; (with_reducible refine (clean_any _ _ _ _ _).mono ?_); rintro e w8 ⟨rfl, hb8⟩; have HB8 := Lib.hid hb8; clear hb8)
              | (go_at_call 11; (with_reducible refine (awake_any _).mono ?_); rintro e w9 ⟨rfl, hb9⟩))
            go_ret
            refine ⟨rfl, ?_⟩
            have z1 := HB3.out.size
            have z2 := S7'.out.size
            have z5 := HB5.out.size
            have z6 := HB6.out.size
            have z7 := HB7.out.size
            have z8 := HB8.out.size
            have b4 : Below w.heap.size w w4 := HB3.out.trans (Safe.below S7'.out (fun b hb => hb) z1)
            have b9 := (HB5.out.trans (HB6.out.mono z5)).trans ((HB7.out.trans ((HB8.out.trans (hb9.mono z8)).mono z7)).mono (Nat.le_trans z5 z6))
            exact (b4.alloc b4.size _).trans (b9.mono (by have := b4.size; simp; omega))
          · have hr1' : (rdL S6 0 0).2.1 = 0 := hr1
            have hr2' : (rdL S6 0 0).1 = [] := hr2
            obtain ⟨S7, hS7⟩ : ∃ S7, (rdL S6 0 0).2.2 = S7 := ⟨_, rfl⟩
            have hq1' : (tellB S7 0).bad = true := by rw [← hS7]; exact hq1
            have hq2' : (tellB S7 0).count = 2 := by rw [← hS7]; exact hq2
            have hq3' : (tellB S7 1).bad = false := by rw [← hS7]; exact hq3
            have hq4' : (tellB S7 1).next = 0 := by rw [← hS7]; exact hq4
            have R1 := Lib.hid hr1'
            have R2 := Lib.hid hr2'
            have R3 := Lib.hid hS7
            have Q1 := Lib.hid hq1'
            have Q2 := Lib.hid hq2'
            have Q3 := Lib.hid hq3'
            have Q4 := Lib.hid hq4'
            clear hr1 hr2 hq1 hq2 hq3 hq4 hr1' hr2' hS7 hq1' hq2' hq3' hq4'
            go_wp2_with (first
              | (go_at_call 14; (with_reducible refine (held_read 0 0 H6.out).mono ?_); rintro e w4 ⟨A, L, rfl, hL, hc, hH7, hs7⟩; rw [R1.out]; rw [R3.out] at hH7; have hl0 : L.length = 0 := congrArg List.length (hL.out.trans R2.out); have H7 := Lib.hid hH7; have S7' := Lib.hid hs7; clear hL hc hH7 hs7)
              | (go_at_call 31; (with_reducible refine (held_block 0 H7.out).mono ?_); rintro e w5 ⟨v, rfl, ⟨A5, c5, rfl, hv5⟩, hb5⟩; rw [Q1.out]; have fl5 := field_bad true (tellB S7 0).next (tellB S7 0).count A5 (tellB S7 0).pages.length c5; have HB5 := Lib.hid hb5; clear hb5 hv5)
              | (go_at_call 31; (with_reducible refine (held_block 0 (H7.out.below HB5.out)).mono ?_); rintro e w6 ⟨v, rfl, ⟨A6, c6, rfl, hv6⟩, hb6⟩; rw [Q2.out]; have fl6 := field_count (tellB S7 0).bad (tellB S7 0).next 2 A6 (tellB S7 0).pages.length c6; have HB6 := Lib.hid hb6; clear hb6 hv6)
              | (go_at_call 31; (with_reducible refine (held_block 1 ((H7.out.below HB5.out).below HB6.out)).mono ?_); rintro e w7 ⟨v, rfl, ⟨A7, c7, rfl, hv7⟩, hb7⟩; rw [Q3.out, Q4.out]; have HB7 := Lib.hid hb7; clear hb7 hv7)
              | (go_at_call 35; (with_reducible refine (clean_any _ _ _ _ _).mono ?_); rintro e w8 ⟨rfl, hb8⟩; have HB8 := Lib.hid hb8; clear hb8)
              | (go_at_call 11; (with_reducible refine (awake_any _).mono ?_); rintro e w9 ⟨rfl, hb9⟩))
            go_ret
            refine ⟨rfl, ?_⟩
            have z1 := HB3.out.size
            have z2 := S7'.out.size
            have z5 := HB5.out.size
            have z6 := HB6.out.size
            have z7 := HB7.out.size
            have z8 := HB8.out.size
            have b4 : Below w.heap.size w w4 := HB3.out.trans (Safe.below S7'.out (fun b hb => hb) z1)
            have b9 := (HB5.out.trans (HB6.out.mono z5)).trans ((HB7.out.trans ((HB8.out.trans (hb9.mono z8)).mono z7)).mono (Nat.le_trans z5 z6))
            exact b4.trans (b9.mono b4.size)
          · have hr1' : (rdL S6 1 0).2.1 = 0 := hr1
            have hr2' : (rdL S6 1 0).1 = [] := hr2
            obtain ⟨S7, hS7⟩ : ∃ S7, (rdL S6 1 0).2.2 = S7 := ⟨_, rfl⟩
            have hq1' : (tellB S7 1).bad = true := by rw [← hS7]; exact hq1
            have hq2' : (tellB S7 1).count = 2 := by rw [← hS7]; exact hq2
            have hq3' : (tellB S7 2).bad = false := by rw [← hS7]; exact hq3
            have hq4' : (tellB S7 2).next = 0 := by rw [← hS7]; exact hq4
            have R1 := Lib.hid hr1'
            have R2 := Lib.hid hr2'
            have R3 := Lib.hid hS7
            have Q1 := Lib.hid hq1'
            have Q2 := Lib.hid hq2'
            have Q3 := Lib.hid hq3'
            have Q4 := Lib.hid hq4'
            clear hr1 hr2 hq1 hq2 hq3 hq4 hr1' hr2' hS7 hq1' hq2' hq3' hq4'
            go_wp2_with (first
              | (go_at_call 14; (with_reducible refine (held_read 1 0 H6.out).mono ?_); rintro e w4 ⟨A, L, rfl, hL, hc, hH7, hs7⟩; rw [R1.out]; rw [R3.out] at hH7; have hl0 : L.length = 0 := congrArg List.length (hL.out.trans R2.out); have H7 := Lib.hid hH7; have S7' := Lib.hid hs7; clear hL hc hH7 hs7)
              | (go_at_call 31; (with_reducible refine (held_block 1 H7.out).mono ?_); rintro e w5 ⟨v, rfl, ⟨A5, c5, rfl, hv5⟩, hb5⟩; rw [Q1.out]; have fl5 := field_bad true (tellB S7 1).next (tellB S7 1).count A5 (tellB S7 1).pages.length c5; have HB5 := Lib.hid hb5; clear hb5 hv5)
              | (go_at_call 31; (with_reducible refine (held_block 1 (H7.out.below HB5.out)).mono ?_); rintro e w6 ⟨v, rfl, ⟨A6, c6, rfl, hv6⟩, hb6⟩; rw [Q2.out]; have fl6 := field_count (tellB S7 1).bad (tellB S7 1).next 2 A6 (tellB S7 1).pages.length c6; have HB6 := Lib.hid hb6; clear hb6 hv6)
              | (go_at_call 31; (with_reducible refine (held_block 2 ((H7.out.below HB5.out).below HB6.out)).mono ?_); rintro e w7 ⟨v, rfl, ⟨A7, c7, rfl, hv7⟩, hb7⟩; rw [Q3.out, Q4.out]; have HB7 := Lib.hid hb7; clear hb7 hv7)
              | (go_at_call 35; (with_reducible refine (clean_any _ _ _ _ _).mono ?_); rintro e w8 ⟨rfl, hb8⟩; have HB8 := Lib.hid hb8; clear hb8)
              | (go_at_call 11; (with_reducible refine (awake_any _).mono ?_); rintro e w9 ⟨rfl, hb9⟩))
            go_ret
            refine ⟨rfl, ?_⟩
            have z1 := HB3.out.size
            have z2 := S7'.out.size
            have z5 := HB5.out.size
            have z6 := HB6.out.size
            have z7 := HB7.out.size
            have z8 := HB8.out.size
            have b4 : Below w.heap.size w w4 := HB3.out.trans (Safe.below S7'.out (fun b hb => hb) z1)
            have b9 := (HB5.out.trans (HB6.out.mono z5)).trans ((HB7.out.trans ((HB8.out.trans (hb9.mono z8)).mono z7)).mono (Nat.le_trans z5 z6))
            exact b4.trans (b9.mono b4.size)
          · have hr1' : (rdL S6 2 0).2.1 = 0 := hr1
            have hr2' : (rdL S6 2 0).1 = [] := hr2
            obtain ⟨S7, hS7⟩ : ∃ S7, (rdL S6 2 0).2.2 = S7 := ⟨_, rfl⟩
            have hq1' : (tellB S7 2).bad = true := by rw [← hS7]; exact hq1
            have hq2' : (tellB S7 2).count = 2 := by rw [← hS7]; exact hq2
            have hq3' : (tellB S7 0).bad = false := by rw [← hS7]; exact hq3
            have hq4' : (tellB S7 0).next = 0 := by rw [← hS7]; exact hq4
            have R1 := Lib.hid hr1'
            have R2 := Lib.hid hr2'
            have R3 := Lib.hid hS7
            have Q1 := Lib.hid hq1'
            have Q2 := Lib.hid hq2'
            have Q3 := Lib.hid hq3'
            have Q4 := Lib.hid hq4'
            clear hr1 hr2 hq1 hq2 hq3 hq4 hr1' hr2' hS7 hq1' hq2' hq3' hq4'
            go_wp2_with (first
              | (go_at_call 14; (with_reducible refine (held_read 2 0 H6.out).mono ?_); rintro e w4 ⟨A, L, rfl, hL, hc, hH7, hs7⟩; rw [R1.out]; rw [R3.out] at hH7; have hl0 : L.length = 0 := congrArg List.length (hL.out.trans R2.out); have H7 := Lib.hid hH7; have S7' := Lib.hid hs7; clear hL hc hH7 hs7)
              | (go_at_call 31; (with_reducible refine (held_block 2 H7.out).mono ?_); rintro e w5 ⟨v, rfl, ⟨A5, c5, rfl, hv5⟩, hb5⟩; rw [Q1.out]; have fl5 := field_bad true (tellB S7 2).next (tellB S7 2).count A5 (tellB S7 2).pages.length c5; have HB5 := Lib.hid hb5; clear hb5 hv5)
              | (go_at_call 31; (with_reducible refine (held_block 2 (H7.out.below HB5.out)).mono ?_); rintro e w6 ⟨v, rfl, ⟨A6, c6, rfl, hv6⟩, hb6⟩; rw [Q2.out]; have fl6 := field_count (tellB S7 2).bad (tellB S7 2).next 2 A6 (tellB S7 2).pages.length c6; have HB6 := Lib.hid hb6; clear hb6 hv6)
              | (go_at_call 31; (with_reducible refine (held_block 0 ((H7.out.below HB5.out).below HB6.out)).mono ?_); rintro e w7 ⟨v, rfl, ⟨A7, c7, rfl, hv7⟩, hb7⟩; rw [Q3.out, Q4.out]; have HB7 := Lib.hid hb7; clear hb7 hv7)
              | (go_at_call 35; (with_reducible refine (clean_any _ _ _ _ _).mono ?_); rintro e w8 ⟨rfl, hb8⟩; have HB8 := Lib.hid hb8; clear hb8)
              | (go_at_call 11; (with_reducible refine (awake_any _).mono ?_); rintro e w9 ⟨rfl, hb9⟩))
            go_ret
            refine ⟨rfl, ?_⟩
            have z1 := HB3.out.size
            have z2 := S7'.out.size
            have z5 := HB5.out.size
            have z6 := HB6.out.size
            have z7 := HB7.out.size
            have z8 := HB8.out.size
            have b4 : Below w.heap.size w w4 := HB3.out.trans (Safe.below S7'.out (fun b hb => hb) z1)
            have b9 := (HB5.out.trans (HB6.out.mono z5)).trans ((HB7.out.trans ((HB8.out.trans (hb9.mono z8)).mono z7)).mono (Nat.le_trans z5 z6))
            exact b4.trans (b9.mono b4.size)
end Go.Proofs.Ytchghdpfgamfpaa
