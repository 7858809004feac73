/- Package name: place: slices.BinarySearchFunc by a closure that compares names. -/
import Derived.Test.YtnmcnnackokhcaaEnA
import Derived.Test.YtnmcnnackokhcaaShelf
import Derived.Deep.LoopGhost
namespace Go.Proofs.Ytnmcnnackokhcaa
open Go.RowKit Go.Lib

set_option maxRecDepth 100000 in
theorem clos_any (s : ByteArray) (n : Int) (t : ByteArray) (w : World) : Calls Try.prog 25 #[.agg #[.string s, .int .i64 n], .string t] w fun x w' => x = .returned (.int .i64 (cmpB s t)) ∧ Below w.heap.size w w' := by
  go_enter Try.func25, Try.ntmps25
  go_wp2_with (first
    | (go_at_call 26; refine (Try.strings_Compare s t _).mono ?_; rintro e w1 ⟨rfl, rfl⟩)
    | fail)
  go_ret
  exact ⟨rfl, (Below.refl _ _).alloc (Nat.le_refl _) _⟩
theorem eg_clos (args : Array Value) (w : World) : (callFunc 25 args).run Try.prog w = .ok (.enter 25 args) w := by
  kernel_rfl
set_option maxHeartbeats 4000000 in
set_option maxRecDepth 100000 in
theorem search_any (A : Option Addr) (c : Nat) (l : List Ent) (s : ByteArray) (w : World) (h : ELies w A l) (hr : Ri l) (hl : l.length ≤ 100) :
    Calls Try.prog 24 #[.slice A l.length c, .string s, .func (.func 25) #[] #[]] w fun e w' => e = .returned (.tuple #[.int .i64 (posE l s : Nat), .bool (hasE l s)]) ∧ Below w.heap.size w w' := by
  have HR := Lib.hid hr
  have HL := Lib.hid h
  have hple := posE_le l s
  have HP := Lib.hid (hasE_pos hr s)
  obtain ⟨p, hp⟩ : ∃ p, posE l s = p := ⟨_, rfl⟩
  obtain ⟨V, hV⟩ : ∃ V, hasE l s = V := ⟨_, rfl⟩
  have HA : Hid (∀ i (h : i < l.length), ltB l[i].1 s = decide (i < p)) := Lib.hid fun i hi => by
    by_cases e : i < p
    · rw [decide_eq_true e]; exact below_pos hr s i hi (by omega)
    · rw [decide_eq_false e]; exact above_pos hr s i hi (by omega)
  rw [hp] at hple
  rw [hp, hV]
  have HP2 := Lib.hid hp
  have HV := Lib.hid hV
  clear h hr hp hV
  go_enter Try.func24, Try.ntmps24
  go_wp2
  go_loopg [9, 10] l.length (fun kx s9 s10 wr => ∃ lo hi : Nat, s9 = .int .i64 lo ∧ s10 = .int .i64 hi ∧ lo ≤ hi ∧ hi ≤ l.length ∧ hi - lo ≤ kx ∧ lo ≤ p ∧ p ≤ hi ∧ Hid (Below w.heap.size w wr))
  case atStart => exact ⟨0, l.length, rfl, rfl, Nat.zero_le _, Nat.le_refl _, by omega, Nat.zero_le _, hple, Lib.hid (Below.refl _ _)⟩
  case round =>
    obtain ⟨lo, hi, rfl, rfl, hlh, hin, hg, hlp, hph, HB⟩ := hrel
    by_cases hlt : lo < hi
    · obtain ⟨B, o, rfl, hBs, hc⟩ := (HL.out.below HB.out) (by omega)
      have hm : (lo + hi) / 2 < l.length := by omega
      obtain ⟨k0, k1⟩ := hc ((lo + hi) / 2) hm
      have hA := HA.out ((lo + hi) / 2) hm
      clear hc
      obtain ⟨⟨t, n⟩, ht⟩ : ∃ t, l[(lo + hi) / 2] = t := ⟨_, rfl⟩
      rw [ht] at k0 k1 hA
      rw [← cmpB_lt] at hA
      clear ht
      have hcl := fun w => Lib.hid (clos_any t n s w)
      generalize cmpB t s = z at hA hcl
      by_cases hz : z < 0
      · have hpm : (lo + hi) / 2 < p := by rw [decide_eq_true hz] at hA; exact of_decide_eq_true hA.symm
        clear hA
        go_wp2_with (go_at_call 25; refine (hcl _).out.mono ?_; rintro e w' ⟨rfl, hb2⟩; replace hb2 := Lib.hid (HB.out.trans (hb2.mono HB.out.size)))
        go_roundg (hi - ((lo + hi) / 2 + 1))
        case measure => omega
        case rel =>
          exact ⟨(lo + hi) / 2 + 1, hi, by rw [show ((lo : Int) + (hi : Int)) / 2 + 1 = (((lo + hi) / 2 + 1 : Nat) : Int) by omega], rfl, by omega, hin, Nat.le_refl _, by omega, hph, hb2⟩
      · have hpm : p ≤ (lo + hi) / 2 := by rw [decide_eq_false hz] at hA; exact Nat.not_lt.1 (of_decide_eq_false hA.symm)
        clear hA
        go_wp2_with (go_at_call 25; refine (hcl _).out.mono ?_; rintro e w' ⟨rfl, hb2⟩; replace hb2 := Lib.hid (HB.out.trans (hb2.mono HB.out.size)))
        go_roundg ((lo + hi) / 2 - lo)
        case measure => omega
        case rel =>
          exact ⟨lo, (lo + hi) / 2, rfl, by rw [show ((lo : Int) + (hi : Int)) / 2 = (((lo + hi) / 2 : Nat) : Int) by omega], by omega, by omega, Nat.le_refl _, hlp, hpm, hb2⟩
    · obtain rfl : hi = lo := by omega
      obtain rfl : p = hi := by omega
      by_cases hn : p < l.length
      · obtain ⟨B, o, rfl, hBs, hc⟩ := (HL.out.below HB.out) (by omega)
        obtain ⟨k0, k1⟩ := hc p hn
        clear hc
        have hfin : Hid (V = decide (l[p].1 = s)) := Lib.hid (by
          rw [← HV.out, Bool.eq_iff_iff, HP.out, decide_eq_true_eq]
          simp only [HP2.out]
          exact ⟨fun ⟨_, e⟩ => e, fun e => ⟨hn, e⟩⟩)
        obtain ⟨⟨t, n⟩, ht⟩ : ∃ t, l[p] = t := ⟨_, rfl⟩
        rw [ht] at k0 k1 hfin
        rw [← cmpB_eq] at hfin
        clear ht
        have hcl := fun w => Lib.hid (clos_any t n s w)
        generalize cmpB t s = z at hfin hcl
        go_wp2_with (go_at_call 25; refine (hcl _).out.mono ?_; rintro e w' ⟨rfl, hb2⟩; replace hb2 := Lib.hid (HB.out.trans (hb2.mono HB.out.size)))
        go_ret2
        exact ⟨by rw [hfin.out]; rfl, hb2.out⟩
      · have hfin : Hid (V = false) := Lib.hid (by
          rw [← HV.out]
          cases e : hasE l s with
          | false => rfl
          | true => obtain ⟨h, _⟩ := HP.out.1 e; rw [HP2.out] at h; omega)
        go_wp2
        go_ret2
        exact ⟨by rw [hfin.out]; rfl, HB.out⟩
set_option maxRecDepth 100000 in
theorem place_any (A : Option Addr) (c : Nat) (l : List Ent) (s : ByteArray) (w : World) (h : ELies w A l) (hr : Ri l) (hl : l.length ≤ 100) :
    Calls Try.prog 21 #[.slice A l.length c, .string s] w fun e w' => e = .returned (.tuple #[.int .i64 (posE l s : Nat), .bool (hasE l s)]) ∧ Below w.heap.size w w' := by
  have H := fun w (h : ELies w A l) => Lib.hid (search_any A c l s w h hr hl)
  have HL := Lib.hid h
  clear h hr
  go_enter Try.func21, Try.ntmps21
  go_wp2_with (first
    | (go_at_call 24; refine (H _ HL.out).out.mono ?_; rintro e w1 ⟨rfl, hb⟩; replace hb := Lib.hid hb)
    | fail)
  go_ret2
  exact ⟨rfl, hb.out⟩
end Go.Proofs.Ytnmcnnackokhcaa
