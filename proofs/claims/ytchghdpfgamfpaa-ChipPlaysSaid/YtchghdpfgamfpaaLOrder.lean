/- ChipOrder: for every pages, list and bytes the law answers true, and nothing that was there has turned. -/
import Derived.Test.YtchghdpfgamfpaaLWorn
import Derived.Test.YtchghdpfgamfpaaOpen
namespace Go.Proofs.Ytchghdpfgamfpaa
open Go.RowKit

/-- A chip of one block, with nothing to come. -/
def Calm (S : LS) (np nx k : Nat) : Prop := ∃ b, S.bl = [b] ∧ S.np = np ∧ S.dark = false ∧ S.f.set = false ∧ S.c.set = false ∧ S.w.set = false ∧ b.bad = false ∧ b.next = (nx : Int) ∧ 0 ≤ S.pr ∧ S.pr ≤ (k : Int)
theorem calm_new (np : Nat) : Calm (madeS 1 np []) np 0 0 := ⟨newBk np, rfl, rfl, rfl, rfl, rfl, rfl, rfl, rfl, Int.le_refl 0, Int.le_refl 0⟩
theorem Tm.unset {t : Tm} (h : t.set = false) : t.hit = false ∧ t.tick = t := by
  unfold Tm.hit Tm.tick
  rw [h]
  exact ⟨rfl, rfl⟩
section
variable {S : LS} {np nx k : Nat}
theorem calm_over {p : Nat} (h : Calm S np nx k) (l : List UInt8) (hp : np ≤ p) : progL S 0 p l = (1, S) := by
  obtain ⟨b, h1, h2, _⟩ := h
  have hh : hasL S 0 p = false := by simp [hasL, h2]; omega
  have e : refS S 0 p l.length = 1 := by unfold refS; rw [if_pos (.inl hh)]
  unfold progL
  rw [if_pos (by rw [e]; decide), e]
theorem calm_ref {p : Nat} (h : Calm S np nx k) {n : Nat} (h1 : 1 ≤ n) (h2 : n ≤ 2000) (hp : p < np) : refS S 0 p n = if (p : Int) ≠ (nx : Int) then 4 else 0 := by
  obtain ⟨b, e1, e2, e3, e4, e5, e6, e7, e8, _⟩ := h
  have hh : hasL S 0 p = true := by simp [hasL, e1, e2]; omega
  have hi : isL S 0 = true := hasL_is hh
  have hb : blkL S 0 = b := by simp [blkL, e1]
  unfold refS barS
  rw [hh, hi, e3, hb, e7, e8, if_neg (bad3 (by omega) (by omega))]
  simp
theorem calm_order {p : Nat} (h : Calm S np nx k) (l : List UInt8) (h1 : 1 ≤ l.length) (h2 : l.length ≤ 2000) (hp : p < np) (hx : p ≠ nx) : progL S 0 p l = (4, S) := by
  have e : refS S 0 p l.length = 4 := by rw [calm_ref h h1 h2 hp, if_pos (by omega)]
  unfold progL
  rw [if_pos (by rw [e]; decide), e]
theorem calm_ok {p : Nat} (h : Calm S np nx k) (hk : k ≤ 1000) (l : List UInt8) (h1 : 1 ≤ l.length) (h2 : l.length ≤ 2000) (hp : p < np) (hx : p = nx) : (progL S 0 p l).1 = 0 ∧ (progL S 0 p l).2.pr = S.pr + 1 ∧ Calm (progL S 0 p l).2 np (nx + 1) (k + 1) := by
  have e : refS S 0 p l.length = 0 := by rw [calm_ref h h1 h2 hp, if_neg (by omega)]
  obtain ⟨b, e1, e2, e3, e4, e5, e6, e7, e8, e9, e10⟩ := h
  have hw : wrap64 (S.pr + 1) = S.pr + 1 := IntWalk.wrap64_in _ ⟨by omega, by omega⟩
  have hp : progL S 0 p l = (0, { S with pr := S.pr + 1, bl := [{ b with bad := false, next := (nx : Int) + 1, pages := b.pages.set p l }] }) := by
    unfold progL
    rw [if_neg (by rw [e]; decide), (Tm.unset e5).1, (Tm.unset e4).1, (Tm.unset e5).2, (Tm.unset e4).2, hw]
    simp [putL, blkL, e1, e8]
  rw [hp]
  exact ⟨rfl, rfl, _, rfl, e2, e3, e4, e5, e6, rfl, by push_cast; rfl, by show 0 ≤ S.pr + 1; omega, by show S.pr + 1 ≤ ((k + 1 : Nat) : Int); omega⟩
theorem calm_erase (h : Calm S np nx k) : (eraseL S 0).1 = 0 ∧ Calm (eraseL S 0).2 np 0 k := by
  obtain ⟨b, e1, e2, e3, e4, e5, e6, e7, e8, e9, e10⟩ := h
  have hi : isL S 0 = true := by simp [isL, e1]
  have hb : blkL S 0 = b := by simp [blkL, e1]
  have e : barS S 0 = 0 := by unfold barS; rw [hi, e3, hb, e7]; rfl
  have hp : eraseL S 0 = (0, { S with er := wrap64 (S.er + 1), bl := [emptyB (cntB b) S.np S.np] }) := by
    unfold eraseL
    rw [if_neg (by rw [e]; decide), (Tm.unset e5).1, (Tm.unset e6).1, (Tm.unset e5).2, (Tm.unset e6).2, hb]
    simp [e1]
  rw [hp]
  exact ⟨rfl, _, rfl, e2, e3, e4, e5, e6, e7, by simp [emptyB], e9, e10⟩
theorem calm_mono {k' : Nat} (h : Calm S np nx k) (hk : k ≤ k') : Calm S np nx k' := by
  obtain ⟨b, e1, e2, e3, e4, e5, e6, e7, e8, e9, e10⟩ := h
  exact ⟨b, e1, e2, e3, e4, e5, e6, e7, e8, e9, by omega⟩
theorem calm_tell (h : Calm S np nx k) : (tellB S 0).next = (nx : Int) := by
  obtain ⟨b, e1, e2, e3, e4, e5, e6, e7, e8, e9, e10⟩ := h
  simp [tellB, isL, blkL, e1, e8]
end
theorem bill_field (a b c : Int) (w : World) : (Instr.field 41 (.agg #[.int .i64 a, .int .i64 b, .int .i64 c]) 1).run Try.prog w = .ok (.int .i64 b) w := by
  simp [Instr.field, go_sem]
  rfl
theorem cb_of {w : World} {A : Option Addr} {l : List UInt8} (h : RB w w.heap.size A l) : CB w (fun b => b < w.heap.size) A l := fun hn => by
  obtain ⟨ad, e, hb, hc⟩ := h hn
  exact ⟨ad, e, hb, hc⟩
set_option maxRecDepth 100000 in
set_option maxHeartbeats 8000000 in
theorem order_in (P : Int) (A A' : Option Addr) (c c' : Nat) (L : List Int) (l : List UInt8) (w : World) (hA : IntsArg w A L) (hr : RB w w.heap.size A' l) (h1 : L.length ≤ 80) (h2 : 1 ≤ l.length) (h3 : l.length ≤ 100) :
    Calls Try.prog 7 #[.int .i64 P, .slice A L.length c, .slice A' l.length c'] w (Holds w) := by
  obtain ⟨s, hs1, hs⟩ := small_of P 32 (by omega) (by omega)
  obtain ⟨np, hnp⟩ : ∃ np : Nat, 1 + (s : Int) = (np : Int) := ⟨s + 1, by omega⟩
  have HN := Lib.hid (held_new (w := w) 1 np none 0 [] (fun h => absurd h (by simp)) (by decide) (by decide) (by decide) (by omega) (by omega))
  have HC := Lib.hid (cb_of hr)
  have HA := Lib.hid hA
  clear hr hA
  have hu : IntKind.u64.wrap ((np : Int) + 2) = (np : Int) + 2 := by
    have : IntKind.u64.wrap ((np : Int) + 2) = ((np : Int) + 2) % (2 ^ 64 : Int) := by simp [IntKind.wrap, IntKind.bits, IntKind.signed]
    rw [this]; omega
  have hnp1 : 1 ≤ np := by omega
  have hnp2 : np ≤ 32 := by omega
  have fb := bill_field
  go_enter Try.func7, Try.ntmps7
  go_wp2_with (go_at_call 12; refine HN.out.mono ?_; rintro e w1 ⟨p, rfl, hH, hB⟩; have H0 := Lib.hid hH; have HB0 := Lib.hid hB; clear hH hB)
  go_loopw [8, 10, 11, 12, 13, 37, 68, 81] (fun n8 _ _ _ _ i _ _ wr => ∃ (j nx : Nat) (S : LS), j ≤ L.length ∧ i = .int .i64 j ∧ n8 = .int .i64 nx ∧ Calm S np nx j ∧ nx ≤ np ∧ Held wr p (fun b => b < w.heap.size) S ∧ Below w.heap.size w wr) (fun _ _ _ _ _ i _ _ _ => L.length - (intOf i).toNat)
  case atStart => exact ⟨0, 0, _, Nat.zero_le _, rfl, rfl, calm_new np, Nat.zero_le _, H0.out, HB0.out⟩
  case round =>
    obtain ⟨j, nx, S, hj, rfl, rfl, hC, hnx, hH, hB⟩ := hrel
    have H1 := Lib.hid hH
    have HB1 := Lib.hid hB
    have HC1 := Lib.hid hC
    clear hH hB hC
    by_cases hjl : j < L.length
    · obtain ⟨B, o, rfl, hBw, hcell⟩ := HA.out (by omega)
      have cb : wr.cell? ⟨B, o + j, none⟩ = some (.int .i64 L[j]) := (HB1.out.cell (p := ⟨B, o + j, none⟩) hBw).trans (hcell j hjl)
      obtain ⟨q, hq1, hq⟩ := small_of L[j] ((np : Int) + 2) (by omega) (by omega)
      have hcl := fun (w2 : World) (hb2 : Below wr.heap.size wr w2) => HC.out.keep (w' := w2) (fun b hb => ((HB1.out.trans (hb2.mono HB1.out.size)).block b hb)) (fun _ h => h)
      have HCL := Lib.hid hcl
      clear hcl hcell
      have hpr := HC1.out
      obtain ⟨_, _, _, _, _, _, _, _, _, hp0, hp1⟩ := hpr
      by_cases c1 : np ≤ q
      · have HP := Lib.hid (calm_over HC1.out l c1)
        have HC2 := Lib.hid (calm_mono HC1.out (Nat.le_succ j))
        have he := calm_erase HC2.out
        have E1 := Lib.hid he.1
        have E2 := Lib.hid he.2
        clear he
        go_wp2_with (first
          | (go_at_call 29; (with_reducible refine (held_bill H1.out).mono ?_); rintro e w2 ⟨rfl, hb2⟩; have HB2 := Lib.hid hb2; clear hb2)
          | (go_at_call 26; (with_reducible refine (held_prog A' c' l 0 q (H1.out.below HB2.out) (HCL.out w2 HB2.out)).mono ?_); rintro e w3 ⟨rfl, hH3, hs3⟩; rw [HP.out] at hH3 ⊢; have H3 := Lib.hid hH3; have S3 := Lib.hid hs3; clear hH3 hs3)
          | (go_at_call 29; (with_reducible refine (held_bill H3.out).mono ?_); rintro e w4 ⟨rfl, hb4⟩; skip; have HB4 := Lib.hid hb4; clear hb4)
          | (go_at_call 16; (with_reducible refine (held_erase 0 (H3.out.below HB4.out)).mono ?_); rintro e w5 ⟨rfl, hH5, hs5⟩; rw [E1.out]; have H5 := Lib.hid hH5; have S5 := Lib.hid hs5; clear hH5 hs5))
        all_goals
          have z1 := HB1.out.size
          have z2 := HB2.out.size
          have z3 := S3.out.size
          have z4 := HB4.out.size
          have b4 : Below w.heap.size w w4 := (HB1.out.trans (HB2.out.mono z1)).trans ((Safe.below S3.out (fun b hb => hb) (by omega)).trans (HB4.out.mono (by omega)))
          go_roundw
          case measure => simp [intOf]; omega
          case rel => first
            | exact ⟨j + 1, 0, _, by omega, by simp, by first | (simp; done) | (simp; omega), E2.out, Nat.zero_le _, H5.out, b4.trans (Safe.below S5.out (fun b hb => hb) (by omega))⟩
            | exact ⟨j + 1, nx, _, by omega, by simp, by first | (simp; done) | (simp; omega), HC2.out, by omega, H3.out.below HB4.out, b4⟩
      · by_cases c2 : q = nx
        · subst c2
          obtain ⟨r1, r2, r3⟩ := calm_ok (p := q) HC1.out (by omega) l h2 (by omega) (by omega) rfl
          obtain ⟨S1, hS1⟩ : ∃ S1, (progL S 0 q l).2 = S1 := ⟨_, rfl⟩
          rw [hS1] at r2 r3
          have HP := Lib.hid (show progL S 0 q l = (0, S1) from Prod.ext r1 hS1)
          have HC2 := Lib.hid r3
          have HR := Lib.hid r2
          clear r1 r2 r3 hS1
          have he := calm_erase HC2.out
          have E1 := Lib.hid he.1
          have E2 := Lib.hid he.2
          clear he
          go_wp2_with (first
            | (go_at_call 29; (with_reducible refine (held_bill H1.out).mono ?_); rintro e w2 ⟨rfl, hb2⟩; have HB2 := Lib.hid hb2; clear hb2)
            | (go_at_call 26; (with_reducible refine (held_prog A' c' l 0 q (H1.out.below HB2.out) (HCL.out w2 HB2.out)).mono ?_); rintro e w3 ⟨rfl, hH3, hs3⟩; rw [HP.out] at hH3 ⊢; have H3 := Lib.hid hH3; have S3 := Lib.hid hs3; clear hH3 hs3)
            | (go_at_call 29; (with_reducible refine (held_bill H3.out).mono ?_); rintro e w4 ⟨rfl, hb4⟩; rw [HR.out]; have HB4 := Lib.hid hb4; clear hb4)
            | (go_at_call 16; (with_reducible refine (held_erase 0 (H3.out.below HB4.out)).mono ?_); rintro e w5 ⟨rfl, hH5, hs5⟩; rw [E1.out]; have H5 := Lib.hid hH5; have S5 := Lib.hid hs5; clear hH5 hs5))
          all_goals
            have z1 := HB1.out.size
            have z2 := HB2.out.size
            have z3 := S3.out.size
            have z4 := HB4.out.size
            have b4 : Below w.heap.size w w4 := (HB1.out.trans (HB2.out.mono z1)).trans ((Safe.below S3.out (fun b hb => hb) (by omega)).trans (HB4.out.mono (by omega)))
            go_roundw
            case measure => simp [intOf]; omega
            case rel => first
              | exact ⟨j + 1, 0, _, by omega, by simp, by first | (simp; done) | (simp; omega), E2.out, Nat.zero_le _, H5.out, b4.trans (Safe.below S5.out (fun b hb => hb) (by omega))⟩
              | exact ⟨j + 1, q + 1, _, by omega, by simp, by first | (simp; done) | (simp; omega), HC2.out, by omega, H3.out.below HB4.out, b4⟩
        · have HP := Lib.hid (calm_order (p := q) HC1.out l h2 (by omega) (by omega) c2)
          have HC2 := Lib.hid (calm_mono HC1.out (Nat.le_succ j))
          have he := calm_erase HC2.out
          have E1 := Lib.hid he.1
          have E2 := Lib.hid he.2
          clear he
          go_wp2_with (first
            | (go_at_call 29; (with_reducible refine (held_bill H1.out).mono ?_); rintro e w2 ⟨rfl, hb2⟩; have HB2 := Lib.hid hb2; clear hb2)
            | (go_at_call 26; (with_reducible refine (held_prog A' c' l 0 q (H1.out.below HB2.out) (HCL.out w2 HB2.out)).mono ?_); rintro e w3 ⟨rfl, hH3, hs3⟩; rw [HP.out] at hH3 ⊢; have H3 := Lib.hid hH3; have S3 := Lib.hid hs3; clear hH3 hs3)
            | (go_at_call 29; (with_reducible refine (held_bill H3.out).mono ?_); rintro e w4 ⟨rfl, hb4⟩; skip; have HB4 := Lib.hid hb4; clear hb4)
            | (go_at_call 16; (with_reducible refine (held_erase 0 (H3.out.below HB4.out)).mono ?_); rintro e w5 ⟨rfl, hH5, hs5⟩; rw [E1.out]; have H5 := Lib.hid hH5; have S5 := Lib.hid hs5; clear hH5 hs5))
          all_goals
            have z1 := HB1.out.size
            have z2 := HB2.out.size
            have z3 := S3.out.size
            have z4 := HB4.out.size
            have b4 : Below w.heap.size w w4 := (HB1.out.trans (HB2.out.mono z1)).trans ((Safe.below S3.out (fun b hb => hb) (by omega)).trans (HB4.out.mono (by omega)))
            go_roundw
            case measure => simp [intOf]; omega
            case rel => first
              | exact ⟨j + 1, 0, _, by omega, by simp, by first | (simp; done) | (simp; omega), E2.out, Nat.zero_le _, H5.out, b4.trans (Safe.below S5.out (fun b hb => hb) (by omega))⟩
              | exact ⟨j + 1, nx, _, by omega, by simp, by first | (simp; done) | (simp; omega), HC2.out, by omega, H3.out.below HB4.out, b4⟩
    · have ht := calm_tell HC1.out
      have HT := Lib.hid ht
      clear ht
      go_wp2_with (first
        | (go_at_call 31; (with_reducible refine (held_block 0 H1.out).mono ?_); rintro e w5 ⟨v, rfl, ⟨A5, c5, rfl, hv5⟩, hb5⟩; rw [HT.out]; have fl5 := field_next (tellB S 0).bad nx (tellB S 0).count A5 (tellB S 0).pages.length c5; have HB5 := Lib.hid hb5; clear hb5 hv5)
        | (go_at_call 11; (with_reducible refine (awake_any _).mono ?_); rintro e w9 ⟨rfl, hb9⟩))
      go_ret
      exact ⟨rfl, HB1.out.trans ((HB5.out.trans (hb9.mono HB5.out.size)).mono HB1.out.size)⟩
theorem order_any (P : Int) (A A' : Option Addr) (c c' : Nat) (L : List Int) (l : List UInt8) (w : World) (hA : IntsArg w A L) (hr : RB w w.heap.size A' l) :
    Calls Try.prog 7 #[.int .i64 P, .slice A L.length c, .slice A' l.length c'] w (Holds w) := by
  by_cases h1 : L.length ≤ 80
  · by_cases h2 : 1 ≤ l.length
    · by_cases h3 : l.length ≤ 100
      · exact order_in P A A' c c' L l w hA hr h1 h2 h3
      · go_enter Try.func7, Try.ntmps7
        go_wp2_with (go_at_call 11; (with_reducible refine (awake_any _).mono ?_); rintro e w9 ⟨rfl, hb9⟩)
        go_ret
        exact ⟨rfl, hb9⟩
    · go_enter Try.func7, Try.ntmps7
      go_wp2_with (go_at_call 11; (with_reducible refine (awake_any _).mono ?_); rintro e w9 ⟨rfl, hb9⟩)
      go_ret
      exact ⟨rfl, hb9⟩
  · go_enter Try.func7, Try.ntmps7
    go_wp2_with (go_at_call 11; (with_reducible refine (awake_any _).mono ?_); rintro e w9 ⟨rfl, hb9⟩)
    go_ret
    exact ⟨rfl, hb9⟩
/-- As the row opens it. -/
theorem order_row (P : Int) (sv : Value) (A' : Option Addr) (c' : Nat) (L : List Int) (l : List UInt8) (w : World) (hA : Row (Value.int .i64) w sv L) (hr : RB w w.heap.size A' l) :
    Calls Try.prog 7 #[.int .i64 P, sv, .slice A' l.length c'] w (Holds w) := by
  rcases hA with ⟨rfl, rfl⟩ | ⟨ad, cap, rfl, hc⟩
  · exact order_any P none A' 0 c' [] l w (fun h => absurd h (by simp)) hr
  · refine order_any P (some ad) A' cap c' L l w (fun h0 => ?_) hr
    obtain ⟨b, off, spot⟩ := ad
    have h := hc 0 h0
    have hs : spot = none := by simpa [Addr.add] using World.cell?_spot h
    subst hs
    refine ⟨b, off, rfl, lt_of_cell (a := (⟨b, off, none⟩ : Addr)) (by simpa [Addr.add] using h), fun j hj => ?_⟩
    have e : (⟨b, off, none⟩ : Addr).add j = ⟨b, off + j, none⟩ := by
      unfold Addr.add
      split
      · next e => subst e; rfl
      · rfl
    rw [← e]; exact hc j hj
end Go.Proofs.Ytchghdpfgamfpaa
