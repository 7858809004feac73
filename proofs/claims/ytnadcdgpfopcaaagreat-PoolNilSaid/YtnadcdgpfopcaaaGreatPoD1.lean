/- A pool: its chip is programmed, erased, read; fill. -/
import Derived.Test.YtnadcdgpfopcaaaGreatPoC5
namespace Go.Proofs.YtnadcdgpfopcaaaGreat
open Go.RowKit

theorem CB.mono {w : World} {C D : Nat → Prop} {A : Option Addr} {l : List UInt8} (h : CB w C A l) (hD : ∀ b, C b → D b) : CB w D A l := h.keep (fun _ _ => rfl) hD
section
variable {w w' : World} {p c l f : Nat} {x y X Y Z : Nat → Prop} {Q Q1 : PS} {T : List Fd}
theorem Pool.off (h : Pool w p c x Q) : ∃ l f X Y Z, PoolAt w p c l f X Y Z Q ∧ (∀ b, x b → b < w.heap.size ∧ ¬ X b ∧ ¬ Y b ∧ ¬ Z b ∧ b ≠ p) ∧ ∀ b, x b → Off w X b := by
  obtain ⟨l, f, X, Y, Z, h1, h2⟩ := h
  exact ⟨l, f, X, Y, Z, h1, h2, fun b hb => ⟨(h2 b hb).1, (h2 b hb).2.1⟩⟩
theorem Pool.prog (A : Option Addr) (n cc : Nat) (l : List UInt8) (b pg : Int) (hn : n = l.length) (h : Pool w p c x Q) (hl : CB w x A l) :
    Calls Tryz.prog 119 #[.pointer (some ⟨c, 0, none⟩), .agg #[.int .i64 b, .int .i64 pg], .slice A n cc] w fun e w' => e = .returned (.int .i64 (progL Q.S b pg l).1) ∧ Pool w' p c x { Q with S := (progL Q.S b pg l).2 } ∧ Safe x w w' := by
  obtain ⟨l1, f, X, Y, Z, h1, h2, h3⟩ := h.off
  refine (held_prog_n A n cc l b pg hn h1.chip (hl.mono h3)).mono ?_
  rintro e w' ⟨rfl, k1, k2⟩
  exact ⟨rfl, h1.chip_op h2 k1 k2⟩
theorem Pool.erase (b : Int) (h : Pool w p c x Q) : Calls Tryz.prog 166 #[.pointer (some ⟨c, 0, none⟩), .int .i64 b] w fun e w' => e = .returned (.int .i64 (eraseL Q.S b).1) ∧ Pool w' p c x { Q with S := (eraseL Q.S b).2 } ∧ Safe x w w' := by
  obtain ⟨l1, f, X, Y, Z, h1, h2, h3⟩ := h.off
  refine (held_erase b h1.chip).mono ?_
  rintro e w' ⟨rfl, k1, k2⟩
  exact ⟨rfl, h1.chip_op h2 k1 k2⟩
theorem Pool.readc (b pg : Int) (h : Pool w p c x Q) : Calls Tryz.prog 59 #[.pointer (some ⟨c, 0, none⟩), .agg #[.int .i64 b, .int .i64 pg]] w fun e w' => ∃ A L, e = .returned (.tuple #[.slice A L.length L.length, .int .i64 (rdL Q.S b pg).2.1]) ∧ Hid (L = (rdL Q.S b pg).1) ∧ CB w' (New w w') A L ∧ Pool w' p c (fun b => x b ∨ New w w' b) { Q with S := (rdL Q.S b pg).2.2 } ∧ Safe x w w' := by
  obtain ⟨l1, f, X, Y, Z, h1, h2, h3⟩ := h.off
  refine (held_read b pg h1.chip).mono ?_
  rintro e w' ⟨A, L, rfl, hL, hc, k1, k2⟩
  exact ⟨A, L, rfl, hL, hc, h1.chip_read h2 k1 k2⟩
theorem Pool.failc (n : Int) (hn : n ≤ 9223372036854775807) (h : Pool w p c x Q) : Calls Tryz.prog 13 #[.pointer (some ⟨c, 0, none⟩), .int .i64 n] w fun e w' => e = .returned (.tuple #[]) ∧ Pool w' p c x { Q with S := { Q.S with f := behindS n } } ∧ Safe x w w' := by
  obtain ⟨l1, f, X, Y, Z, h1, h2, h3⟩ := h.off
  refine (held_fail n hn h1.chip).mono ?_
  rintro e w' ⟨rfl, k1, k2⟩
  exact ⟨rfl, h1.chip_op h2 k1 k2⟩
theorem Pool.wornc (n : Int) (hn : n ≤ 9223372036854775807) (h : Pool w p c x Q) : Calls Tryz.prog 14 #[.pointer (some ⟨c, 0, none⟩), .int .i64 n] w fun e w' => e = .returned (.tuple #[]) ∧ Pool w' p c x { Q with S := { Q.S with w := behindS n } } ∧ Safe x w w' := by
  obtain ⟨l1, f, X, Y, Z, h1, h2, h3⟩ := h.off
  refine (held_worn n hn h1.chip).mono ?_
  rintro e w' ⟨rfl, k1, k2⟩
  exact ⟨rfl, h1.chip_op h2 k1 k2⟩
/-- Pages as a list lie at A, in blocks of y. -/
def Pgs (w : World) (y : Nat → Prop) (A : Option Addr) (pg : List (List UInt8)) : Prop :=
  0 < pg.length → ∃ B o, A = some ⟨B, o, none⟩ ∧ y B ∧ ∀ j (h : j < pg.length), ∃ Aj cj, w.cell? ⟨B, o + j, none⟩ = some (.slice Aj pg[j].length cj) ∧ CB w y Aj pg[j]
theorem Pgs.safe {A : Option Addr} {pg : List (List UInt8)} (h : Pgs w y A pg) (hs : Safe x w w') (hy : ∀ b, y b → x b ∧ b < w.heap.size) : Pgs w' y A pg := fun hn => by
  obtain ⟨B, o, e, hB, hc⟩ := h hn
  refine ⟨B, o, e, hB, fun j hj => ?_⟩
  obtain ⟨Aj, cj, k1, k2⟩ := hc j hj
  exact ⟨Aj, cj, (World.cell?_of_block (a := ⟨B, o + j, none⟩) (hs.block (hy B hB).2 (hy B hB).1)).trans k1, k2.safe hs hy fun _ k => k⟩
theorem Pgs.mono {A : Option Addr} {pg : List (List UInt8)} (h : Pgs w y A pg) (hx : ∀ b, y b → x b) : Pgs w x A pg := fun hn => by
  obtain ⟨B, o, e, hB, hc⟩ := h hn
  refine ⟨B, o, e, hx B hB, fun j hj => ?_⟩
  obtain ⟨Aj, cj, k1, k2⟩ := hc j hj
  exact ⟨Aj, cj, k1, k2.mono hx⟩
theorem fill_at (Q : PS) (td : Int) (i : Nat) (pg : List (List UInt8)) {j : Nat} (hj : j < pg.length) : Q.fill td i (pg.drop j) = if (progL Q.S td i pg[j]).1 = 0 then PS.fill { Q with S := (progL Q.S td i pg[j]).2 } td (i + 1) (pg.drop (j + 1)) else ((progL Q.S td i pg[j]).1, { Q with S := (progL Q.S td i pg[j]).2 }) := by
  rw [List.drop_eq_getElem_cons hj]; rfl
set_option maxRecDepth 100000 in
set_option maxHeartbeats 2000000 in
theorem q_fill (td : Int) (A : Option Addr) (m : Nat) (pg : List (List UInt8)) (hlen : pg.length ≤ 1000) (h : Pool w p c x Q) (hp : Pgs w x A pg) : Calls Tryz.prog 184 #[.pointer (some ⟨p, 0, none⟩), .int .i64 td, .slice A pg.length m] w fun e w' => e = .returned (.int .i64 (Q.fill td 0 pg).1) ∧ Pool w' p c x (Q.fill td 0 pg).2 ∧ Safe x w w' := by
  have HX := Lib.hid h.there
  have HP := Lib.hid h
  have HG := Lib.hid hp
  clear h hp
  go_enter Tryz.func184, Tryz.ntmps184
  go_wp2_with fail
  go_loopw [7, 8, 9, 12] (fun _ _ _ v12 wr => ∃ j : Nat, j ≤ pg.length ∧ v12 = .int .i64 j ∧ ∃ Q1, Pool wr p c x Q1 ∧ Safe x w wr ∧ Q.fill td 0 pg = Q1.fill td j (pg.drop j)) (fun _ _ _ v12 _ => pg.length - (intOf v12).toNat)
  case atStart => exact ⟨0, Nat.zero_le _, rfl, Q, HP.out, .refl _ _, rfl⟩
  case round =>
    obtain ⟨j, hj, rfl, Q1, hP, hS, hF⟩ := hrel
    have HP1 := Lib.hid hP
    have HS := Lib.hid hS
    have HF := Lib.hid hF
    obtain ⟨l, f, hpt⟩ := hP.parts
    have c0 := hpt.c0
    clear hP hS hF hpt
    by_cases hj1 : j < pg.length
    · obtain ⟨B, o, rfl, hB, hc⟩ := (HG.out.safe HS.out fun b hb => ⟨hb, HX.out b hb⟩) (by omega)
      obtain ⟨Aj, cj, k0, hcb⟩ := hc j hj1
      have HC := Lib.hid hcb
      have HFA := Lib.hid (fill_at Q1 td j pg hj1)
      clear hc hcb
      generalize pg[j] = bj at k0 HC HFA
      by_cases he : (progL Q1.S td j bj).1 = 0
      · have HE := Lib.hid he
        rw [if_pos he] at HFA
        clear he
        go_wp2_with (go_at_call 119; (with_reducible refine (Pool.prog _ _ _ bj td (j : Int) rfl HP1.out HC.out).mono ?_); rintro e w2 ⟨rfl, h2, hs2⟩; rw [HE.out]; have HP2 := Lib.hid h2; have HS2 := Lib.hid hs2; clear h2 hs2)
        go_roundw
        case rel => exact ⟨j + 1, by omega, by go_num, _, HP2.out, HS.out.then HS2.out, by rw [HF.out, HFA.out]⟩
        case measure => simp [intOf]; omega
      · have HE : Hid (Q.fill td 0 pg = ((progL Q1.S td j bj).1, { Q1 with S := (progL Q1.S td j bj).2 })) := Lib.hid (by rw [HF.out, HFA.out, if_neg he])
        obtain ⟨er, her⟩ : ∃ er, er = (progL Q1.S td j bj).1 := ⟨_, rfl⟩
        rw [← her] at he
        have HER := Lib.hid her
        clear her
        go_wp2_with (go_at_call 119; (with_reducible refine (Pool.prog _ _ _ bj td (j : Int) rfl HP1.out HC.out).mono ?_); rintro e w2 ⟨rfl, h2, hs2⟩; rw [← HER.out]; have HP2 := Lib.hid h2; have HS2 := Lib.hid hs2; clear h2 hs2)
        go_ret
        exact ⟨ret_int (by rw [HE.out]; exact HER.out), by rw [HE.out]; exact HP2.out, HS.out.then HS2.out⟩
    · obtain rfl : j = pg.length := by omega
      have HE : Hid (Q.fill td 0 pg = (0, Q1)) := Lib.hid (by rw [HF.out, List.drop_length]; rfl)
      go_wp2_with fail
      go_ret
      exact ⟨ret_int (by rw [HE.out]), by rw [HE.out]; exact HP1.out, HS.out⟩
end
end Go.Proofs.YtnadcdgpfopcaaaGreat
