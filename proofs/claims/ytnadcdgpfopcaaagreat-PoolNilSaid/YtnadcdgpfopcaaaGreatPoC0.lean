/- A pool's cells, its chip and its tables for those who only read. -/
import Derived.Test.YtnadcdgpfopcaaaGreatPoP
import Derived.Test.YtnadcdgpfopcaaaGreatGu
import Derived.Test.YtnadcdgpfopcaaaGreatGv
import Derived.Test.YtnadcdgpfopcaaaGreatGx
namespace Go.Proofs.YtnadcdgpfopcaaaGreat
open Go.RowKit

section
variable {w w' : World} {p c : Nat} {x : Nat → Prop} {Q : PS}
theorem cells12 {w : World} {p : Nat} {a b c d e f g h i j k l : Value} {t : TypeId} (hh : w.heap[p]? = some (.cells #[a, b, c, d, e, f, g, h, i, j, k, l] t (0, 0))) :
    w.cell? ⟨p, 0, none⟩ = some a ∧ w.cell? ⟨p, 1, none⟩ = some b ∧ w.cell? ⟨p, 2, none⟩ = some c ∧ w.cell? ⟨p, 3, none⟩ = some d ∧ w.cell? ⟨p, 4, none⟩ = some e ∧ w.cell? ⟨p, 5, none⟩ = some f ∧ w.cell? ⟨p, 6, none⟩ = some g ∧ w.cell? ⟨p, 7, none⟩ = some h ∧ w.cell? ⟨p, 8, none⟩ = some i ∧ w.cell? ⟨p, 9, none⟩ = some j ∧ w.cell? ⟨p, 10, none⟩ = some k ∧ w.cell? ⟨p, 11, none⟩ = some l := by
  simp [World.cell?, hh]
/-- The parts, for who only reads. -/
structure Parts (w : World) (p c l f : Nat) (Q : PS) : Prop where
  lt : p < w.heap.size
  chip : Held w c (fun _ => False) Q.S
  live : Tab w l (fun _ => False) Q.L
  fresh : Tab w f (fun _ => False) Q.F
  c0 : w.cell? ⟨p, 0, none⟩ = some (.pointer (some ⟨c, 0, none⟩))
  c1 : w.cell? ⟨p, 1, none⟩ = some (.int .i64 Q.B)
  c2 : w.cell? ⟨p, 2, none⟩ = some (.int .i64 Q.P)
  c3 : w.cell? ⟨p, 3, none⟩ = some (.int .i64 Q.Sp)
  c4 : w.cell? ⟨p, 4, none⟩ = some (.int .i64 Q.K)
  c5 : w.cell? ⟨p, 5, none⟩ = some (.int .i64 Q.U)
  c6 : w.cell? ⟨p, 6, none⟩ = some (.int .i64 Q.bad)
  c7 : w.cell? ⟨p, 7, none⟩ = some (.pointer (some ⟨l, 0, none⟩))
  c8 : w.cell? ⟨p, 8, none⟩ = some (.pointer (some ⟨f, 0, none⟩))
  c9 : w.cell? ⟨p, 9, none⟩ = some (.int .i64 Q.seq)
  c10 : w.cell? ⟨p, 10, none⟩ = some (.int .i64 Q.op)
  c11 : w.cell? ⟨p, 11, none⟩ = some (.bool Q.down)
  fr : ∀ j, w.frozen? ⟨p, j, none⟩ = false
theorem PoolAt.parts {l f : Nat} {X Y Z : Nat → Prop} (h1 : PoolAt w p c l f X Y Z Q) : Parts w p c l f Q := by
  obtain ⟨a0, a1, a2, a3, a4, a5, a6, a7, a8, a9, a10, a11⟩ := cells12 h1.self
  exact ⟨lt_size h1.self, h1.chip.less fun _ k => k.elim, h1.live.less fun _ k => k.elim, h1.fresh.less fun _ k => k.elim, a0, a1, a2, a3, a4, a5, a6, a7, a8, a9, a10, a11, fun j => by simp [World.frozen?, h1.self]⟩
theorem Pool.parts (h : Pool w p c x Q) : ∃ l f, Parts w p c l f Q := by
  obtain ⟨l, f, X, Y, Z, h1, -⟩ := h
  exact ⟨l, f, h1.parts⟩
theorem Parts.below {l f : Nat} (h : Parts w p c l f Q) (hb : Below w.heap.size w w') : Parts w' p c l f Q := by
  have hc : ∀ j v, w.cell? ⟨p, j, none⟩ = some v → w'.cell? ⟨p, j, none⟩ = some v := fun j v e => (hb.cell (p := ⟨p, j, none⟩) h.lt).trans e
  have hp := hb.block p h.lt
  exact ⟨Nat.lt_of_lt_of_le h.lt hb.size, h.chip.below hb, h.live.below hb, h.fresh.below hb, hc _ _ h.c0, hc _ _ h.c1, hc _ _ h.c2, hc _ _ h.c3, hc _ _ h.c4, hc _ _ h.c5, hc _ _ h.c6, hc _ _ h.c7, hc _ _ h.c8, hc _ _ h.c9, hc _ _ h.c10, hc _ _ h.c11, fun j => by have := h.fr j; simp only [World.frozen?] at this ⊢; rw [hp]; exact this⟩
theorem i64w_id (n : Int) (h : -9223372036854775808 ≤ n ∧ n ≤ 9223372036854775807) : IntKind.i64.wrap n = n := by rw [IntKind.wrap_i64]; omega
abbrev PtrV (p : Nat) : Value := .pointer (some ⟨p, 0, none⟩)
set_option maxRecDepth 100000 in
theorem q_is {l f : Nat} (h : Parts w p c l f Q) : Calls Tryz.prog 52 #[.pointer (some ⟨p, 0, none⟩)] w fun e w' => e = .returned (.bool true) ∧ w = w' := by
  have c0 := h.c0
  clear h
  go_enter Tryz.func52, Tryz.ntmps52
  go_wp2_with fail
  go_ret
  exact ⟨rfl, rfl⟩
set_option maxRecDepth 100000 in
theorem q_is_nil (w : World) : Calls Tryz.prog 52 #[.pointer none] w fun e w' => e = .returned (.bool false) ∧ w = w' := by
  go_enter Tryz.func52, Tryz.ntmps52
  go_wp2_with fail
  go_ret
  exact ⟨rfl, rfl⟩
end
end Go.Proofs.YtnadcdgpfopcaaaGreat
