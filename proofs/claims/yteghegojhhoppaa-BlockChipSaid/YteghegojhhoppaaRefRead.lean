/- The reference's chip: Read. -/
import Derived.Deep.RegionLaw
import Derived.Test.YteghegojhhoppaaHas
namespace Go.Proofs.Yteghegojhhoppaa
open Go.RowKit

/-- New bytes. -/
def NewB (w w' : World) (A : Option Addr) (l : List UInt8) : Prop := CB w' (fun k => w.heap.size ≤ k ∧ k < w'.heap.size) A l ∧ Below w.heap.size w w'
theorem NewB.of {w w' : World} {A : Option Addr} {n c : Nat} {l : List UInt8} {e : TypeId} (hn : n = l.length) (h : w'.ownsRow w.heap.size e 1 (.slice A n c) n (l.map ub)) (hb : Below w.heap.size w w') : NewB w w' A l := by
  subst hn
  refine ⟨fun hl => ?_, hb⟩
  obtain ⟨ad, ea, _, hc⟩ := (RB.of_own h) hl
  subst ea
  exact ⟨ad, rfl, h.lt ad.block rfl, hc⟩
theorem byte_info : ∃ i z, Try.prog.info? 5 = some i ∧ i.zero = some z ∧ i.size = 1 ∧ i.bytes = 1 ∧ z.cells.size = 1 := by
  have := info_byte
  cases h : Try.prog.info? 5 with
  | none => rw [h] at this; cases this
  | some i =>
    rw [h] at this
    simp at this
    exact ⟨i, _, rfl, this.1, this.2.1, this.2.2, rfl⟩
/-- append of any bytes to nil: new ones. -/
theorem run_append_new (w : World) (ty : TypeId) (B : Nat) (A : Option Addr) (c : Nat) (l : List UInt8) (hr : RB w B A l) (hl : l.length ≤ 140737488355328) :
    ∃ A2 c2 w', (Builtin.append_ #[43, 43] ty #[.slice none 0 0, .slice A l.length c]).run Try.prog w = .ok (.slice A2 l.length c2) w' ∧ l.length ≤ c2 ∧ NewB w w' A2 l := by
  obtain ⟨i, z, hi, hz0, hz1, hz2, hz3⟩ := byte_info
  have hown : w.ownsRow w.heap.size 5 1 (.slice none 0 0) ([] : List UInt8).length (([] : List UInt8).map ub) := ⟨by simp, .inl ⟨rfl, rfl⟩⟩
  obtain ⟨p, cap, w', hrun, hrow, hgr, _⟩ := run_append_bytes (P := Try.prog) w w.heap.size 43 ty 5 i z Try.underlying43 hi hz0 hz1 hz2 hz3 (.slice none 0 0) [] hown B A c l hr (by simpa using hl) (Nat.le_refl _)
  rw [List.nil_append] at hrun hrow
  obtain ⟨_, _, e, hc⟩ := own_slice hrow
  cases e
  exact ⟨p, cap, w', hrun, hc, .of rfl hrow ⟨hgr.os, hgr.tape, hgr.output, hgr.size, fun k hk => hgr.block k hk (fun e => by cases e)⟩⟩
theorem step_append_new {w : World} {ops : Array Oper} {o : Oper} {a : Act} {K : Act → World → Prop} {Q : Exit → Act → World → Prop} {E : Prop} (hgd : o.guard = none) (x : Operand)
    (ho : o.op = .call { callee := .builtin .append, args := #[.const (.slice none 0 0), x], argTypes := #[43, 43] })
    (B : Nat) (A : Option Addr) (m c : Nat) (l : List UInt8) (hm : m = l.length) (hx : a.eval x = .slice A m c) (hr : RB w B A l) (hl : l.length ≤ 140737488355328)
    (h : ∀ A2 c2 L w', Hid (L = l) → L.length ≤ c2 → NewB w w' A2 L → K (a.put o.dst (.slice A2 L.length c2)) w') :
    if Region.wanted o (yielded ops a.tmps) = true then Oper.wp Try.prog o a w K Q else E := by
  subst hm
  have hw : Region.wanted o (yielded ops a.tmps) = true := by simp [Region.wanted, hgd]
  rw [if_pos hw]
  obtain ⟨A2, c2, w', hrun, hc, hn⟩ := run_append_new w o.type B A c l hr hl
  have e0 : a.eval (.const (.slice none 0 0)) = .slice none 0 0 := rfl
  unfold Oper.wp execOp
  simp only [ho, resolve, invoke, builtin, Sem.run_bind, Sem.run_pure, Result.andThen_ok, List.map_toArray, List.map_cons, List.map_nil, hx, e0, hrun]
  exact h A2 c2 l w' rfl hc hn

/-- A page's bytes. -/
def pageS (S : CS) (b pg : Int) : List UInt8 := match S.bl[b.toNat]? with
  | none => []
  | some x => x.pages.getD pg.toNat []
def readS (S : CS) (b pg : Int) : List UInt8 × Int × CS :=
  if hasS S b pg = false then ([], 1, S) else if S.dark = true then ([], 2, S) else (pageS S b pg, 0, { S with rd := wrap64 (S.rd + 1) })
theorem box2 {w w' : World} {x y : Value} {t : TypeId} (h : Below (w.alloc (.cells #[x, y] t)).heap.size (w.alloc (.cells #[x, y] t)) w') : w'.heap[w.heap.size]? = some (.cells #[x, y] t (0, 0)) := by
  rw [h.block _ (by simp), heap_alloc_new]
theorem cells2' {w : World} {p : Nat} {a b : Value} {t : TypeId} (h : w.heap[p]? = some (.cells #[a, b] t (0, 0))) : w.cell? ⟨p, 0, none⟩ = some a ∧ w.cell? ⟨p, 1, none⟩ = some b ∧ w.frozen? ⟨p, 0, none⟩ = false ∧ w.frozen? ⟨p, 1, none⟩ = false := by
  simp [World.cell?, World.frozen?, h]
theorem has_nats {S : CS} {b pg : Int} (h : hasS S b pg = true) : ∃ i j : Nat, b = i ∧ pg = j ∧ i < S.bl.length ∧ j < S.np := by
  simp [hasS] at h
  exact ⟨b.toNat, pg.toNat, by omega, by omega, by omega, by omega⟩
section
variable {p q cap : Nat} {g : Nat → Nat} {C : Nat → Prop} {S : CS} {w : World}
end
end Go.Proofs.Yteghegojhhoppaa
