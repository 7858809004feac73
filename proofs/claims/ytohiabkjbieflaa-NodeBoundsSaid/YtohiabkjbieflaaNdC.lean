/- Rows of entries: appends as steps (out of name's EnC, which has slices.Concat besides: not both in one claim). -/
import Derived.Test.YtohiabkjbieflaaEnR
import Derived.Lib.AppendZeros
import Derived.Deep.RegionLaw
namespace Go.Proofs.Ytohiabkjbieflaa
open Go.RowKit

theorem own_none {w : World} {base c : Nat} {q : Option Addr} {l : List Ent} {n : Nat} (h : EOwn w base (.slice q n c) l) : q = none → c = 0 := fun e => by
  subst e
  rcases h.2 with ⟨e, _⟩ | ⟨g, cap, cur, e, _⟩
  · simp at e; exact e.2
  · simp at e
theorem elies_grown {w w' : World} {A : Option Addr} {l : List Ent} {row : Option Nat} (h : ELies w A l) (hg : w.grownBy w' row) (hn : ∀ ad, A = some ad → some ad.block ≠ row) : ELies w' A l := fun hp => by
  obtain ⟨B, o, rfl, hB, hc⟩ := h hp
  have hk := hg.block B hB (hn _ rfl)
  refine ⟨B, o, rfl, Nat.lt_of_lt_of_le hB hg.size, fun j hj => ?_⟩
  obtain ⟨h0, h1⟩ := hc j hj
  exact ⟨(World.cell?_of_block (a := ⟨B, o + j * 2, none⟩) hk).trans h0, (World.cell?_of_block (a := ⟨B, o + j * 2 + 1, none⟩) hk).trans h1⟩
theorem EOwn.grown {w0 w w' : World} {n : Nat} {v : Value} {xs : List Ent} (h : EOwn w n v xs) (hb : Below n w0 w) (hg : w.grownBy w' v.ownBlock) (hn : n ≤ w.heap.size) : Below n w0 w' := eown_below h hb hg hn
/-- An append as one step of a region that draws. -/
theorem step_eapp {w : World} {ops : Array Oper} {o : Oper} {a : Act} {K : Act → World → Prop} {Q : Exit → Act → World → Prop} {E : Prop} (hgd : o.guard = none) (s x : Operand) (ho : o.op = .call { callee := .builtin .append, args := #[s, x], argTypes := #[23, 23] })
    (base : Nat) (v : Value) (n : Nat) (xs : List Ent) (m : Nat) (l : List Ent) (A : Option Addr) (c : Nat) (hs : a.eval s = v) (hx : a.eval x = .slice A m c) (hn : xs.length = n) (hm : l.length = m) (hown : EOwn w base v xs) (hl : ELies w A l) (hA : A = none → l = [] ∧ c = 0) (h63 : n + m ≤ 100000) (hbase : base ≤ w.heap.size)
    (h : ∀ q cap w', EOwn w' base (.slice q (n + m) cap) (xs ++ l) → w.grownBy w' v.ownBlock → K (a.put o.dst (.slice q (n + m) cap)) w') :
    if Region.wanted o (yielded ops a.tmps) = true then Oper.wp Try.prog o a w K Q else E := by
  subst hn
  subst hm
  rw [if_pos (by simp [Region.wanted, hgd])]
  exact oper_eapp s x ho hs hx hown hl hA h63 hbase h
/-- As step_eapp, with the new length by name. -/
theorem step_eappT {w : World} {ops : Array Oper} {o : Oper} {a : Act} {K : Act → World → Prop} {Q : Exit → Act → World → Prop} {E : Prop} (hgd : o.guard = none) (s x : Operand) (ho : o.op = .call { callee := .builtin .append, args := #[s, x], argTypes := #[23, 23] })
    (base : Nat) (v : Value) (n : Nat) (xs : List Ent) (m : Nat) (l : List Ent) (A : Option Addr) (c t : Nat) (ht : n + m = t) (hs : a.eval s = v) (hx : a.eval x = .slice A m c) (hn : xs.length = n) (hm : l.length = m) (hown : EOwn w base v xs) (hl : ELies w A l) (hA : A = none → l = [] ∧ c = 0) (h63 : t ≤ 100000) (hbase : base ≤ w.heap.size)
    (h : ∀ q cap w', EOwn w' base (.slice q t cap) (xs ++ l) → w.grownBy w' v.ownBlock → K (a.put o.dst (.slice q t cap)) w') :
    if Region.wanted o (yielded ops a.tmps) = true then Oper.wp Try.prog o a w K Q else E := by
  subst ht
  exact step_eapp hgd s x ho base v n xs m l A c hs hx hn hm hown hl hA h63 hbase h
end Go.Proofs.Ytohiabkjbieflaa
