/- A row of refs of the call's own. -/
import Derived.Test.YtnadcdgpfopcaaaMoY
namespace Go.Proofs.Ytnadcdgpfopcaaa
open Go.RowKit

theorem wpList_append_at {P : Program} {w : World} {ops : Array Oper} {rest : List Oper} {o : Oper} {a : Act} {Q : Exit → Act → World → Prop} (hgd : o.guard = none) (s x : Operand) (t : TypeId)
    (ho : o.op = .call { callee := .builtin .append, args := #[s, x], argTypes := #[t, t] })
    (base : Nat) (e : TypeId) (i : TypeInfo) (z : Value) (size bytes : Nat) (ht : P.underlying t = some (.slice e)) (hi : P.info? e = some i) (hz : i.zero = some z)
    (hsize : i.size = size) (hby : i.bytes = bytes) (hzs : z.cells.size = size) (hsz : 0 < size)
    (v : Value) (n : Nat) (xs : List Value) (hs : a.eval s = v) (hown : w.ownsRow base e size v n xs)
    (ad : Addr) (m c : Nat) (news : List Value) (hx : a.eval x = .slice (some ad) m c) (hl : news.length = m * size) (hnews : ∀ j u, news[j]? = some u → w.cell? (ad.add j) = some u) (h1 : ∀ u ∈ news, u.oneCell' = true)
    (h63 : n + m ≤ maxLen) (hbytes : (n + m) * bytes ≤ 140737488355328) (hbase : base ≤ w.heap.size)
    (h : ∀ q cap w', w'.ownsRow base e size (.slice q (n + m) cap) (n + m) (xs ++ news) → w.grownBy w' v.ownBlock → ((Value.slice q (n + m) cap).ownBlock = v.ownBlock ∨ (Value.slice q (n + m) cap).ownBlock = some w.heap.size) → wpList P ops Q rest (a.put o.dst (.slice q (n + m) cap)) w') :
    wpList P ops Q (o :: rest) a w := by
  refine wpList_plain hgd fun _ hK => ?_
  obtain ⟨v', w', hr, h2, h3, _, h5⟩ := run_append_own_at (P := P) w base t o.type e i z size bytes ht hi hz hsize hby hzs hsz v n xs hown ad m c news hl hnews h1 h63 hbytes hbase
  obtain ⟨q, cap, rfl, _⟩ := own_slice h2
  unfold Oper.wp execOp
  simp only [ho, resolve, invoke, builtin, Sem.run_bind, Sem.run_pure, Result.andThen_ok, List.map_toArray, List.map_cons, List.map_nil, hs, hx, hr]
  exact hK _ _ (h q cap w' h2 h3 h5)
section
variable {w w' : World}
theorem info_ref : (Try.prog.info? 31).map (fun i => (i.zero, i.size, i.bytes)) = some (some (.agg #[.int .i64 0, .int .i64 0]), 2, 16) := by kernel_rfl
def rcells (l : List P2) : List Value := l.flatMap fun r => [.int .i64 r.1, .int .i64 r.2]
theorem rcells_len (l : List P2) : (rcells l).length = l.length * 2 := by
  induction l with
  | nil => rfl
  | cons r l ih => unfold rcells at ih ⊢; rw [List.flatMap_cons, List.length_append, ih]; simp; omega
theorem rcells_snoc (l : List P2) (r : P2) : rcells (l ++ [r]) = rcells l ++ [.int .i64 r.1, .int .i64 r.2] := by simp [rcells]
theorem rcells_get (l : List P2) : ∀ j (h : j < l.length), (rcells l)[j * 2]? = some (.int .i64 l[j].1) ∧ (rcells l)[j * 2 + 1]? = some (.int .i64 l[j].2) := by
  induction l with
  | nil => intro j h; cases h
  | cons r l ih =>
    intro j h
    have e : rcells (r :: l) = .int .i64 r.1 :: .int .i64 r.2 :: rcells l := by simp [rcells]
    rw [e]
    cases j with
    | zero => simp
    | succ j =>
      have := ih j (by simpa using h)
      rw [show (j + 1) * 2 = j * 2 + 1 + 1 by omega]
      simpa using this
/-- A row of refs of the call's own. -/
def ROwn (w : World) (base : Nat) (v : Value) (l : List P2) : Prop := w.ownsRow base 31 2 v l.length (rcells l)
theorem ROwn.nil (w : World) (base : Nat) : ROwn w base (.slice none 0 0) [] := World.ownsRow_nil _ _ _ _
theorem ROwn.keep {base : Nat} {v : Value} {l : List P2} (h : ROwn w base v l) (hb : Below w.heap.size w w') : ROwn w' base v l := own_keep h fun k e => hb.block k (World.ownsRow.lt h k e).2
theorem ROwn.lies {base m : Nat} {A : Option Addr} {l : List P2} (h : ROwn w base (.slice A l.length m) l) : RLies w A l ∧ (∀ ad, A = some ad → base ≤ ad.block ∧ ad.block < w.heap.size) := by
  refine ⟨fun hn => ?_, fun ad e => ?_⟩
  · rcases h.2 with ⟨_, e⟩ | ⟨g, cap, cur, e, _, hg, _⟩
    · omega
    · simp at e
      obtain ⟨rfl, _⟩ := e
      have hlt := World.ownsRow.lt h g rfl
      refine ⟨g, 0, rfl, hlt.2, fun j hj => ?_⟩
      obtain ⟨g0, g1⟩ := rcells_get l j hj
      have h' : w.ownsRow base 31 2 (.slice (some ⟨g, 0, none⟩) l.length m) l.length (rcells l) := h
      have k0 := World.ownsRow.cellAt h' (j * 2) (by omega)
      have k1 := World.ownsRow.cellAt h' (j * 2 + 1) (by omega)
      rw [Nat.zero_add, k0, k1]
      exact ⟨g0, g1⟩
  · subst e
    rcases h.2 with ⟨e2, _⟩ | ⟨g, cap, cur, e2, _⟩
    · simp at e2
    · simp at e2
      obtain ⟨rfl, _⟩ := e2
      exact World.ownsRow.lt h g rfl
end
end Go.Proofs.Ytnadcdgpfopcaaa
