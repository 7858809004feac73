/- Two tallies side by side; what counts add up to; an append onto a slice of the call's own as one step of a region that draws its order. -/
import Derived.Test.YtdoaacfonkgokaaBetween
import Derived.Test.YtdoaacfonkgokaaKeys
import Derived.Laws.AppendOwnNone
import Derived.Deep.RegionLaw
namespace Go.Proofs.Ytdoaacfonkgokaa
open Go.RowKit Go.Maps

/-- Two tallies, at p and at q, that lie apart, both the law's own. -/
structure TT (B : Nat) (w : World) (p q : Nat) (ob oc : Option Nat) (n m : Nat) (f g : Int → Int) (wr : World) : Prop where
  t1 : Tally_int wr p ob n f
  t2 : Tally_int wr q oc m g
  ne : p ≠ q
  dj : ∀ b, ob = some b → oc ≠ some b
  o1 : ∀ b, ob = some b → B ≤ b
  o2 : ∀ b, oc = some b → B ≤ b
  p1 : B ≤ p
  p2 : B ≤ q
  bel : Below B w wr
  siz : B ≤ wr.heap.size
section
variable {B : Nat} {w : World} {p q : Nat} {ob oc : Option Nat} {n m : Nat} {f g : Int → Int} {wr : World}
theorem map_not_row {w : World} {p q : Nat} {ob : Option Nat} {n : Nat} {f : Int → Int} {cs : Array Value} {t : TypeId} {fr : Nat × Nat} (h : Tally_int w p ob n f) (hq : w.heap[q]? = some (.cells cs t fr)) : ∀ b, ob = some b → q ≠ b := by
  intro b e e'
  subst e'
  rcases h.2.2 with ⟨h0, _⟩ | ⟨b', D, h0, ⟨es, clock, he, _⟩, _⟩
  · rw [h0] at e; cases e
  · rw [h0] at e; cases e
    rw [hq] at he; cases he
theorem TT.below (h : TT B w p q ob oc n m f g wr) {w' : World} (hb : Below wr.heap.size wr w') : TT B w p q ob oc n m f g w' :=
  { h with t1 := h.t1.below hb, t2 := h.t2.below hb, bel := h.bel.trans (hb.mono h.siz), siz := Nat.le_trans h.siz hb.size }
theorem TT.alloc (h : TT B w p q ob oc n m f g wr) (o : Obj) : TT B w p q ob oc n m f g (wr.alloc o) := h.below ((Below.refl _ _).alloc (Nat.le_refl _) o)
theorem TT.drew (h : TT B w p q ob oc n m f g wr) : TT B w p q ob oc n m f g wr.drew := h.below (Below.refl _ _).drew
theorem TT.swap (h : TT B w p q ob oc n m f g wr) : TT B w q p oc ob m n g f wr :=
  { t1 := h.t2, t2 := h.t1, ne := Ne.symm h.ne, dj := fun b e e' => h.dj b e' e, o1 := h.o2, o2 := h.o1, p1 := h.p2, p2 := h.p1, bel := h.bel, siz := h.siz }
def AddTT (B : Nat) (w : World) (p q : Nat) (ob oc : Option Nat) (n m : Nat) (f g : Int → Int) (v : Int) (wr : World) (e : Ending) (w' : World) : Prop :=
  e = .returned (.int .i64 v) ∧ ∃ ob', TT B w p q ob' oc n m f g w' ∧ Touch p ob wr w'
theorem TT.add (h : TT B w p q ob oc n m f g wr) {k : Int} (v : Int) (hk : (Lit.int .i64 k).wf = true) (hn : n < 1000000) :
    Calls Try.prog 11 #[.pointer (some ⟨p, 0, none⟩), .int .i64 k, .int .i64 v] wr (AddTT B w p q ob oc (n + 1) m (upd f k (heldN (f k) v)) g (heldN (f k) v) wr) := by
  refine (add_int p ob n f k v wr h.t1 hk hn).mono ?_
  rintro e w' ⟨rfl, ob', ht', hto, hob⟩
  have hq := h.t2.lt.1
  refine ⟨rfl, ob', { h with t1 := ht', t2 := ?_, dj := ?_, o1 := ?_, bel := h.bel.trans (hto.below h.p1 h.o1 h.siz), siz := Nat.le_trans h.siz hto.size }, hto⟩
  · refine h.t2.kept (hto.block _ hq (Ne.symm h.ne) (fun e => map_not_row h.t1 h.t2.1 q e.symm rfl)) fun b e => hto.block _ (h.t2.lt.2 b e) (fun e' => map_not_row h.t2 h.t1.1 b e e'.symm) (fun e' => h.dj b e'.symm e)
  · intro b e e'
    rcases hob b e with h1 | h1
    · exact h.dj b h1 e'
    · have := h.t2.lt.2 b e'; omega
  · intro b e
    rcases hob b e with h1 | h1
    · exact h.o1 b h1
    · have := h.siz; omega
theorem TT.of1 (h : TT B w p q ob oc n m f g wr) {k : Int} (hk : (Lit.int .i64 k).wf = true) : Calls Try.prog 12 #[.pointer (some ⟨p, 0, none⟩), .int .i64 k] wr fun e w' => e = .returned (.int .i64 (f k)) ∧ wr = w' :=
  of_int p ob n f k wr h.t1 hk
end
theorem TT.start {w w1 w2 : World} (h1 : NewPost_int w (.returned (.pointer (some ⟨w.heap.size, 0, none⟩))) w1) (h2 : NewPost_int w1 (.returned (.pointer (some ⟨w1.heap.size, 0, none⟩))) w2) : TT w.heap.size w w.heap.size w1.heap.size none none 0 0 (fun _ => 0) (fun _ => 0) w2 := by
  have := h1.2.1.lt.1
  exact { t1 := h1.2.1.below h2.2.2, t2 := h2.2.1, ne := by omega, dj := fun b e => by cases e
          o1 := fun b e => by cases e
          o2 := fun b e => by cases e
          p1 := Nat.le_refl _
          p2 := by omega
          bel := h1.2.2.trans (h2.2.2.mono h1.2.2.size)
          siz := Nat.le_trans h1.2.2.size h2.2.2.size }

/-- What the list l adds up to at the key k, n less than 1000 each. -/
def sumAt (l : List (Int × Int)) (k : Int) : Int := match l with
  | [] => 0
  | x :: r => (if k = x.1 then IntKind.u64.wrap x.2 % 1000 else 0) + sumAt r k
theorem sumAt_append (l r : List (Int × Int)) (k : Int) : sumAt (l ++ r) k = sumAt l k + sumAt r k := by
  induction l with
  | nil => simp [sumAt]
  | cons x l ih => simp only [List.cons_append, sumAt, ih]; omega
theorem sumAt_turn (l : List (Int × Int)) (n : Nat) : sumAt (l.drop n ++ l.take n) = sumAt l := by
  funext k
  rw [sumAt_append, Int.add_comm, ← sumAt_append, List.take_append_drop]
theorem u64_rng (x : Int) : 0 ≤ IntKind.u64.wrap x ∧ IntKind.u64.wrap x ≤ 18446744073709551615 := by
  have e : IntKind.u64.wrap x = x % 18446744073709551616 := by unfold IntKind.wrap; rfl
  rw [e]; omega
theorem sumAt_range (l : List (Int × Int)) (k : Int) : 0 ≤ sumAt l k ∧ sumAt l k ≤ 999 * l.length := by
  induction l with
  | nil => simp [sumAt]
  | cons x l ih =>
    have := (u64_rng x.2).1
    simp only [sumAt, List.length_cons]
    split <;> omega
theorem sumAt_step (l : List (Int × Int)) (j : Nat) (h : j < l.length) (hl : l.length ≤ 100) :
    upd (sumAt (l.take j)) l[j].1 (heldN (sumAt (l.take j) l[j].1) (IntKind.u64.wrap l[j].2 % 1000)) = sumAt (l.take (j + 1)) := by
  have h1 := sumAt_range (l.take j) l[j].1
  have h2 : (l.take j).length ≤ 100 := by simp; omega
  have h3 := (u64_rng l[j].2).1
  have e : heldN (sumAt (l.take j) l[j].1) (IntKind.u64.wrap l[j].2 % 1000) = sumAt (l.take j) l[j].1 + IntKind.u64.wrap l[j].2 % 1000 := by
    unfold heldN; rw [if_neg (by omega), if_neg (by omega)]
  funext k
  rw [e, take_more l j h, sumAt_append]
  unfold upd
  simp only [sumAt]
  split
  · rename_i hk; rw [hk]; omega
  · omega

/-- append onto a slice of the call's own, as one step of a region that draws. -/
theorem step_append_any {P : Program} {w : World} {ops : Array Oper} {o : Oper} {a : Act} {K : Act → World → Prop} {Q : Exit → Act → World → Prop} {E : Prop} (hgd : o.guard = none) (s x : Operand) (t : TypeId)
    (ho : o.op = .call { callee := .builtin .append, args := #[s, x], argTypes := #[t, t] })
    (base : Nat) (e : TypeId) (i : TypeInfo) (z : Value) (size bytes : Nat) (ht : P.underlying t = some (.slice e)) (hi : P.info? e = some i) (hz : i.zero = some z)
    (hsize : i.size = size) (hby : i.bytes = bytes) (hzs : z.cells.size = size) (hsz : 0 < size)
    (v : Value) (n : Nat) (xs : List Value) (hs : a.eval s = v) (hown : w.ownsRow base e size v n xs)
    (A : Option Addr) (m c : Nat) (news : List Value) (hx : a.eval x = .slice A m c) (hl : news.length = m * size) (hA : A = none → m = 0 ∧ c = 0) (hnews : ∀ ad, A = some ad → ∀ j u, news[j]? = some u → w.cell? (ad.add j) = some u) (h1 : ∀ u ∈ news, u.oneCell' = true)
    (h63 : n + m ≤ maxLen) (hbytes : (n + m) * bytes ≤ 140737488355328) (hbase : base ≤ w.heap.size)
    (h : ∀ q cap w', w'.ownsRow base e size (.slice q (n + m) cap) (n + m) (xs ++ news) → w.grownBy w' v.ownBlock → K (a.put o.dst (.slice q (n + m) cap)) w') :
    if Region.wanted o (yielded ops a.tmps) = true then Oper.wp P o a w K Q else E := by
  have hw : Region.wanted o (yielded ops a.tmps) = true := by simp [Region.wanted, hgd]
  rw [if_pos hw]
  cases A with
  | some ad =>
    obtain ⟨v', w', hr, h2, h3, _⟩ := run_append_own (P := P) (w := w) base t o.type e i z size bytes ht hi hz hsize hby hzs hsz v n xs hown ad m c news hl (hnews ad rfl) h1 h63 hbytes hbase
    obtain ⟨q, cap, rfl⟩ := own_slice h2
    unfold Oper.wp execOp
    simp only [ho, resolve, invoke, builtin, Sem.run_bind, Sem.run_pure, Result.andThen_ok, List.map_toArray, List.map_cons, List.map_nil, hs, hx, hr]
    exact h q cap w' h2 h3
  | none =>
    obtain ⟨rfl, rfl⟩ := hA rfl
    have hnil : news = [] := List.eq_nil_of_length_eq_zero (by simpa using hl)
    subst hnil
    have hr := run_append_owned_none (P := P) (w := w) base t o.type e i size ht hi v n xs hown
    obtain ⟨q, cap, rfl⟩ := own_slice hown
    unfold Oper.wp execOp
    simp only [ho, resolve, invoke, builtin, Sem.run_bind, Sem.run_pure, Result.andThen_ok, List.map_toArray, List.map_cons, List.map_nil, hs, hx, hr]
    exact h q cap w (by simpa using hown) ⟨rfl, rfl, rfl, Nat.le_refl _, fun _ _ _ => rfl⟩
end Go.Proofs.Ytdoaacfonkgokaa
