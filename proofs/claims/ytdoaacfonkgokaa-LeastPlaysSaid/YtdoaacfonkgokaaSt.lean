/- The state of LeastPlays between two steps: a tally and the law's own map, side by side. -/
import Derived.Test.YtdoaacfonkgokaaBetween
namespace Go.Proofs.Ytdoaacfonkgokaa
open Go.RowKit Go.Maps

/-- The law's state: its tally at p (its map at ob) has the counts f, its own map at bw has the counts g. -/
structure St (B : Nat) (w : World) (p bw : Nat) (ob : Option Nat) (D : DataW Unit) (n : Nat) (f g : Int → Int) (wr : World) : Prop where
  tal : Tally_int wr p ob n f
  own : wr.ownsMap Try.prog 3 (plainElem Try.prog 3) bw n D
  val : ∀ k, D.atKey (.int .i64 k) (.lit (.int .i64 0)) = .lit (.int .i64 (g k))
  npb : p ≠ bw
  nob : ob ≠ some bw
  obB : ∀ b, ob = some b → B ≤ b
  pB : B ≤ p
  bB : B ≤ bw
  bel : Below B w wr
  siz : B ≤ wr.heap.size
  wf : ∀ k, f k ≠ 0 → (Lit.int .i64 k).wf = true
section
variable {B : Nat} {w : World} {p bw : Nat} {ob : Option Nat} {D : DataW Unit} {n : Nat} {f g : Int → Int} {wr : World}
theorem St.grown (h : St B w p bw ob D n f g wr) {w' : World} {row : Option Nat} (hg : wr.grownBy w' row) (h1 : some p ≠ row) (h2 : some bw ≠ row) (h3 : ∀ b, ob = some b → some b ≠ row) (h4 : ∀ k, row = some k → B ≤ k) : St B w p bw ob D n f g w' :=
  { h with
    tal := h.tal.kept (hg.block _ h.tal.lt.1 h1) fun b e => hg.block _ (h.tal.lt.2 b e) (h3 b e)
    own := h.own.kept hg h2
    bel := h.bel.grown hg h.siz h4
    siz := Nat.le_trans h.siz hg.size }
theorem St.alloc (h : St B w p bw ob D n f g wr) (o : Obj) : St B w p bw ob D n f g (wr.alloc o) :=
  h.grown (World.grownBy_alloc wr o none) (by simp) (by simp) (fun _ _ => by simp) (fun k e => by cases e)
theorem St.same (h : St B w p bw ob D n f g wr) {w' : World} (hh : w'.heap = wr.heap) (h1 : w'.os = wr.os) (h2 : w'.tape = wr.tape) (h3 : w'.output = wr.output) : St B w p bw ob D n f g w' :=
  { h with
    tal := h.tal.kept (by rw [hh]) fun b _ => by rw [hh]
    own := by obtain ⟨es, clock, he, rest⟩ := h.own; exact ⟨es, clock, by rw [hh]; exact he, rest⟩
    bel := ⟨h1.trans h.bel.os, h2.trans h.bel.tape, h3.trans h.bel.output, by rw [hh]; exact h.bel.size, fun k hk => by rw [hh]; exact h.bel.block k hk⟩
    siz := by rw [hh]; exact h.siz }
theorem St.drew (h : St B w p bw ob D n f g wr) : St B w p bw ob D n f g wr.drew := h.same rfl rfl rfl rfl
theorem St.look (h : St B w p bw ob D n f g wr) {k : Int} (hk : (Lit.int .i64 k).wf = true) : (Instr.lookup 26 (.map (some bw)) (.int .i64 k) false).run Try.prog wr = .ok (.int .i64 (g k)) wr := by
  obtain ⟨c, hrun, hat, _⟩ := h.own.lookup_int law_int Try.underlying26 Try.underlying3 (zero_int _) (key_int hk)
  rw [h.val k] at hat
  have : g k = c := by simpa using hat
  rw [this]
  exact hrun
theorem St.stored (h : St B w p bw ob D n f g wr) {k c : Int} {w' : World} (hk : (Lit.int .i64 k).wf = true) (ho : w'.ownsMap Try.prog 3 (plainElem Try.prog 3) bw (n + 1) (D.put (.int .i64 k) (.lit (.int .i64 c)))) (hg : wr.grownBy w' (some bw)) :
    St B w p bw ob (D.put (.int .i64 k) (.lit (.int .i64 c))) (n + 1) f (upd g k c) w' :=
  { tal := (h.tal.kept (hg.block _ h.tal.lt.1 (fun e => h.npb (by simpa using e))) fun b e => hg.block _ (h.tal.lt.2 b e) (fun e' => h.nob (e.trans e'))).mono (Nat.le_succ n)
    own := ho
    val := fun j => by
      by_cases e : j = k
      · subst e; rw [Maps.atKey_put_same (h.own.tidy law_int).isMap (law_int.key (key_int hk)), upd_same]
      · rw [Maps.atKey_put_other (fun e' => e (inj_int _ _ e')), upd_other _ e]; exact h.val j
    npb := h.npb, nob := h.nob, obB := h.obB, pB := h.pB, bB := h.bB
    bel := h.bel.grown hg h.siz (fun j e => by cases e; exact h.bB)
    siz := Nat.le_trans h.siz hg.size
    wf := h.wf }
theorem St.touched (h : St B w p bw ob D n f g wr) {ob' : Option Nat} {w' : World} {n' : Nat} {f' : Int → Int} (ht : Tally_int w' p ob' n' f') (hto : Touch p ob wr w') (hob : ∀ b, ob' = some b → ob = some b ∨ wr.heap.size ≤ b) (hn : n ≤ n') (hwf : ∀ k, f' k ≠ 0 → (Lit.int .i64 k).wf = true) :
    St B w p bw ob' D n' f' g w' := by
  have hbw := h.own.lt
  refine { tal := ht, own := ?_, val := h.val, npb := h.npb, nob := ?_, obB := ?_, pB := h.pB, bB := h.bB, bel := h.bel.trans (hto.below h.pB h.obB h.siz), siz := Nat.le_trans h.siz hto.size, wf := hwf }
  · obtain ⟨es, clock, he, rest⟩ := h.own.mono hn
    exact ⟨es, clock, (hto.block bw hbw (Ne.symm h.npb) (fun e => h.nob e.symm)).trans he, rest⟩
  · intro e
    rcases hob bw e with h1 | h1
    · exact h.nob h1
    · omega
  · intro b e
    rcases hob b e with h1 | h1
    · exact h.obB b h1
    · have := h.siz; omega
def AddSt (B : Nat) (w : World) (p bw : Nat) (ob : Option Nat) (D : DataW Unit) (n : Nat) (f g : Int → Int) (v : Int) (wr : World) (e : Ending) (w' : World) : Prop :=
  e = .returned (.int .i64 v) ∧ ∃ ob', St B w p bw ob' D n f g w' ∧ Touch p ob wr w'
theorem St.add (h : St B w p bw ob D n f g wr) {k : Int} (v : Int) (hk : (Lit.int .i64 k).wf = true) (hn : n < 1000000) :
    Calls Try.prog 11 #[.pointer (some ⟨p, 0, none⟩), .int .i64 k, .int .i64 v] wr (AddSt B w p bw ob D (n + 1) (upd f k (heldN (f k) v)) g (heldN (f k) v) wr) := by
  refine (add_int p ob n f k v wr h.tal hk hn).mono ?_
  rintro e w' ⟨rfl, ob', ht', hto, hob⟩
  refine ⟨rfl, ob', h.touched ht' hto hob (Nat.le_succ n) fun j hj => ?_, hto⟩
  by_cases e : j = k
  · rw [e]; exact hk
  · rw [upd_other _ e] at hj; exact h.wf j hj
theorem St.of_ (h : St B w p bw ob D n f g wr) {k : Int} (hk : (Lit.int .i64 k).wf = true) : Calls Try.prog 12 #[.pointer (some ⟨p, 0, none⟩), .int .i64 k] wr fun e w' => e = .returned (.int .i64 (f k)) ∧ wr = w' :=
  of_int p ob n f k wr h.tal hk
end
theorem st_start {w w1 : World} (h : NewPost_int w (.returned (.pointer (some ⟨w.heap.size, 0, none⟩))) w1) : St w.heap.size w w.heap.size w1.heap.size none (.map []) 0 (fun _ => 0) (fun _ => 0) (w1.alloc (.map #[] 0)) := by
  have hlt := h.2.1.lt.1
  exact {
    tal := h.2.1.below ((Below.refl _ _).alloc (Nat.le_refl _) _)
    own := World.ownsMap_made w1 _ _ _
    val := fun k => (cnt_empty (Lit.int .i64) k).1
    npb := by omega
    nob := by simp
    obB := fun b e => by cases e
    pB := Nat.le_refl _
    bB := by omega
    bel := h.2.2.alloc h.2.2.size _
    siz := by simp; omega
    wf := fun k hk => absurd rfl hk }
theorem held_high {n v : Int} (h1 : n ≤ 1099511627776) (h0 : 0 ≤ n) (h : 1099511627776 ≤ v) : heldN n v = 1099511627776 := by unfold heldN; split; rfl; rw [if_neg (by omega)]; omega
theorem held_low {n v : Int} (h1 : n ≤ 1099511627776) (h0 : 0 ≤ n) (h : v ≤ -1099511627776) : heldN n v = 0 := by unfold heldN; rw [if_neg (by omega)]; split; rfl; omega
theorem held_mid (n v : Int) : heldN n v = max 0 (min (n + v) 1099511627776) := by unfold heldN; split; omega; split <;> omega

end Go.Proofs.Ytdoaacfonkgokaa
