/- Tables in a round: what the loop itself turns leaves them. -/
import Derived.Test.YtnadcdgpfopcaaaMoN
import Derived.Test.YtnadcdgpfopcaaaMoL
namespace Go.Proofs.Ytnadcdgpfopcaaa
open Go.RowKit Go.Maps

section
variable {w w' : World} {G B : Nat} {x : Nat → Prop} {Ts : Nat → List Fd} {p : Nat → Nat} {O : Nat → Nat → Prop}
theorem Tabs.books {row : Option Nat} (h : Tabs w G B x Ts p O) (hg : w.grownBy w' row) (hr : ∀ r, row = some r → x r) (hGx : ¬ x G) : Tabs w' G B (fun b => x b ∨ New w w' b) Ts p O := by
  have hs := hg.size
  have hGr : row ≠ some G := fun e => hGx (hr G e)
  refine ⟨fun b hb => (World.cell?_of_block (hg.block G h.lt fun e => hGr e.symm)).trans (h.row b hb), fun b hb => ?_, h.apart, fun b k hb ho => ?_, by have := h.lt; omega, fun b hb => hb.elim (fun k => by have := h.there b k; omega) fun k => k.2⟩
  · have hx1 : ∀ X : Nat → Prop, Tab w' (p b) (fun k => (k < w.heap.size ∧ ¬ O b k) ∨ (w.heap.size ≤ k ∧ k < w'.heap.size)) (Ts b) → Tab w' (p b) (fun k => k < w'.heap.size ∧ ¬ O b k) (Ts b) := fun _ h1 => h1.less fun k hk => by
      rcases Nat.lt_or_ge k w.heap.size with k1 | k1
      · exact .inl ⟨k1, hk.2⟩
      · exact .inr ⟨k1, hk.1⟩
    cases row with
    | none => exact hx1 x ((h.tab b hb).grow (turned_grown hg |>.mono' fun _ e => by cases e))
    | some r =>
      have k := hr r rfl
      exact hx1 x ((h.tab b hb).grow ((turned_grown hg).mono' fun i e => by cases e; exact ⟨h.there r k, fun ho => (h.own b r hb ho).2.2 k⟩))
  · obtain ⟨a1, a2, a3⟩ := h.own b k hb ho
    exact ⟨by omega, a2, fun hx => hx.elim a3 fun k2 => by have := k2.1; omega⟩
/-- In a round: the tables, apart from what there was at first; what there was at first stands. -/
def TInv (W0 w6 : World) (G Bs B : Nat) (Ts : Nat → List Fd) (V : World) : Prop :=
  (∃ p O, Tabs V G B (fun b => ((b < W0.heap.size ∧ b ≠ G) ∨ b = Bs) ∨ (w6.heap.size ≤ b ∧ b ≤ w6.heap.size + 1 ∧ b < V.heap.size)) Ts p O) ∧ Safe (fun b => (b < W0.heap.size ∧ b ≠ G) ∨ b = Bs) w6 V
theorem TInv.books {W0 w6 V V' : World} {Bs : Nat} {row : Option Nat} (h : TInv W0 w6 G Bs B Ts V) (hg : V.grownBy V' row) (hr : ∀ r, row = some r → r = w6.heap.size ∨ r = w6.heap.size + 1) (hBs : Bs < w6.heap.size) (hGB : G ≠ Bs) (hG : G < w6.heap.size) (hW0 : W0.heap.size ≤ w6.heap.size) : TInv W0 w6 G Bs B Ts V' := by
  obtain ⟨⟨p, O, h1⟩, h2⟩ := h
  obtain ⟨row', hg', hr'⟩ : ∃ row', V.grownBy V' row' ∧ ∀ r, row' = some r → (r = w6.heap.size ∨ r = w6.heap.size + 1) ∧ r < V.heap.size := by
    cases row with
    | none => exact ⟨none, hg, fun _ e => by cases e⟩
    | some r =>
      by_cases hl : r < V.heap.size
      · exact ⟨some r, hg, fun r' e => by cases e; exact ⟨hr r rfl, hl⟩⟩
      · exact ⟨none, ⟨hg.os, hg.tape, hg.output, hg.size, fun k hk _ => hg.block k hk fun e => by cases e; exact hl hk⟩, fun _ e => by cases e⟩
  refine ⟨⟨p, O, (h1.books hg' (fun r e => .inr ?_) ?_).less fun b hb => ?_⟩, h2.then ((turned_grown hg').mono' fun b e hx => ?_)⟩
  · obtain ⟨k1, k2⟩ := hr' r e
    exact ⟨by omega, by omega, k2⟩
  · rintro ((⟨-, k⟩ | k) | ⟨k, -⟩)
    · exact k rfl
    · exact hGB k
    · omega
  · rcases hb with hb | ⟨b1, b2, b3⟩
    · exact .inl (.inl hb)
    · rcases Nat.lt_or_ge b V.heap.size with k | k
      · exact .inl (.inr ⟨b1, b2, k⟩)
      · exact .inr ⟨k, b3⟩
  · obtain ⟨k1, -⟩ := hr' b e
    rcases hx with ⟨hx, -⟩ | hx <;> omega
theorem back_bare (n Bs cap : Nat) (A : Option Addr) (fd : List Fd) (hlen : fd.length ≤ 100000) (w : World) (hl : Bs < w.heap.size) (hBs : w.cell? ⟨Bs, 0, none⟩ = some (.slice A fd.length cap)) (hF : FLies w A fd) :
    SeqBare Fence.wide n Try.prog 66 #[.pointer (some ⟨Bs, 0, none⟩)] (encB fd) (BKeep Bs A) (fun ys => ys = backL fd) (fun pre => pre <+: backL fd) (backL fd).length w :=
  fun l J Jx W hW hY h0 => back_in n l Bs cap A fd hlen J Jx hY W ((hW.cell (p := ⟨Bs, 0, none⟩) hl).trans hBs) (hF.below hW) h0
end
end Go.Proofs.Ytnadcdgpfopcaaa
