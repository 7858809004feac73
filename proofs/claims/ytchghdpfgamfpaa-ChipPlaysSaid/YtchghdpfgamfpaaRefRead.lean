/- The reference's chip: Read. -/
import Derived.Deep.RegionLaw
import Derived.Test.YtchghdpfgamfpaaHas
namespace Go.Proofs.Ytchghdpfgamfpaa
open Go.RowKit

/-- New bytes. -/
def NewB (w w' : World) (A : Option Addr) (l : List UInt8) : Prop := CB w' (fun k => w.heap.size ≤ k ∧ k < w'.heap.size) A l ∧ Below w.heap.size w w'
theorem NewB.of {w w' : World} {A : Option Addr} {n c : Nat} {l : List UInt8} {e : TypeId} (hn : n = l.length) (h : w'.ownsRow w.heap.size e 1 (.slice A n c) n (l.map ub)) (hb : Below w.heap.size w w') : NewB w w' A l := by
  subst hn
  refine ⟨fun hl => ?_, hb⟩
  obtain ⟨ad, ea, _, hc⟩ := (RB.of_own h) hl
  subst ea
  exact ⟨ad, rfl, h.lt ad.block rfl, hc⟩
theorem byte_info : ∃ i z, Try.prog.info? 5 = some i ∧ i.zero = some z ∧ i.size = 1 ∧ i.bytes = 1 ∧ z.cells.size = 1 := by
  have := info_byte
  cases h : Try.prog.info? 5 with
  | none => rw [h] at this; cases this
  | some i =>
    rw [h] at this
    simp at this
    exact ⟨i, _, rfl, this.1, this.2.1, this.2.2, rfl⟩
/-- append of any bytes to nil: new ones. -/
theorem run_append_new (w : World) (ty : TypeId) (B : Nat) (A : Option Addr) (c : Nat) (l : List UInt8) (hr : RB w B A l) (hl : l.length ≤ 140737488355328) :
    ∃ A2 c2 w', (Builtin.append_ #[32, 32] ty #[.slice none 0 0, .slice A l.length c]).run Try.prog w = .ok (.slice A2 l.length c2) w' ∧ l.length ≤ c2 ∧ NewB w w' A2 l := by
  obtain ⟨i, z, hi, hz0, hz1, hz2, hz3⟩ := byte_info
  have hown : w.ownsRow w.heap.size 5 1 (.slice none 0 0) ([] : List UInt8).length (([] : List UInt8).map ub) := ⟨by simp, .inl ⟨rfl, rfl⟩⟩
  obtain ⟨p, cap, w', hrun, hrow, hgr, _⟩ := run_append_bytes (P := Try.prog) w w.heap.size 32 ty 5 i z Try.underlying32 hi hz0 hz1 hz2 hz3 (.slice none 0 0) [] hown B A c l hr (by simpa using hl) (Nat.le_refl _)
  rw [List.nil_append] at hrun hrow
  obtain ⟨_, _, e, hc⟩ := own_slice hrow
  cases e
  exact ⟨p, cap, w', hrun, hc, .of rfl hrow ⟨hgr.os, hgr.tape, hgr.output, hgr.size, fun k hk => hgr.block k hk (fun e => by cases e)⟩⟩
theorem step_append_new {w : World} {ops : Array Oper} {o : Oper} {a : Act} {K : Act → World → Prop} {Q : Exit → Act → World → Prop} {E : Prop} (hgd : o.guard = none) (x : Operand)
    (ho : o.op = .call { callee := .builtin .append, args := #[.const (.slice none 0 0), x], argTypes := #[32, 32] })
    (B : Nat) (A : Option Addr) (m c : Nat) (l : List UInt8) (hm : m = l.length) (hx : a.eval x = .slice A m c) (hr : RB w B A l) (hl : l.length ≤ 140737488355328)
    (h : ∀ A2 c2 L w', Hid (L = l) → L.length ≤ c2 → NewB w w' A2 L → K (a.put o.dst (.slice A2 L.length c2)) w') :
    if Region.wanted o (yielded ops a.tmps) = true then Oper.wp Try.prog o a w K Q else E := by
  subst hm
  have hw : Region.wanted o (yielded ops a.tmps) = true := by simp [Region.wanted, hgd]
  rw [if_pos hw]
  obtain ⟨A2, c2, w', hrun, hc, hn⟩ := run_append_new w o.type B A c l hr hl
  have e0 : a.eval (.const (.slice none 0 0)) = .slice none 0 0 := rfl
  unfold Oper.wp execOp
  simp only [ho, resolve, invoke, builtin, Sem.run_bind, Sem.run_pure, Result.andThen_ok, List.map_toArray, List.map_cons, List.map_nil, hx, e0, hrun]
  exact h A2 c2 l w' rfl hc hn

/-- A page's bytes. -/
def pageS (S : CS) (b pg : Int) : List UInt8 := match S.bl[b.toNat]? with
  | none => []
  | some x => x.pages.getD pg.toNat []
def readS (S : CS) (b pg : Int) : List UInt8 × Int × CS :=
  if hasS S b pg = false then ([], 1, S) else if S.dark = true then ([], 2, S) else (pageS S b pg, 0, { S with rd := wrap64 (S.rd + 1) })
def ReadPost (p q cap : Nat) (g : Nat → Nat) (C : Nat → Prop) (S : CS) (b pg : Int) (w : World) (e : Ending) (w' : World) : Prop :=
  ∃ A c L, e = .returned (.tuple #[.slice A L.length c, .int .i64 (readS S b pg).2.1]) ∧ Hid (L = (readS S b pg).1) ∧ L.length ≤ c ∧ CB w' (fun k => w.heap.size ≤ k ∧ k < w'.heap.size) A L ∧ ChipAt w' p q cap g C (readS S b pg).2.2 ∧ Turned (Own p q g C S.bl.length) w w'
theorem box2 {w w' : World} {x y : Value} {t : TypeId} (h : Below (w.alloc (.cells #[x, y] t)).heap.size (w.alloc (.cells #[x, y] t)) w') : w'.heap[w.heap.size]? = some (.cells #[x, y] t (0, 0)) := by
  rw [h.block _ (by simp), heap_alloc_new]
theorem cells2' {w : World} {p : Nat} {a b : Value} {t : TypeId} (h : w.heap[p]? = some (.cells #[a, b] t (0, 0))) : w.cell? ⟨p, 0, none⟩ = some a ∧ w.cell? ⟨p, 1, none⟩ = some b ∧ w.frozen? ⟨p, 0, none⟩ = false ∧ w.frozen? ⟨p, 1, none⟩ = false := by
  simp [World.cell?, World.frozen?, h]
theorem has_nats {S : CS} {b pg : Int} (h : hasS S b pg = true) : ∃ i j : Nat, b = i ∧ pg = j ∧ i < S.bl.length ∧ j < S.np := by
  simp [hasS] at h
  exact ⟨b.toNat, pg.toNat, by omega, by omega, by omega, by omega⟩
section
variable {p q cap : Nat} {g : Nat → Nat} {C : Nat → Prop} {S : CS} {w : World}
set_option maxRecDepth 100000 in
set_option maxHeartbeats 1000000 in
theorem read_ref (b pg : Int) (h : ChipAt w p q cap g C S) : Calls Try.prog 15 #[.pointer (some ⟨p, 0, none⟩), .agg #[.int .i64 b, .int .i64 pg]] w (ReadPost p q cap g C S b pg w) := by
  cases hh : hasS S b pg with
  | false =>
    have e1 : readS S b pg = ([], 1, S) := by simp [readS, hh]
    have H1 := Lib.hid e1
    clear e1
    go_enter Try.func15, Try.ntmps15
    go_wp2_with (go_at_call 41; refine (has_ref b pg (h.alloc _)).mono ?_; rintro e w1 ⟨rfl, hb1⟩; rw [hh])
    go_ret2
    unfold ReadPost
    rw [H1.out]
    exact ⟨none, 0, [], rfl, rfl, Nat.le_refl _, .nil, (h.alloc _).below hb1, .of_below (((Below.refl _ _).alloc (Nat.le_refl _) _).trans (hb1.mono (by simp)))⟩
  | true =>
    obtain ⟨i, j, rfl, rfl, hi, hj⟩ := has_nats hh
    cases hd : S.dark with
    | true =>
      have e1 : readS S i j = ([], 2, S) := by simp [readS, hh, hd]
      have H1 := Lib.hid e1
      clear e1
      go_enter Try.func15, Try.ntmps15
      go_wp2_with (go_at_call 41; refine (has_ref i j (h.alloc _)).mono ?_; rintro e w1 ⟨rfl, hb1⟩; rw [hh]; obtain ⟨c0, c1, c2, c3, c4, c5, c6, c7, c8, c9⟩ := cells10 ((h.alloc _).below hb1).self; rw [hd] at c6)
      go_ret2
      unfold ReadPost
      rw [H1.out]
      exact ⟨none, 0, [], rfl, rfl, Nat.le_refl _, .nil, (h.alloc _).below hb1, .of_below (((Below.refl _ _).alloc (Nat.le_refl _) _).trans (hb1.mono (by simp)))⟩
    | false =>
      have e1 : readS S i j = (pageS S i j, 0, { S with rd := wrap64 (S.rd + 1) }) := by simp [readS, hh, hd]
      have H1 := Lib.hid e1
      clear e1
      have hne := h.ne
      have hgp := h.gp i hi
      have hlt := h.lt
      go_enter Try.func15, Try.ntmps15
      go_wp2_with (go_at_call 41; refine (has_ref i j (h.alloc _)).mono ?_; rintro e w1 ⟨rfl, hb1⟩; rw [hh]; have h1 := (h.alloc _).below hb1; obtain ⟨c0, c1, c2, c3, c4, c5, c6, c7, c8, c9⟩ := cells10 h1.self; rw [hd] at c6; have f7 := frozen10 h1.self 7)
      have hsz : w.heap.size < w1.heap.size := Nat.lt_of_lt_of_le (by simp) hb1.size
      have h2 : ChipAt (w1.setCell ⟨p, 7, none⟩ (.int .i64 (wrap64 (S.rd + 1)))) p q cap g C { S with rd := wrap64 (S.rd + 1) } := h1.self_set rfl rfl rfl h.ints
      have d := (Below.heap_setCell w1 ⟨p, 7, none⟩ (.int .i64 (wrap64 (S.rd + 1))) w.heap.size (fun e => by have := hlt p (.inl rfl); have : w.heap.size = p := e; omega)).trans (box2 hb1)
      have hb2 : Turned (Own p q g C S.bl.length) w (w1.setCell ⟨p, 7, none⟩ (.int .i64 (wrap64 (S.rd + 1)))) := (Turned.of_below (((Below.refl _ _).alloc (Nat.le_refl _) _).trans (hb1.mono (by simp)))).setCell (fun _ => .inl rfl) _
      have H2 := Lib.hid h2
      have HB := Lib.hid hb2
      obtain ⟨w2, hw2⟩ : ∃ w2, w2 = w1.setCell ⟨p, 7, none⟩ (.int .i64 (wrap64 (S.rd + 1))) := ⟨_, rfl⟩
      rw [← hw2] at h2 d H2 HB ⊢
      clear c0 c1 c2 c3 c4 c5 c6 c7 c8 c9 f7 h1 hb1 hb2 hw2 hlt hsz
      obtain ⟨c0, c1, c2, c3, c4, c5, c6, c7, c8, c9⟩ := cells10 h2.self
      clear c1 c2 c3 c4 c5 c6 c7 c8 c9
      obtain ⟨d0, d1, _, _⟩ := cells2' d
      have hbk := h2.blocks i hi
      have hrow := hbk.row
      obtain ⟨A, c, hpg, hlc, hl2, hcb⟩ := hbk.pages j (by rw [hbk.len]; exact hj)
      obtain ⟨l, hl⟩ : ∃ l, l = S.bl[i].pages[j]'(by rw [hbk.len]; exact hj) := ⟨_, rfl⟩
      have hls : pageS S i j = l := by
        rw [hl]
        simp [pageS, hi, (show j < S.bl[i].pages.length by rw [hbk.len]; exact hj)]
      have hpg' : w2.cell? ⟨g i, j, none⟩ = some (.slice A l.length c) := by rw [hl]; exact hpg
      have hcb' : CB w2 C A l := by rw [hl]; exact hcb
      have hl3 : l.length ≤ 140737488355328 := by rw [hl]; exact Nat.le_trans hl2 (by decide)
      have HL := Lib.hid hls
      have HC := Lib.hid hcb'
      clear hls hpg hcb hl hbk hcb' hlc h2 h hl2
      go_region_law (refine step_append_new (by rfl) (.tmp 37) (by rfl) w2.heap.size A _ c l rfl (by rfl) (HC.out.rb H2.out.cl) hl3 ?_; intro A2 c2 L w3 hL hc2 hn)
      all_goals
        go_wp2_with fail
        go_ret2
        unfold ReadPost
        rw [H1.out]
        exact ⟨A2, c2, L, rfl, by rw [hL.out]; exact HL.out.symm, hc2, hn.1.keep (fun _ _ => rfl) (fun k hk => ⟨Nat.le_trans HB.out.size hk.1, hk.2⟩), H2.out.drew.below hn.2, HB.out.drew.trans (G := fun _ => False) (.of_below hn.2) (fun _ _ h => h.elim)⟩
end
end Go.Proofs.Ytchghdpfgamfpaa
