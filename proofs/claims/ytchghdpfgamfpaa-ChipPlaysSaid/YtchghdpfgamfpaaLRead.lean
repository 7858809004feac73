/- The landed chip: Read. -/
import Derived.Test.YtchghdpfgamfpaaLPart
namespace Go.Proofs.Ytchghdpfgamfpaa
open Go.RowKit

/-- A page's bytes. -/
def pageL (S : LS) (b pg : Int) : List UInt8 := match S.bl[b.toNat]? with
  | none => []
  | some x => x.pages.getD pg.toNat []
def rdL (S : LS) (b pg : Int) : List UInt8 × Int × LS :=
  if hasL S b pg = false then ([], 1, S) else if S.dark = true then ([], 2, S) else (pageL S b pg, 0, { S with rd := wrap64 (S.rd + 1) })
def LReadPost (p q cap : Nat) (g : Nat → Nat) (C : Nat → Prop) (S : LS) (b pg : Int) (w : World) (e : Ending) (w' : World) : Prop :=
  ∃ A L, e = .returned (.tuple #[.slice A L.length L.length, .int .i64 (rdL S b pg).2.1]) ∧ Hid (L = (rdL S b pg).1) ∧ CB w' (fun k => w.heap.size ≤ k ∧ k < w'.heap.size) A L ∧ LAt w' p q cap g C (rdL S b pg).2.2 ∧ Turned (Own p q g C S.bl.length) w w'
section
variable {p q cap : Nat} {g : Nat → Nat} {C : Nat → Prop} {S : LS} {w : World}
theorem read_nil (b pg : Int) (w : World) : Calls Try.prog 14 #[.pointer none, .agg #[.int .i64 b, .int .i64 pg]] w fun e w' => e = .returned (.tuple #[.slice none 0 0, .int .i64 1]) ∧ Below w.heap.size w w' := by
  go_enter Try.func14, Try.ntmps14
  go_wp2_with (go_at_call 39; refine (has_nil b pg _).mono ?_; rintro e w1 ⟨rfl, hb1⟩)
  go_ret2
  exact ⟨rfl, ((Below.refl _ _).alloc (Nat.le_refl _) _).trans (hb1.mono (by simp))⟩
set_option maxRecDepth 100000 in
set_option maxHeartbeats 1000000 in
theorem read_any (b pg : Int) (h : LAt w p q cap g C S) : Calls Try.prog 14 #[.pointer (some ⟨p, 0, none⟩), .agg #[.int .i64 b, .int .i64 pg]] w (LReadPost p q cap g C S b pg w) := by
  cases hh : hasL S b pg with
  | false =>
    have e1 : rdL S b pg = ([], 1, S) := by simp [rdL, hh]
    have H1 := Lib.hid e1
    clear e1
    go_enter Try.func14, Try.ntmps14
    go_wp2_with (go_at_call 39; refine (has_any b pg (h.alloc _)).mono ?_; rintro e w1 ⟨rfl, hb1⟩; rw [hh])
    go_ret2
    unfold LReadPost
    rw [H1.out]
    exact ⟨none, [], rfl, rfl, .nil, (h.alloc _).below hb1, .of_below (((Below.refl _ _).alloc (Nat.le_refl _) _).trans (hb1.mono (by simp)))⟩
  | true =>
    obtain ⟨i, j, rfl, rfl, hi, hj⟩ := hasL_nats hh
    cases hd : S.dark with
    | true =>
      have e1 : rdL S i j = ([], 2, S) := by simp [rdL, hh, hd]
      have H1 := Lib.hid e1
      clear e1
      go_enter Try.func14, Try.ntmps14
      go_wp2_with (go_at_call 39; refine (has_any i j (h.alloc _)).mono ?_; rintro e w1 ⟨rfl, hb1⟩; rw [hh]; obtain ⟨c0, c1, c2, c3, c4, c5, c6, c7, c8, c9, c10, c11, c12⟩ := cells13 ((h.alloc _).below hb1).self; rw [hd] at c5)
      go_ret2
      unfold LReadPost
      rw [H1.out]
      exact ⟨none, [], rfl, rfl, .nil, (h.alloc _).below hb1, .of_below (((Below.refl _ _).alloc (Nat.le_refl _) _).trans (hb1.mono (by simp)))⟩
    | false =>
      have e1 : rdL S i j = (pageL S i j, 0, { S with rd := wrap64 (S.rd + 1) }) := by simp [rdL, hh, hd]
      have H1 := Lib.hid e1
      clear e1
      have hne := h.ne
      have hgp := h.gp i hi
      have hlt := h.lt
      go_enter Try.func14, Try.ntmps14
      go_wp2_with (go_at_call 39; refine (has_any i j (h.alloc _)).mono ?_; rintro e w1 ⟨rfl, hb1⟩; rw [hh]; have h1 := (h.alloc _).below hb1; obtain ⟨c0, c1, c2, c3, c4, c5, c6, c7, c8, c9, c10, c11, c12⟩ := cells13 h1.self; rw [hd] at c5; have f2 := frozen10 h1.self 2)
      have hsz : w.heap.size < w1.heap.size := Nat.lt_of_lt_of_le (by simp) hb1.size
      have h2 : LAt (w1.setCell ⟨p, 2, none⟩ (.int .i64 (wrap64 (S.rd + 1)))) p q cap g C { S with rd := wrap64 (S.rd + 1) } := h1.self_set rfl rfl rfl h.ints
      have d := (Below.heap_setCell w1 ⟨p, 2, none⟩ (.int .i64 (wrap64 (S.rd + 1))) w.heap.size (fun e => by have := hlt p (.inl rfl); have : w.heap.size = p := e; omega)).trans (box2 hb1)
      have hb2 : Turned (Own p q g C S.bl.length) w (w1.setCell ⟨p, 2, none⟩ (.int .i64 (wrap64 (S.rd + 1)))) := (Turned.of_below (((Below.refl _ _).alloc (Nat.le_refl _) _).trans (hb1.mono (by simp)))).setCell (fun _ => .inl rfl) _
      have H2 := Lib.hid h2
      have HB := Lib.hid hb2
      obtain ⟨w2, hw2⟩ : ∃ w2, w2 = w1.setCell ⟨p, 2, none⟩ (.int .i64 (wrap64 (S.rd + 1))) := ⟨_, rfl⟩
      rw [← hw2] at h2 d H2 HB ⊢
      clear c0 c1 c2 c3 c4 c5 c6 c7 c8 c9 c10 c11 c12 f2 h1 hb1 hb2 hw2 hlt hsz
      obtain ⟨c0, c1, c2, c3, c4, c5, c6, c7, c8, c9, c10, c11, c12⟩ := cells13 h2.self
      clear c1 c2 c3 c4 c5 c6 c7 c8 c9 c10 c11 c12
      obtain ⟨d0, d1, _, _⟩ := cells2' d
      have hbk := h2.blocks i hi
      have hrow := hbk.row
      obtain ⟨A, c, hpg, hlc, hl2, hcb⟩ := hbk.pages j (by rw [hbk.len]; exact hj)
      obtain ⟨l, hl⟩ : ∃ l, l = S.bl[i].pages[j]'(by rw [hbk.len]; exact hj) := ⟨_, rfl⟩
      have hls : pageL S i j = l := by
        rw [hl]
        simp [pageL, hi, (show j < S.bl[i].pages.length by rw [hbk.len]; exact hj)]
      have hpg' : w2.cell? ⟨g i, j, none⟩ = some (.slice A l.length c) := by rw [hl]; exact hpg
      have hcb' : CB w2 C A l := by rw [hl]; exact hcb
      have hl3 : l.length ≤ 140737488355328 := by rw [hl]; exact Nat.le_trans hl2 (by decide)
      have HL := Lib.hid hls
      have HC := Lib.hid hcb'
      have hl4 : l.length ≤ 2000 := by rw [hl]; exact hl2
      clear hls hpg hcb hl hbk hcb' hlc h2 h hl2
      have HV := Lib.hid (show Value.int .i64 2000 = .int .i64 ((2000 : Nat) : Int) from rfl)
      have hrb := HC.out.rb H2.out.cl
      go_region_with (go_at_call 40; (with_reducible refine (part_any A c l 2000 w2.drew w2.heap.size hrb.drew (Nat.le_refl _) hl3 _ HV.out).mono ?_); rintro e w3 ⟨A2, L, rfl, hL, hn⟩)
      all_goals
        go_wp2_with fail
        go_ret2
        unfold LReadPost
        rw [H1.out]
        refine ⟨A2, L, rfl, ?_, hn.1.keep (fun _ _ => rfl) (fun k hk => ⟨Nat.le_trans HB.out.size hk.1, hk.2⟩), H2.out.drew.below hn.2, HB.out.drew.trans (G := fun _ => False) (.of_below hn.2) (fun _ _ h => h.elim)⟩
        rw [hL.out, HL.out]
        exact List.take_of_length_le hl4
end
end Go.Proofs.Ytchghdpfgamfpaa
