/- A pool: clean, due (written by mkc4.py). -/
import Derived.Test.YtnadcdgpfopcaaaGreatPoC3
namespace Go.Proofs.YtnadcdgpfopcaaaGreat
open Go.RowKit

theorem cleans_mem (l : List Bk) : ∀ i ∈ cleansB l, ∃ k : Nat, k < l.length ∧ i = (k : Int) := by
  have key : ∀ (l : List Bk) (b : Nat), ∀ i ∈ cleansFrom b l, ∃ k : Nat, k < b + l.length ∧ i = (k : Int) := by
    intro l
    induction l with
    | nil => intro b i hi; cases hi
    | cons x r ih =>
      intro b i hi
      unfold cleansFrom at hi
      split at hi
      · rcases List.mem_cons.1 hi with e | e
        · exact ⟨b, by simp, e⟩
        · obtain ⟨k, h1, h2⟩ := ih _ i e
          exact ⟨k, by simp; omega, h2⟩
      · obtain ⟨k, h1, h2⟩ := ih _ i hi
        exact ⟨k, by simp; omega, h2⟩
  intro i hi
  obtain ⟨k, h1, h2⟩ := key l 0 i hi
  exact ⟨k, by omega, h2⟩
/-- Of the first j clean ones all but the open one. -/
def inTo (l : List Bk) (op : Int) (j : Nat) : List Bool := ((cleansB l).take j).foldl (fun a i => a.set i.toNat (i != op)) (List.replicate l.length false)
theorem fold_len (L : List Int) (op : Int) : ∀ a : List Bool, (L.foldl (fun a i => a.set i.toNat (i != op)) a).length = a.length := by
  induction L with
  | nil => intro a; rfl
  | cons x r ih => intro a; rw [List.foldl_cons, ih, List.length_set]
theorem inTo_len (l : List Bk) (op : Int) (j : Nat) : (inTo l op j).length = l.length := by unfold inTo; rw [fold_len, List.length_replicate]
theorem inTo_zero (l : List Bk) (op : Int) : inTo l op 0 = List.replicate l.length false := rfl
theorem inTo_all (l : List Bk) (op : Int) : inTo l op (cleansB l).length = inClean l op := by unfold inTo inClean; rw [List.take_length]
theorem inTo_next {l : List Bk} {op : Int} {j k : Nat} (h : j < (cleansB l).length) (e : (cleansB l)[j] = (k : Int)) : inTo l op (j + 1) = (inTo l op j).set k ((k : Int) != op) := by
  unfold inTo
  rw [List.take_succ_eq_append_getElem h, List.foldl_append, e]
  rfl
section
variable {w w' : World} {p c l f : Nat} {x X Y Z : Nat → Prop} {Q : PS} {T : List Fd}
theorem turned_below {F : Nat → Prop} {n : Nat} {a b : World} (hb : Below n w a) (ht : Turned F a b) (hn : n ≤ a.heap.size) (hF : ∀ k, F k → n ≤ k) : Below n w b :=
  ⟨ht.os.trans hb.os, ht.tape.trans hb.tape, ht.output.trans hb.output, Nat.le_trans hb.size ht.size, fun i hi => (ht.block i (Nat.lt_of_lt_of_le hi hn) fun k => by have := hF i k; omega).trans (hb.block i hi)⟩
theorem ia_turned {F : Nat → Prop} {a b : World} {A : Option Addr} {L : List Int} (h : IA a A L) (ht : Turned F a b) (hF : ∀ ad, A = some ad → ¬ F ad.block) : IA b A L := fun hn => by
  obtain ⟨B, o, e, hB, hc⟩ := h hn
  have := ht.block B hB (hF _ e)
  exact ⟨B, o, e, Nat.lt_of_lt_of_le hB ht.size, fun j hj => (World.cell?_of_block (a := ⟨B, o + j, none⟩) this).trans (hc j hj)⟩
theorem blies_turned {F : Nat → Prop} {a b : World} {A : Option Addr} {L : List Bk} (h : BLies a A L) (ht : Turned F a b) (hF : ∀ ad, A = some ad → ¬ F ad.block) : BLies b A L := fun hn => by
  obtain ⟨B, o, e, hB, hc⟩ := h hn
  exact ⟨B, o, e, Nat.lt_of_lt_of_le hB ht.size, fun j hj => (hc j hj).kept (ht.block B hB (hF _ e))⟩
theorem roomy_all (ad : Addr) (n : Nat) : Roomy (some ad) n n := ⟨Nat.le_refl _, fun e => by cases e⟩
theorem cold_n {n : Nat} (A A' : Option Addr) (c c' : Nat) (C : List Int) (b : List Bool) (w : World) (h1 : C.length = n) (h2 : b.length = n) (hn : n ≤ 1000) (hA : IA w A C) (hA' : BA w A' b) (hw : ∀ x ∈ C, (Lit.int .i64 x).wf = true) (hR : Roomy A' c' n) :
    Calls Tryz.prog 147 #[.slice A n c, .slice A' n c'] w fun e w' => e = .returned (.int .i64 (coldP (C.zip b))) ∧ Below w.heap.size w w' := by
  have := cold_any A A' c c' C b w (by omega) (by omega) hA hA' hw (by rw [h2]; exact hR)
  rw [h1, h2] at this; exact this
theorem hot_n {n : Nat} (A A' : Option Addr) (c c' : Nat) (C : List Int) (b : List Bool) (w : World) (h1 : C.length = n) (h2 : b.length = n) (hn : n ≤ 1000) (hA : IA w A C) (hA' : BA w A' b) (hw : ∀ x ∈ C, (Lit.int .i64 x).wf = true) (hR : Roomy A' c' n) :
    Calls Tryz.prog 188 #[.slice A n c, .slice A' n c'] w fun e w' => e = .returned (.int .i64 (hotP (C.zip b))) ∧ Below w.heap.size w w' := by
  have := hot_any A A' c c' C b w (by omega) (by omega) hA hA' hw (by rw [h2]; exact hR)
  rw [h1, h2] at this; exact this
theorem due_n {n : Nat} (A A' : Option Addr) (c c' : Nat) (C : List Int) (b : List Bool) (w : World) (most : Int) (hm : (Lit.int .i64 most).wf = true) (h1 : C.length = n) (h2 : b.length = n) (hn : n ≤ 1000) (hA : IA w A C) (hA' : BA w A' b) (hw : ∀ x ∈ C, (Lit.int .i64 x).wf = true) (hR : Roomy A' c' n) :
    Calls Tryz.prog 195 #[.slice A n c, .slice A' n c', .int .i64 most] w fun e w' => e = .returned (.int .i64 (dueP (C.zip b) most)) ∧ Below w.heap.size w w' := by
  have := due_any A A' c c' C b w (by omega) (by omega) hA hA' hw (by rw [h2]; exact hR) most hm
  rw [h1, h2] at this; exact this
abbrev pickV (hot : Bool) : Value := if hot = true then .func (.func 188) #[] #[] else .func (.func 147) #[] #[]
set_option maxRecDepth 100000 in
set_option maxHeartbeats 2000000 in
theorem q_cold (h : Parts w p c l f Q) (ok : Ok Q) : Calls Tryz.prog 146 #[.pointer (some ⟨p, 0, none⟩), .func (.func 147) #[] #[]] w fun e w' => e = .returned (.int .i64 (Q.clean false)) ∧ Below w.heap.size w w' := by
  have HP := Lib.hid h
  have HB1 : Hid (1 ≤ Q.S.bl.length) := Lib.hid (by have := ok.lenN; omega)
  have HLn : Hid (Q.S.bl.length ≤ 1000) := Lib.hid (by have := ok.lenN; omega)
  have c0 := h.c0
  have hmk := fun w1 : World => make_bools Q.S.bl.length (by have := ok.lenN; omega) w1
  have HW : Hid (∀ x ∈ Q.counts, (Lit.int .i64 x).wf = true) := Lib.hid fun x hx => by
    obtain ⟨b, hb, rfl⟩ := List.mem_map.1 hx
    exact ok.cnt b hb
  have HE := Lib.hid (made_bools Q.S.bl.length)
  have HM := Lib.hid (cleans_mem Q.S.bl)
  have HC : Hid (Q.clean false = coldP (Q.counts.zip (inClean Q.S.bl Q.op))) := Lib.hid rfl
  have hcl := cleans_le Q.S.bl
  have hln := HLn.out
  clear h ok
  go_enter Tryz.func146, Tryz.ntmps146
  go_upto_region 3 with (go_at_call 21; refine (held_blocks HP.out.chip HB1.out).mono ?_; rintro e w1 ⟨g, cap, rfl, hl1, hb1⟩; have HL1 := Lib.hid hl1; have HBw1 := Lib.hid hb1; clear hl1 hb1)
  rw [HE.out]
  obtain ⟨G, hG⟩ : ∃ G, G = w1.heap.size := ⟨_, rfl⟩
  have HX0 := Lib.hid (heap_alloc_new w1 (.cells ((List.replicate Q.S.bl.length false).map Value.bool).toArray 4))
  have HB0 := Lib.hid (HBw1.out.alloc HBw1.out.size (.cells ((List.replicate Q.S.bl.length false).map Value.bool).toArray 4))
  have HL2 := Lib.hid (HL1.out.below ((Below.refl _ _).alloc (Nat.le_refl _) (.cells ((List.replicate Q.S.bl.length false).map Value.bool).toArray 4)))
  have HG : Hid (w.heap.size ≤ G) := Lib.hid (by rw [hG]; exact HBw1.out.size)
  have HgG : Hid (¬ g = G) := Lib.hid (by obtain ⟨B, o, e, hB, -⟩ := HL1.out (by have := HB1.out; omega); cases e; omega)
  rw [← hG] at HX0 ⊢
  generalize w1.alloc (.cells _ 4) = w2 at HX0 HB0 HL2 ⊢
  clear hmk hG HL1 HBw1
  go_wp2_with (go_at_call 75; refine (cleans_any _ _ _ _ HLn.out HL2.out).mono ?_; rintro e w3 ⟨A2, m2, rfl, hc2, ha2, hb2⟩; have HX3 := Lib.hid ((hb2.block G (lt_size HX0.out)).trans HX0.out); have HB3 := Lib.hid (HB0.out.trans (hb2.mono HB0.out.size)); have HL3 := Lib.hid (HL2.out.below hb2); have HC3 := Lib.hid hc2; have HA3 : Hid (∀ ad, A2 = some ad → ¬ ad.block = G) := Lib.hid (fun ad e => by have := ha2 ad e; have := lt_size HX0.out; omega); clear hc2 ha2 hb2)
  have HT0 := Lib.hid (Turned.refl (fun b => b = G) w3)
  have hs3 := HB3.out.size
  go_loopw [8, 20] (fun _ v20 wr => ∃ j : Nat, j ≤ (cleansB Q.S.bl).length ∧ v20 = .int .i64 j ∧ wr.heap[G]? = some (.cells ((inTo Q.S.bl Q.op j).map Value.bool).toArray 4 (0, 0)) ∧ Turned (fun b => b = G) w3 wr) (fun _ v20 _ => (cleansB Q.S.bl).length - (intOf v20).toNat)
  case atStart => exact ⟨0, Nat.zero_le _, rfl, by rw [inTo_zero]; exact HX3.out, HT0.out⟩
  case round =>
    obtain ⟨j, hj, rfl, hx, hT⟩ := hrel
    have HX := Lib.hid hx
    have HT := Lib.hid hT
    have HB := Lib.hid (turned_below HB3.out hT hs3 (fun k e => by rw [e]; exact HG.out))
    clear hx hT
    by_cases hj1 : j < (cleansB Q.S.bl).length
    · obtain ⟨B, o, rfl, hBs, hc⟩ := (ia_turned HC3.out HT.out fun ad e => HA3.out ad e) (by omega)
      have k0 := hc j hj1
      obtain ⟨k, hk, hke⟩ := HM.out _ (List.getElem_mem hj1)
      have hkl : k < (inTo Q.S.bl Q.op j).length := by rw [inTo_len]; exact hk
      have HN := Lib.hid (inTo_next (op := Q.op) hj1 hke)
      rw [hke] at k0
      have q0 := brow_cell HX.out k hkl
      have q1 := row_frozen HX.out k
      have c10 := (HP.out.below HB.out).c10
      have HXN := Lib.hid (brow_set HX.out k ((k : Int) != Q.op))
      rw [← HN.out] at HXN
      clear hc hke
      generalize (inTo Q.S.bl Q.op j)[k] = old at q0
      go_wp2_with fail
      go_roundw
      case rel => exact ⟨j + 1, by omega, by go_num, HXN.out, HT.out.setCell (fun _ => rfl) _⟩
      case measure => simp [intOf]; omega
    · obtain rfl : j = (cleansB Q.S.bl).length := by omega
      have HZ := Lib.hid (inTo_all Q.S.bl Q.op)
      have HLr := Lib.hid (blies_turned HL3.out HT.out fun ad e => by cases e; exact HgG.out)
      have HI : Hid (BA wr (some ⟨G, 0, none⟩) (inClean Q.S.bl Q.op)) := Lib.hid (by rw [← HZ.out]; exact brow_arr HX.out)
      have hlen : Hid (Q.S.bl.length = (inClean Q.S.bl Q.op).length) := Lib.hid (by rw [← HZ.out, inTo_len])
      have hcn : Hid (Q.counts.length = Q.S.bl.length) := Lib.hid (by simp [PS.counts])
      go_wp2_with (first
        | (go_at_call 78; (with_reducible refine (counts_any _ _ _ _ HLn.out HLr.out).mono ?_); rintro e w4 ⟨A4, m4, rfl, hc4, ha4, hb4⟩; have HC4 := Lib.hid hc4; have HB4 := Lib.hid hb4; clear hc4 ha4 hb4)
        | (go_at_call 147; (with_reducible refine (cold_n _ _ _ _ Q.counts (inClean Q.S.bl Q.op) _ hcn.out hlen.out.symm HLn.out HC4.out (HI.out.below HB4.out) HW.out (roomy_all _ _)).mono ?_); rintro e w5 ⟨rfl, hb5⟩))
      go_ret
      exact ⟨ret_int HC.out.symm, (HB.out.trans (HB4.out.mono HB.out.size)).trans (hb5.mono (Nat.le_trans HB.out.size HB4.out.size))⟩
set_option maxRecDepth 100000 in
set_option maxHeartbeats 2000000 in
theorem q_hot (h : Parts w p c l f Q) (ok : Ok Q) : Calls Tryz.prog 146 #[.pointer (some ⟨p, 0, none⟩), .func (.func 188) #[] #[]] w fun e w' => e = .returned (.int .i64 (Q.clean true)) ∧ Below w.heap.size w w' := by
  have HP := Lib.hid h
  have HB1 : Hid (1 ≤ Q.S.bl.length) := Lib.hid (by have := ok.lenN; omega)
  have HLn : Hid (Q.S.bl.length ≤ 1000) := Lib.hid (by have := ok.lenN; omega)
  have c0 := h.c0
  have hmk := fun w1 : World => make_bools Q.S.bl.length (by have := ok.lenN; omega) w1
  have HW : Hid (∀ x ∈ Q.counts, (Lit.int .i64 x).wf = true) := Lib.hid fun x hx => by
    obtain ⟨b, hb, rfl⟩ := List.mem_map.1 hx
    exact ok.cnt b hb
  have HE := Lib.hid (made_bools Q.S.bl.length)
  have HM := Lib.hid (cleans_mem Q.S.bl)
  have HC : Hid (Q.clean true = hotP (Q.counts.zip (inClean Q.S.bl Q.op))) := Lib.hid rfl
  have hcl := cleans_le Q.S.bl
  have hln := HLn.out
  clear h ok
  go_enter Tryz.func146, Tryz.ntmps146
  go_upto_region 3 with (go_at_call 21; refine (held_blocks HP.out.chip HB1.out).mono ?_; rintro e w1 ⟨g, cap, rfl, hl1, hb1⟩; have HL1 := Lib.hid hl1; have HBw1 := Lib.hid hb1; clear hl1 hb1)
  rw [HE.out]
  obtain ⟨G, hG⟩ : ∃ G, G = w1.heap.size := ⟨_, rfl⟩
  have HX0 := Lib.hid (heap_alloc_new w1 (.cells ((List.replicate Q.S.bl.length false).map Value.bool).toArray 4))
  have HB0 := Lib.hid (HBw1.out.alloc HBw1.out.size (.cells ((List.replicate Q.S.bl.length false).map Value.bool).toArray 4))
  have HL2 := Lib.hid (HL1.out.below ((Below.refl _ _).alloc (Nat.le_refl _) (.cells ((List.replicate Q.S.bl.length false).map Value.bool).toArray 4)))
  have HG : Hid (w.heap.size ≤ G) := Lib.hid (by rw [hG]; exact HBw1.out.size)
  have HgG : Hid (¬ g = G) := Lib.hid (by obtain ⟨B, o, e, hB, -⟩ := HL1.out (by have := HB1.out; omega); cases e; omega)
  rw [← hG] at HX0 ⊢
  generalize w1.alloc (.cells _ 4) = w2 at HX0 HB0 HL2 ⊢
  clear hmk hG HL1 HBw1
  go_wp2_with (go_at_call 75; refine (cleans_any _ _ _ _ HLn.out HL2.out).mono ?_; rintro e w3 ⟨A2, m2, rfl, hc2, ha2, hb2⟩; have HX3 := Lib.hid ((hb2.block G (lt_size HX0.out)).trans HX0.out); have HB3 := Lib.hid (HB0.out.trans (hb2.mono HB0.out.size)); have HL3 := Lib.hid (HL2.out.below hb2); have HC3 := Lib.hid hc2; have HA3 : Hid (∀ ad, A2 = some ad → ¬ ad.block = G) := Lib.hid (fun ad e => by have := ha2 ad e; have := lt_size HX0.out; omega); clear hc2 ha2 hb2)
  have HT0 := Lib.hid (Turned.refl (fun b => b = G) w3)
  have hs3 := HB3.out.size
  go_loopw [8, 20] (fun _ v20 wr => ∃ j : Nat, j ≤ (cleansB Q.S.bl).length ∧ v20 = .int .i64 j ∧ wr.heap[G]? = some (.cells ((inTo Q.S.bl Q.op j).map Value.bool).toArray 4 (0, 0)) ∧ Turned (fun b => b = G) w3 wr) (fun _ v20 _ => (cleansB Q.S.bl).length - (intOf v20).toNat)
  case atStart => exact ⟨0, Nat.zero_le _, rfl, by rw [inTo_zero]; exact HX3.out, HT0.out⟩
  case round =>
    obtain ⟨j, hj, rfl, hx, hT⟩ := hrel
    have HX := Lib.hid hx
    have HT := Lib.hid hT
    have HB := Lib.hid (turned_below HB3.out hT hs3 (fun k e => by rw [e]; exact HG.out))
    clear hx hT
    by_cases hj1 : j < (cleansB Q.S.bl).length
    · obtain ⟨B, o, rfl, hBs, hc⟩ := (ia_turned HC3.out HT.out fun ad e => HA3.out ad e) (by omega)
      have k0 := hc j hj1
      obtain ⟨k, hk, hke⟩ := HM.out _ (List.getElem_mem hj1)
      have hkl : k < (inTo Q.S.bl Q.op j).length := by rw [inTo_len]; exact hk
      have HN := Lib.hid (inTo_next (op := Q.op) hj1 hke)
      rw [hke] at k0
      have q0 := brow_cell HX.out k hkl
      have q1 := row_frozen HX.out k
      have c10 := (HP.out.below HB.out).c10
      have HXN := Lib.hid (brow_set HX.out k ((k : Int) != Q.op))
      rw [← HN.out] at HXN
      clear hc hke
      generalize (inTo Q.S.bl Q.op j)[k] = old at q0
      go_wp2_with fail
      go_roundw
      case rel => exact ⟨j + 1, by omega, by go_num, HXN.out, HT.out.setCell (fun _ => rfl) _⟩
      case measure => simp [intOf]; omega
    · obtain rfl : j = (cleansB Q.S.bl).length := by omega
      have HZ := Lib.hid (inTo_all Q.S.bl Q.op)
      have HLr := Lib.hid (blies_turned HL3.out HT.out fun ad e => by cases e; exact HgG.out)
      have HI : Hid (BA wr (some ⟨G, 0, none⟩) (inClean Q.S.bl Q.op)) := Lib.hid (by rw [← HZ.out]; exact brow_arr HX.out)
      have hlen : Hid (Q.S.bl.length = (inClean Q.S.bl Q.op).length) := Lib.hid (by rw [← HZ.out, inTo_len])
      have hcn : Hid (Q.counts.length = Q.S.bl.length) := Lib.hid (by simp [PS.counts])
      go_wp2_with (first
        | (go_at_call 78; (with_reducible refine (counts_any _ _ _ _ HLn.out HLr.out).mono ?_); rintro e w4 ⟨A4, m4, rfl, hc4, ha4, hb4⟩; have HC4 := Lib.hid hc4; have HB4 := Lib.hid hb4; clear hc4 ha4 hb4)
        | (go_at_call 188; (with_reducible refine (hot_n _ _ _ _ Q.counts (inClean Q.S.bl Q.op) _ hcn.out hlen.out.symm HLn.out HC4.out (HI.out.below HB4.out) HW.out (roomy_all _ _)).mono ?_); rintro e w5 ⟨rfl, hb5⟩))
      go_ret
      exact ⟨ret_int HC.out.symm, (HB.out.trans (HB4.out.mono HB.out.size)).trans (hb5.mono (Nat.le_trans HB.out.size HB4.out.size))⟩
theorem counts_n (A : Option Addr) (c : Nat) (Q : PS) (w : World) (hl : Q.S.bl.length ≤ 1000) (hA : BLies w A Q.S.bl) : Calls Tryz.prog 78 #[.slice A Q.S.bl.length c] w fun e w' => ∃ A4 m4, e = .returned (.slice A4 Q.S.bl.length m4) ∧ IA w' A4 Q.counts ∧ (∀ ad, A4 = some ad → w.heap.size ≤ ad.block) ∧ Below w.heap.size w w' := by
  have := counts_any A c Q.S.bl w hl hA
  unfold RowPost at this
  simpa [PS.counts] using this
set_option maxRecDepth 100000 in
set_option maxHeartbeats 2000000 in
theorem good_row (A : Option Addr) (c : Nat) (l : List Bk) (w : World) (hl : l.length ≤ 1000) (hA : BLies w A l) : Calls Tryz.prog 79 #[.slice A l.length c] w fun e w' => ∃ G, e = .returned (.slice (some ⟨G, 0, none⟩) l.length l.length) ∧ w'.heap[G]? = some (.cells ((l.map fun b : Bk => !b.bad).map Value.bool).toArray 4 (0, 0)) ∧ w.heap.size ≤ G ∧ Below w.heap.size w w' := by
  have HA := Lib.hid hA
  clear hA
  have hmk := fun w1 : World => make_bools l.length (by omega) w1
  have HX0 := Lib.hid (heap_alloc_new w (.cells (madeCells #[Value.bool false] l.length) 4))
  have HB0 := Lib.hid ((Below.refl w.heap.size w).alloc (Nat.le_refl _) (.cells (madeCells #[Value.bool false] l.length) 4))
  have HE := Lib.hid (made_bools l.length)
  go_enter Tryz.func79, Tryz.ntmps79
  go_wp2_with fail
  rw [HE.out] at HX0 HB0 ⊢
  obtain ⟨G, hG⟩ : ∃ G, G = w.heap.size := ⟨_, rfl⟩
  have HG := Lib.hid hG
  rw [← hG] at HX0 ⊢
  generalize w.alloc (.cells _ 4) = w1 at HX0 HB0 ⊢
  clear hmk hG
  go_loopw [4, 11] (fun _ v11 wr => ∃ j : Nat, j ≤ l.length ∧ v11 = .int .i64 j ∧ wr.heap[G]? = some (.cells ((fillL (fun b : Bk => !b.bad) false l j).map Value.bool).toArray 4 (0, 0)) ∧ Below w.heap.size w wr) (fun _ v11 _ => l.length - (intOf v11).toNat)
  case atStart => exact ⟨0, Nat.zero_le _, rfl, by rw [fill_zero]; exact HX0.out, HB0.out⟩
  case round =>
    obtain ⟨j, hj, rfl, hx, hB⟩ := hrel
    have HX := Lib.hid hx
    have HB := Lib.hid hB
    have hs := hB.size
    have hGs := (Array.getElem?_eq_some_iff.1 hx).1
    clear hx hB
    by_cases hj1 : j < l.length
    · obtain ⟨B, o, rfl, hBs, hc⟩ := HA.out (by omega)
      obtain ⟨k0, k1, k2, A1, n1, c1, k3⟩ := (hc j hj1).kept (HB.out.block B hBs)
      have hjf : j < (fillL (fun b : Bk => !b.bad) false l j).length := by rw [fill_length _ _ _ _ hj]; exact hj1
      have HW1 := fun cs : Array Value => Lib.hid ((Below.refl wr.heap.size wr).alloc (Nat.le_refl _) (.cells cs 101))
      clear hc
      have HN := Lib.hid (fill_set (fun b : Bk => !b.bad) false l j hj1)
      generalize l[j] = b at k0 k1 k2 HN
      have hx2 : (wr.alloc (.cells #[.bool b.bad, .int .i64 b.next, .int .i64 b.count, .slice A1 n1 c1] 101)).heap[G]? = some (.cells ((fillL (fun b : Bk => !b.bad) false l j).map Value.bool).toArray 4 (0, 0)) := (heap_alloc_oldX _ _ hGs).trans HX.out
      have q0 := brow_cell hx2 j hjf
      have q1 := row_frozen hx2 j
      have HXN := Lib.hid (brow_set HX.out j (((fun b : Bk => !b.bad) : Bk → _) b))
      rw [HN.out] at HXN
      clear hx2
      generalize (fillL (fun b : Bk => !b.bad) false l j)[j] = old at q0
      go_wp2_with fail
      go_roundw
      case rel => exact ⟨j + 1, by omega, by go_num, (heap_alloc_oldX _ _ (by simpa using hGs)).trans HXN.out, (HB.out.setCell (p := ⟨G, j, none⟩) (by rw [HG.out]; exact Nat.le_refl _) _).alloc (by simp; omega) _⟩
      case measure => simp [intOf]; omega
    · obtain rfl : j = l.length := by omega
      have HZ := Lib.hid (fill_all (fun b : Bk => !b.bad) false l)
      go_wp2_with fail
      go_ret
      exact ⟨G, rfl, by rw [← HZ.out]; exact HX.out, by rw [HG.out]; exact Nat.le_refl _, HB.out⟩
set_option maxRecDepth 100000 in
set_option maxHeartbeats 2000000 in
theorem q_due (h : Parts w p c l f Q) (ok : Ok Q) : Calls Tryz.prog 187 #[.pointer (some ⟨p, 0, none⟩)] w fun e w' => e = .returned (.int .i64 Q.due) ∧ Below w.heap.size w w' := by
  have HP := Lib.hid h
  have HB1 : Hid (1 ≤ Q.S.bl.length) := Lib.hid (by have := ok.lenN; omega)
  have HLn : Hid (Q.S.bl.length ≤ 1000) := Lib.hid (by have := ok.lenN; omega)
  have HW : Hid (∀ x ∈ Q.counts, (Lit.int .i64 x).wf = true) := Lib.hid fun x hx => by
    obtain ⟨b, hb, rfl⟩ := List.mem_map.1 hx
    exact ok.cnt b hb
  have HU : Hid ((Lit.int .i64 Q.U).wf = true) := Lib.hid (wf_of (by have := ok.may.2.2.2.2; omega))
  have HcN : Hid (Q.counts.length = Q.S.bl.length) := Lib.hid (by simp [PS.counts])
  have HiN : Hid ((inDue Q.S.bl Q.op).length = Q.S.bl.length) := Lib.hid (by unfold inDue; split <;> simp)
  have hop := ok.op
  have hbl := ok.len
  have c0 := h.c0
  clear h ok
  go_enter Tryz.func187, Tryz.ntmps187
  go_upto_region 3 with (first
    | (go_at_call 21; refine (held_blocks HP.out.chip HB1.out).mono ?_; rintro e w1 ⟨g, cap, rfl, hl1, hb1⟩; have HL1 := Lib.hid hl1; have HBw1 := Lib.hid hb1; clear hl1 hb1)
    | (go_at_call 79; (with_reducible refine (good_row _ _ Q.S.bl _ HLn.out HL1.out).mono ?_); rintro e w2 ⟨G, rfl, hx2, hg2, hb2⟩; have HX2 := Lib.hid hx2; have HG := Lib.hid (Nat.le_trans HBw1.out.size hg2); have HgG : Hid (¬ g = G) := Lib.hid (by obtain ⟨B, o, e, hB, -⟩ := HL1.out (by have := HB1.out; omega); cases e; omega); have HL2 := Lib.hid (HL1.out.below hb2); have HB2 := Lib.hid (HBw1.out.trans (hb2.mono HBw1.out.size)); clear hx2 hg2 hb2))
  have c10 := (HP.out.below HB2.out).c10
  clear c0
  by_cases hop1 : Q.op = -1
  · rw [hop1] at c10
    have HI2 : Hid (BA w2 (some ⟨G, 0, none⟩) (inDue Q.S.bl Q.op)) := Lib.hid (by unfold inDue; rw [if_pos hop1]; exact brow_arr HX2.out)
    have HR : Hid (Roomy (some ⟨G, 0, none⟩) Q.S.bl.length Q.S.bl.length) := Lib.hid (roomy_all _ _)
    clear hop hop1 hbl
    go_upto_region 5 with fail
    obtain ⟨wz, hwz⟩ : ∃ wz, wz = w2 := ⟨_, rfl⟩
    have HPz := Lib.hid (HP.out.below HB2.out)
    have HLz := HL2
    have HIz := HI2
    have HBz := HB2
    rw [← hwz] at HPz HLz HIz HBz ⊢
    clear hwz
    refine region_st (fun j v w' => match j with | 0 => v = .slice (some ⟨g, 0, none⟩) Q.S.bl.length cap | 1 => ∃ A4 m4, v = .slice A4 Q.S.bl.length m4 ∧ IA w' A4 Q.counts | 2 => v = .slice (some ⟨G, 0, none⟩) Q.S.bl.length Q.S.bl.length | 3 => v = .pointer (some ⟨p, 0, none⟩) | 4 => v = .pointer (some ⟨p, 0, none⟩) | 5 => v = .pointer (some ⟨p, 1, none⟩) | 6 => v = .pointer (some ⟨p, 5, none⟩) | 7 => v = .int .i64 Q.U | 8 => v = .int .i64 Q.due | 9 => v = .int .i64 Q.due | _ => True) (fun _ w' => Below wz.heap.size wz w') (fun w1 w2 => Below w1.heap.size w1 w2) (by kernel_rfl) (by kernel_rfl) (by kernel_rfl) ?hR ?hG ?hops ?hend
    case hR =>
      intro j v w1 w2 hv hb
      match j, hv with
      | 0, hv => exact hv
      | 1, ⟨A4, m4, e, h⟩ => exact ⟨A4, m4, e, h.below hb⟩
      | 2, hv => exact hv
      | 3, hv => exact hv
      | 4, hv => exact hv
      | 5, hv => exact hv
      | 6, hv => exact hv
      | 7, hv => exact hv
      | 8, hv => exact hv
      | 9, hv => exact hv
      | _ + 10, _ => exact trivial
    case hG => exact (Below.refl _ _).drew
    case hops =>
      refine OpsOkS.cons ?o0 (OpsOkS.cons ?o1 (OpsOkS.cons ?o2 (OpsOkS.cons ?o3 (OpsOkS.cons ?o4 (OpsOkS.cons ?o5 (OpsOkS.cons ?o6 (OpsOkS.cons ?o7 (OpsOkS.cons ?o8 (OpsOkS.cons ?o9 OpsOkS.nil)))))))))
      case o0 =>
        intro a w1 Kx hG need old hsz fresh hKx
        have e0 : a.tmps[3]?.getD undef = .slice (some ⟨g, 0, none⟩) Q.S.bl.length cap := by rw [← Array.getD_eq_getD_getElem?]; exact old 3 (by kernel_rfl)
        refine op_value (v := .slice (some ⟨g, 0, none⟩) Q.S.bl.length cap) (wanted_none rfl) ?_ (hKx _ w1 rfl hG (Below.refl _ _))
        simp [execOp, go_sem, e0]
      case o1 =>
        intro a w1 Kx hG need old hsz fresh hKx
        have e0 : a.tmps[23]?.getD undef = .slice (some ⟨g, 0, none⟩) Q.S.bl.length cap := by rw [← Array.getD_eq_getD_getElem?]; exact (need 0 (by kernel_rfl) (by kernel_rfl))
        refine op_call (wanted_none rfl) (f := 78) (args := #[.slice (some ⟨g, 0, none⟩) Q.S.bl.length cap]) ?run ((counts_n (some ⟨g, 0, none⟩) cap Q w1 HLn.out (HLz.out.below hG)).mono ?post)
        case run => simp [go_sem, e0]
        case post =>
          rintro e w2 ⟨A4, m4, rfl, hc4, ha4, hb2⟩
          exact ⟨_, rfl, hKx _ w2 ⟨A4, m4, rfl, hc4⟩ (hG.trans (hb2.mono hG.size)) hb2⟩
      case o2 =>
        intro a w1 Kx hG need old hsz fresh hKx
        have e0 : a.tmps[4]?.getD undef = .slice (some ⟨G, 0, none⟩) Q.S.bl.length Q.S.bl.length := by rw [← Array.getD_eq_getD_getElem?]; exact old 4 (by kernel_rfl)
        refine op_value (v := .slice (some ⟨G, 0, none⟩) Q.S.bl.length Q.S.bl.length) (wanted_none rfl) ?_ (hKx _ w1 rfl hG (Below.refl _ _))
        simp [execOp, go_sem, e0]
      case o3 =>
        intro a w1 Kx hG need old hsz fresh hKx
        have e0 : a.tmps[0]?.getD undef = .pointer (some ⟨p, 0, none⟩) := by rw [← Array.getD_eq_getD_getElem?]; exact old 0 (by kernel_rfl)
        refine op_value (v := .pointer (some ⟨p, 0, none⟩)) (wanted_none rfl) ?_ (hKx _ w1 rfl hG (Below.refl _ _))
        simp [execOp, go_sem, e0]
      case o4 =>
        intro a w1 Kx hG need old hsz fresh hKx
        have e0 : a.tmps[26]?.getD undef = .pointer (some ⟨p, 0, none⟩) := by rw [← Array.getD_eq_getD_getElem?]; exact (need 3 (by kernel_rfl) (by kernel_rfl))
        refine op_value (v := .pointer (some ⟨p, 0, none⟩)) (wanted_none rfl) ?_ (hKx _ w1 rfl hG (Below.refl _ _))
        simp [execOp, go_sem, e0]
      case o5 =>
        intro a w1 Kx hG need old hsz fresh hKx
        have e0 : a.tmps[27]?.getD undef = .pointer (some ⟨p, 0, none⟩) := by rw [← Array.getD_eq_getD_getElem?]; exact (need 4 (by kernel_rfl) (by kernel_rfl))
        refine op_value (v := .pointer (some ⟨p, 1, none⟩)) (wanted_none rfl) ?_ (hKx _ w1 rfl hG (Below.refl _ _))
        simp [execOp, go_sem, e0]
      case o6 =>
        intro a w1 Kx hG need old hsz fresh hKx
        have e0 : a.tmps[28]?.getD undef = .pointer (some ⟨p, 1, none⟩) := by rw [← Array.getD_eq_getD_getElem?]; exact (need 5 (by kernel_rfl) (by kernel_rfl))
        refine op_value (v := .pointer (some ⟨p, 5, none⟩)) (wanted_none rfl) ?_ (hKx _ w1 rfl hG (Below.refl _ _))
        simp [execOp, go_sem, e0]
      case o7 =>
        intro a w1 Kx hG need old hsz fresh hKx
        have e0 : a.tmps[29]?.getD undef = .pointer (some ⟨p, 5, none⟩) := by rw [← Array.getD_eq_getD_getElem?]; exact (need 6 (by kernel_rfl) (by kernel_rfl))
        have k0 := (hG.cell (p := ⟨p, 5, none⟩) HPz.out.lt).trans HPz.out.c5
        refine op_value (v := .int .i64 Q.U) (wanted_none rfl) ?_ (hKx _ w1 rfl hG (Below.refl _ _))
        simp [execOp, go_sem, e0, k0]
      case o8 =>
        intro a w1 Kx hG need old hsz fresh hKx
        obtain ⟨A4, m4, qe0, he0⟩ := need 1 (by kernel_rfl) (by kernel_rfl)
        have e0 : a.tmps[24]?.getD undef = .slice A4 Q.S.bl.length m4 := by rw [← Array.getD_eq_getD_getElem?]; exact qe0
        have e1 : a.tmps[25]?.getD undef = .slice (some ⟨G, 0, none⟩) Q.S.bl.length Q.S.bl.length := by rw [← Array.getD_eq_getD_getElem?]; exact (need 2 (by kernel_rfl) (by kernel_rfl))
        have e2 : a.tmps[30]?.getD undef = .int .i64 Q.U := by rw [← Array.getD_eq_getD_getElem?]; exact (need 7 (by kernel_rfl) (by kernel_rfl))
        refine op_call (wanted_none rfl) (f := 195) (args := #[.slice A4 Q.S.bl.length m4, .slice (some ⟨G, 0, none⟩) Q.S.bl.length Q.S.bl.length, .int .i64 Q.U]) ?run ((due_n A4 (some ⟨G, 0, none⟩) m4 Q.S.bl.length Q.counts (inDue Q.S.bl Q.op) w1 Q.U HU.out HcN.out HiN.out HLn.out he0 (HIz.out.below hG) HW.out HR.out).mono ?post)
        case run => simp [go_sem, e0, e1, e2]
        case post =>
          rintro e w2 ⟨rfl, hb2⟩
          exact ⟨_, rfl, hKx _ w2 rfl (hG.trans (hb2.mono hG.size)) hb2⟩
      case o9 =>
        intro a w1 Kx hG need old hsz fresh hKx
        have e0 : a.tmps[31]?.getD undef = .int .i64 Q.due := by rw [← Array.getD_eq_getD_getElem?]; exact (need 8 (by kernel_rfl) (by kernel_rfl))
        refine op_value (v := .int .i64 Q.due) (wanted_none rfl) ?_ (hKx _ w1 rfl hG (Below.refl _ _))
        simp [execOp, go_sem, e0]
    case hend =>
      intro a w6 hG hde hsz hφ hold
      obtain ⟨A4_1, m4_1, hv_1, hp_1⟩ := hφ 1 (by kernel_rfl)
      obtain rfl := act_puts [(23, .slice (some ⟨g, 0, none⟩) Q.S.bl.length cap), (24, .slice A4_1 Q.S.bl.length m4_1), (25, .slice (some ⟨G, 0, none⟩) Q.S.bl.length Q.S.bl.length), (26, .pointer (some ⟨p, 0, none⟩)), (27, .pointer (some ⟨p, 0, none⟩)), (28, .pointer (some ⟨p, 1, none⟩)), (29, .pointer (some ⟨p, 5, none⟩)), (30, .int .i64 Q.U), (31, .int .i64 Q.due), (2, .int .i64 Q.due)] [23, 24, 25, 26, 27, 28, 29, 30, 31, 2] rfl (by kernel_rfl) (by kernel_rfl) hde hsz (List.forall_mem_cons.2 ⟨(show a.tmps.getD 23 undef = .slice (some ⟨g, 0, none⟩) Q.S.bl.length cap from (hφ 0 (by kernel_rfl))), (List.forall_mem_cons.2 ⟨(show a.tmps.getD 24 undef = .slice A4_1 Q.S.bl.length m4_1 from hv_1), (List.forall_mem_cons.2 ⟨(show a.tmps.getD 25 undef = .slice (some ⟨G, 0, none⟩) Q.S.bl.length Q.S.bl.length from (hφ 2 (by kernel_rfl))), (List.forall_mem_cons.2 ⟨(show a.tmps.getD 26 undef = .pointer (some ⟨p, 0, none⟩) from (hφ 3 (by kernel_rfl))), (List.forall_mem_cons.2 ⟨(show a.tmps.getD 27 undef = .pointer (some ⟨p, 0, none⟩) from (hφ 4 (by kernel_rfl))), (List.forall_mem_cons.2 ⟨(show a.tmps.getD 28 undef = .pointer (some ⟨p, 1, none⟩) from (hφ 5 (by kernel_rfl))), (List.forall_mem_cons.2 ⟨(show a.tmps.getD 29 undef = .pointer (some ⟨p, 5, none⟩) from (hφ 6 (by kernel_rfl))), (List.forall_mem_cons.2 ⟨(show a.tmps.getD 30 undef = .int .i64 Q.U from (hφ 7 (by kernel_rfl))), (List.forall_mem_cons.2 ⟨(show a.tmps.getD 31 undef = .int .i64 Q.due from (hφ 8 (by kernel_rfl))), (List.forall_mem_cons.2 ⟨(show a.tmps.getD 2 undef = .int .i64 Q.due from (hφ 9 (by kernel_rfl))), (fun _ h => absurd h (by simp))⟩)⟩)⟩)⟩)⟩)⟩)⟩)⟩)⟩)⟩) hold
      clear hφ hold hsz hde
      simp only [putAll]
      go_frame
      go_wp2_with fail
      go_ret
      exact ⟨rfl, HBz.out.trans (hG.mono HBz.out.size)⟩
  · obtain ⟨k, hk⟩ : ∃ k : Nat, Q.op = (k : Int) := ⟨Q.op.toNat, by omega⟩
    rw [hk] at c10
    have hkl : k < (Q.S.bl.map fun b : Bk => !b.bad).length := by simp; omega
    have hkl2 : k < Q.S.bl.length := by omega
    have q0 := brow_cell HX2.out k hkl
    have q1 := row_frozen HX2.out k
    have HXN := Lib.hid (brow_set HX2.out k false)
    have HRow := Lib.hid (show inDue Q.S.bl Q.op = (Q.S.bl.map fun b : Bk => !b.bad).set k false by unfold inDue; rw [if_neg hop1, hk]; rfl)
    have HT2 : Hid (Turned (fun b => b = G) w2 (w2.setCell ⟨G, k, none⟩ (.bool false))) := Lib.hid ((Turned.refl (fun b => b = G) w2).setCell (p := ⟨G, k, none⟩) (fun _ => rfl) _)
    have HR : Hid (Roomy (some ⟨G, 0, none⟩) Q.S.bl.length Q.S.bl.length) := Lib.hid (roomy_all _ _)
    have c10b := (HP.out.below (turned_below HB2.out HT2.out HB2.out.size (fun k e => by rw [e]; exact HG.out))).c10
    rw [hk] at c10b
    generalize (Q.S.bl.map fun b : Bk => !b.bad)[k] = old at q0
    have hkn : ¬ (k : Int) = -1 := by omega
    clear hop hop1 hbl hk
    go_upto_region 5 with fail
    have HPz := Lib.hid (HP.out.below (turned_below HB2.out HT2.out HB2.out.size (fun k e => by rw [e]; exact HG.out)))
    have HLz := Lib.hid (blies_turned HL2.out HT2.out fun ad e => by cases e; exact HgG.out)
    have HIz : Hid (BA (w2.setCell ⟨G, k, none⟩ (.bool false)) (some ⟨G, 0, none⟩) (inDue Q.S.bl Q.op)) := Lib.hid (by rw [HRow.out]; exact brow_arr HXN.out)
    have HBz := Lib.hid (turned_below HB2.out HT2.out HB2.out.size (fun k e => by rw [e]; exact HG.out))
    clear HXN HT2
    generalize w2.setCell ⟨G, k, none⟩ (.bool false) = wz at HPz HLz HIz HBz ⊢
    refine region_st (fun j v w' => match j with | 0 => v = .slice (some ⟨g, 0, none⟩) Q.S.bl.length cap | 1 => ∃ A4 m4, v = .slice A4 Q.S.bl.length m4 ∧ IA w' A4 Q.counts | 2 => v = .slice (some ⟨G, 0, none⟩) Q.S.bl.length Q.S.bl.length | 3 => v = .pointer (some ⟨p, 0, none⟩) | 4 => v = .pointer (some ⟨p, 0, none⟩) | 5 => v = .pointer (some ⟨p, 1, none⟩) | 6 => v = .pointer (some ⟨p, 5, none⟩) | 7 => v = .int .i64 Q.U | 8 => v = .int .i64 Q.due | 9 => v = .int .i64 Q.due | _ => True) (fun _ w' => Below wz.heap.size wz w') (fun w1 w2 => Below w1.heap.size w1 w2) (by kernel_rfl) (by kernel_rfl) (by kernel_rfl) ?hR ?hG ?hops ?hend
    case hR =>
      intro j v w1 w2 hv hb
      match j, hv with
      | 0, hv => exact hv
      | 1, ⟨A4, m4, e, h⟩ => exact ⟨A4, m4, e, h.below hb⟩
      | 2, hv => exact hv
      | 3, hv => exact hv
      | 4, hv => exact hv
      | 5, hv => exact hv
      | 6, hv => exact hv
      | 7, hv => exact hv
      | 8, hv => exact hv
      | 9, hv => exact hv
      | _ + 10, _ => exact trivial
    case hG => exact (Below.refl _ _).drew
    case hops =>
      refine OpsOkS.cons ?o0 (OpsOkS.cons ?o1 (OpsOkS.cons ?o2 (OpsOkS.cons ?o3 (OpsOkS.cons ?o4 (OpsOkS.cons ?o5 (OpsOkS.cons ?o6 (OpsOkS.cons ?o7 (OpsOkS.cons ?o8 (OpsOkS.cons ?o9 OpsOkS.nil)))))))))
      case o0 =>
        intro a w1 Kx hG need old hsz fresh hKx
        have e0 : a.tmps[3]?.getD undef = .slice (some ⟨g, 0, none⟩) Q.S.bl.length cap := by rw [← Array.getD_eq_getD_getElem?]; exact old 3 (by kernel_rfl)
        refine op_value (v := .slice (some ⟨g, 0, none⟩) Q.S.bl.length cap) (wanted_none rfl) ?_ (hKx _ w1 rfl hG (Below.refl _ _))
        simp [execOp, go_sem, e0]
      case o1 =>
        intro a w1 Kx hG need old hsz fresh hKx
        have e0 : a.tmps[23]?.getD undef = .slice (some ⟨g, 0, none⟩) Q.S.bl.length cap := by rw [← Array.getD_eq_getD_getElem?]; exact (need 0 (by kernel_rfl) (by kernel_rfl))
        refine op_call (wanted_none rfl) (f := 78) (args := #[.slice (some ⟨g, 0, none⟩) Q.S.bl.length cap]) ?run ((counts_n (some ⟨g, 0, none⟩) cap Q w1 HLn.out (HLz.out.below hG)).mono ?post)
        case run => simp [go_sem, e0]
        case post =>
          rintro e w2 ⟨A4, m4, rfl, hc4, ha4, hb2⟩
          exact ⟨_, rfl, hKx _ w2 ⟨A4, m4, rfl, hc4⟩ (hG.trans (hb2.mono hG.size)) hb2⟩
      case o2 =>
        intro a w1 Kx hG need old hsz fresh hKx
        have e0 : a.tmps[4]?.getD undef = .slice (some ⟨G, 0, none⟩) Q.S.bl.length Q.S.bl.length := by rw [← Array.getD_eq_getD_getElem?]; exact old 4 (by kernel_rfl)
        refine op_value (v := .slice (some ⟨G, 0, none⟩) Q.S.bl.length Q.S.bl.length) (wanted_none rfl) ?_ (hKx _ w1 rfl hG (Below.refl _ _))
        simp [execOp, go_sem, e0]
      case o3 =>
        intro a w1 Kx hG need old hsz fresh hKx
        have e0 : a.tmps[0]?.getD undef = .pointer (some ⟨p, 0, none⟩) := by rw [← Array.getD_eq_getD_getElem?]; exact old 0 (by kernel_rfl)
        refine op_value (v := .pointer (some ⟨p, 0, none⟩)) (wanted_none rfl) ?_ (hKx _ w1 rfl hG (Below.refl _ _))
        simp [execOp, go_sem, e0]
      case o4 =>
        intro a w1 Kx hG need old hsz fresh hKx
        have e0 : a.tmps[26]?.getD undef = .pointer (some ⟨p, 0, none⟩) := by rw [← Array.getD_eq_getD_getElem?]; exact (need 3 (by kernel_rfl) (by kernel_rfl))
        refine op_value (v := .pointer (some ⟨p, 0, none⟩)) (wanted_none rfl) ?_ (hKx _ w1 rfl hG (Below.refl _ _))
        simp [execOp, go_sem, e0]
      case o5 =>
        intro a w1 Kx hG need old hsz fresh hKx
        have e0 : a.tmps[27]?.getD undef = .pointer (some ⟨p, 0, none⟩) := by rw [← Array.getD_eq_getD_getElem?]; exact (need 4 (by kernel_rfl) (by kernel_rfl))
        refine op_value (v := .pointer (some ⟨p, 1, none⟩)) (wanted_none rfl) ?_ (hKx _ w1 rfl hG (Below.refl _ _))
        simp [execOp, go_sem, e0]
      case o6 =>
        intro a w1 Kx hG need old hsz fresh hKx
        have e0 : a.tmps[28]?.getD undef = .pointer (some ⟨p, 1, none⟩) := by rw [← Array.getD_eq_getD_getElem?]; exact (need 5 (by kernel_rfl) (by kernel_rfl))
        refine op_value (v := .pointer (some ⟨p, 5, none⟩)) (wanted_none rfl) ?_ (hKx _ w1 rfl hG (Below.refl _ _))
        simp [execOp, go_sem, e0]
      case o7 =>
        intro a w1 Kx hG need old hsz fresh hKx
        have e0 : a.tmps[29]?.getD undef = .pointer (some ⟨p, 5, none⟩) := by rw [← Array.getD_eq_getD_getElem?]; exact (need 6 (by kernel_rfl) (by kernel_rfl))
        have k0 := (hG.cell (p := ⟨p, 5, none⟩) HPz.out.lt).trans HPz.out.c5
        refine op_value (v := .int .i64 Q.U) (wanted_none rfl) ?_ (hKx _ w1 rfl hG (Below.refl _ _))
        simp [execOp, go_sem, e0, k0]
      case o8 =>
        intro a w1 Kx hG need old hsz fresh hKx
        obtain ⟨A4, m4, qe0, he0⟩ := need 1 (by kernel_rfl) (by kernel_rfl)
        have e0 : a.tmps[24]?.getD undef = .slice A4 Q.S.bl.length m4 := by rw [← Array.getD_eq_getD_getElem?]; exact qe0
        have e1 : a.tmps[25]?.getD undef = .slice (some ⟨G, 0, none⟩) Q.S.bl.length Q.S.bl.length := by rw [← Array.getD_eq_getD_getElem?]; exact (need 2 (by kernel_rfl) (by kernel_rfl))
        have e2 : a.tmps[30]?.getD undef = .int .i64 Q.U := by rw [← Array.getD_eq_getD_getElem?]; exact (need 7 (by kernel_rfl) (by kernel_rfl))
        refine op_call (wanted_none rfl) (f := 195) (args := #[.slice A4 Q.S.bl.length m4, .slice (some ⟨G, 0, none⟩) Q.S.bl.length Q.S.bl.length, .int .i64 Q.U]) ?run ((due_n A4 (some ⟨G, 0, none⟩) m4 Q.S.bl.length Q.counts (inDue Q.S.bl Q.op) w1 Q.U HU.out HcN.out HiN.out HLn.out he0 (HIz.out.below hG) HW.out HR.out).mono ?post)
        case run => simp [go_sem, e0, e1, e2]
        case post =>
          rintro e w2 ⟨rfl, hb2⟩
          exact ⟨_, rfl, hKx _ w2 rfl (hG.trans (hb2.mono hG.size)) hb2⟩
      case o9 =>
        intro a w1 Kx hG need old hsz fresh hKx
        have e0 : a.tmps[31]?.getD undef = .int .i64 Q.due := by rw [← Array.getD_eq_getD_getElem?]; exact (need 8 (by kernel_rfl) (by kernel_rfl))
        refine op_value (v := .int .i64 Q.due) (wanted_none rfl) ?_ (hKx _ w1 rfl hG (Below.refl _ _))
        simp [execOp, go_sem, e0]
    case hend =>
      intro a w6 hG hde hsz hφ hold
      obtain ⟨A4_1, m4_1, hv_1, hp_1⟩ := hφ 1 (by kernel_rfl)
      obtain rfl := act_puts [(23, .slice (some ⟨g, 0, none⟩) Q.S.bl.length cap), (24, .slice A4_1 Q.S.bl.length m4_1), (25, .slice (some ⟨G, 0, none⟩) Q.S.bl.length Q.S.bl.length), (26, .pointer (some ⟨p, 0, none⟩)), (27, .pointer (some ⟨p, 0, none⟩)), (28, .pointer (some ⟨p, 1, none⟩)), (29, .pointer (some ⟨p, 5, none⟩)), (30, .int .i64 Q.U), (31, .int .i64 Q.due), (2, .int .i64 Q.due)] [23, 24, 25, 26, 27, 28, 29, 30, 31, 2] rfl (by kernel_rfl) (by kernel_rfl) hde hsz (List.forall_mem_cons.2 ⟨(show a.tmps.getD 23 undef = .slice (some ⟨g, 0, none⟩) Q.S.bl.length cap from (hφ 0 (by kernel_rfl))), (List.forall_mem_cons.2 ⟨(show a.tmps.getD 24 undef = .slice A4_1 Q.S.bl.length m4_1 from hv_1), (List.forall_mem_cons.2 ⟨(show a.tmps.getD 25 undef = .slice (some ⟨G, 0, none⟩) Q.S.bl.length Q.S.bl.length from (hφ 2 (by kernel_rfl))), (List.forall_mem_cons.2 ⟨(show a.tmps.getD 26 undef = .pointer (some ⟨p, 0, none⟩) from (hφ 3 (by kernel_rfl))), (List.forall_mem_cons.2 ⟨(show a.tmps.getD 27 undef = .pointer (some ⟨p, 0, none⟩) from (hφ 4 (by kernel_rfl))), (List.forall_mem_cons.2 ⟨(show a.tmps.getD 28 undef = .pointer (some ⟨p, 1, none⟩) from (hφ 5 (by kernel_rfl))), (List.forall_mem_cons.2 ⟨(show a.tmps.getD 29 undef = .pointer (some ⟨p, 5, none⟩) from (hφ 6 (by kernel_rfl))), (List.forall_mem_cons.2 ⟨(show a.tmps.getD 30 undef = .int .i64 Q.U from (hφ 7 (by kernel_rfl))), (List.forall_mem_cons.2 ⟨(show a.tmps.getD 31 undef = .int .i64 Q.due from (hφ 8 (by kernel_rfl))), (List.forall_mem_cons.2 ⟨(show a.tmps.getD 2 undef = .int .i64 Q.due from (hφ 9 (by kernel_rfl))), (fun _ h => absurd h (by simp))⟩)⟩)⟩)⟩)⟩)⟩)⟩)⟩)⟩)⟩) hold
      clear hφ hold hsz hde
      simp only [putAll]
      go_frame
      go_wp2_with fail
      go_ret
      exact ⟨rfl, HBz.out.trans (hG.mono HBz.out.size)⟩
end
end Go.Proofs.YtnadcdgpfopcaaaGreat
