/- A pool: settle (written by poolset.py). -/
import Derived.Test.YtnadcdgpfopcaaaGreatPoD2
namespace Go.Proofs.YtnadcdgpfopcaaaGreat
open Go.RowKit

section
variable {w w' : World} {p c l f : Nat} {x y X Y Z : Nat → Prop} {Q Q1 : PS} {T : List Fd}
theorem PoolAt.putL (r s : P2) (h1 : PoolAt w p c l f X Y Z Q) (h2 : ∀ b, x b → b < w.heap.size ∧ ¬ X b ∧ ¬ Y b ∧ ¬ Z b ∧ b ≠ p) (hl : Q.L.length ≤ 1000) (hr : WfP r) (hs : WfP s) : Calls Tryz.prog 56 #[.pointer (some ⟨l, 0, none⟩), P2V r, P2V s] w fun e w' => e = .returned (.bool (canT Q.L r s)) ∧ Pool w' p c x { Q with L := putT Q.L r s } ∧ Safe x w w' := by
  refine (putT_any r s h1.live hl hr hs).mono ?_
  rintro e w' ⟨rfl, k1, k2⟩
  exact ⟨rfl, h1.live_op h2 k1 k2⟩
theorem PoolAt.putF (r s : P2) (h1 : PoolAt w p c l f X Y Z Q) (h2 : ∀ b, x b → b < w.heap.size ∧ ¬ X b ∧ ¬ Y b ∧ ¬ Z b ∧ b ≠ p) (hl : Q.F.length ≤ 1000) (hr : WfP r) (hs : WfP s) : Calls Tryz.prog 56 #[.pointer (some ⟨f, 0, none⟩), P2V r, P2V s] w fun e w' => e = .returned (.bool (canT Q.F r s)) ∧ Pool w' p c x { Q with F := putT Q.F r s } ∧ Safe x w w' := by
  refine (putT_any r s h1.fresh hl hr hs).mono ?_
  rintro e w' ⟨rfl, k1, k2⟩
  exact ⟨rfl, h1.fresh_op h2 k1 k2⟩
theorem putT_len (T : List Fd) (r s : P2) : (putT T r s).length ≤ T.length + 1 := by
  unfold putT
  split
  · split <;> simp
  · omega
theorem settle_at (Q : PS) (td : Int) (i : Nat) (l : List Fd) {j : Nat} (hj : j < l.length) : Q.settle td i (l.drop j) = (Q.put1 td i l[j]).settle td (i + 1) (l.drop (j + 1)) := by
  rw [List.drop_eq_getElem_cons hj]; rfl
set_option maxRecDepth 100000 in
set_option maxHeartbeats 4000000 in
theorem q_settle (td : Int) (A : Option Addr) (m : Nat) (l : List Fd) (hlen : Q.L.length + Q.F.length + l.length ≤ 900) (h : Pool w p c x Q) (hF : FLies w A l) (hx : 0 < l.length → ∀ ad, A = some ad → x ad.block) (hw : ∀ f ∈ l, WfP f.1 ∧ WfP f.2) (hto : (Lit.int .i64 td).wf = true) : Calls Tryz.prog 185 #[.pointer (some ⟨p, 0, none⟩), .slice A l.length m, .int .i64 td] w fun e w' => e = .returned (.tuple #[]) ∧ Pool w' p c x (Q.settle td 0 l) ∧ Safe x w w' := by
  have HX := Lib.hid h.there
  have HP := Lib.hid h
  have HG := Lib.hid hF
  have HA := Lib.hid hx
  have HWF := Lib.hid hw
  have HTO := Lib.hid hto
  have HLN := Lib.hid hlen
  have hll : l.length ≤ 900 := by omega
  clear h hF hx hw hto hlen
  go_enter Tryz.func185, Tryz.ntmps185
  go_wp2_with fail
  go_loopw [6, 8, 10, 13] (fun _ _ _ v13 wr => ∃ j : Nat, j ≤ l.length ∧ v13 = .int .i64 j ∧ ∃ Q1, Q1.L.length + Q1.F.length ≤ Q.L.length + Q.F.length + j ∧ Pool wr p c x Q1 ∧ Safe x w wr ∧ Q.settle td 0 l = Q1.settle td j (l.drop j)) (fun _ _ _ v13 _ => l.length - (intOf v13).toNat)
  case atStart => exact ⟨0, Nat.zero_le _, rfl, Q, Nat.le_refl _, HP.out, .refl _ _, rfl⟩
  case round =>
    obtain ⟨j, hj, rfl, Q1, hn, hP, hS, hE⟩ := hrel
    have hsz := hS.size
    have HP1 := Lib.hid hP
    have HS := Lib.hid hS
    have HE := Lib.hid hE
    have HN := Lib.hid hn
    clear hP hS hE hn
    by_cases hj1 : j < l.length
    · obtain ⟨B, o, rfl, hB, hc⟩ := (HG.out.safe HS.out HA.out) (by omega)
      obtain ⟨k0, k1, k2, k3⟩ := hc j hj1
      have HPA := Lib.hid (settle_at Q1 td j l hj1)
      have HWJ := Lib.hid (HWF.out l[j] (List.getElem_mem hj1))
      clear hc
      generalize l[j] = fd at k0 k1 k2 k3 HPA HWJ
      obtain ⟨W, hW⟩ : ∃ W, wr.alloc (.cells #[.int .i64 fd.1.1, .int .i64 fd.1.2, .int .i64 fd.2.1, .int .i64 fd.2.2] 71) = W := ⟨_, rfl⟩
      have HBW : Hid (Below wr.heap.size wr W) := Lib.hid (by rw [← hW]; exact (Below.refl _ _).alloc (Nat.le_refl _) _)
      have HBX : Hid (W.heap[wr.heap.size]? = some (.cells #[.int .i64 fd.1.1, .int .i64 fd.1.2, .int .i64 fd.2.1, .int .i64 fd.2.2] 71 (0, 0))) := Lib.hid (by rw [← hW]; exact heap_alloc_new _ _)
      have hbx := lt_size HBX.out
      obtain ⟨l1, f1, X, Y, Z, hat, hout⟩ := ((HP1.out.more HBW.out).less (y := fun b => x b ∨ b = wr.heap.size) fun b k => k.imp id fun e => ⟨by omega, by omega⟩)
      have c7 := hat.parts.c7
      have c8 := hat.parts.c8
      have HAT := Lib.hid hat
      have HOUT := Lib.hid hout
      have HSK : Hid (∀ V, Below W.heap.size W V → V.cell? ⟨p, 8, none⟩ = some (.pointer (some ⟨f1, 0, none⟩)) ∧ V.cell? ⟨wr.heap.size, 2, none⟩ = some (.int .i64 fd.2.1) ∧ V.cell? ⟨wr.heap.size, 3, none⟩ = some (.int .i64 fd.2.2)) := Lib.hid fun V hV => by
        have e := cells4f' ((hV.block _ hbx).trans HBX.out)
        exact ⟨(hat.below hV).parts.c8, e.2.2.1, e.2.2.2⟩
      have HK7 : Hid (∀ V, Below W.heap.size W V → V.cell? ⟨p, 7, none⟩ = some (.pointer (some ⟨l1, 0, none⟩)) ∧ V.cell? ⟨wr.heap.size, 0, none⟩ = some (.int .i64 fd.1.1) ∧ V.cell? ⟨wr.heap.size, 1, none⟩ = some (.int .i64 fd.1.2)) := Lib.hid fun V hV => by
        have e := cells4f' ((hV.block _ hbx).trans HBX.out)
        exact ⟨(hat.below hV).parts.c7, e.1, e.2.1⟩
      obtain ⟨s8, b2, b3⟩ := HSK.out W (Below.refl _ _)
      have HSP : Hid (WfP (td, (j : Int))) := Lib.hid ⟨HTO.out, wf_of ⟨by show (-9223372036854775808 : Int) ≤ (j : Int); omega, by show (j : Int) ≤ 9223372036854775807; omega⟩⟩
      have HLE : Hid (Q1.L.length ≤ 1000 ∧ Q1.F.length ≤ 1000) := Lib.hid (by have := HN.out; have := HLN.out; omega)
      clear hat hout
      cases hon : (onT Q1.F fd.2).isSome with
      | false =>
        have HON := Lib.hid hon
        have HPE : Hid (Q1.put1 td j fd = { Q1 with L := putT Q1.L fd.1 (td, (j : Int)) }) := Lib.hid (by unfold PS.put1; rw [hon]; rfl)
        clear hon
        go_upto_region 4 with fail
        clear hW
        go_region_held3 (fun V => V.cell? ⟨p, 8, none⟩ = some (.pointer (some ⟨f1, 0, none⟩)) ∧ V.cell? ⟨wr.heap.size, 2, none⟩ = some (.int .i64 fd.2.1) ∧ V.cell? ⟨wr.heap.size, 3, none⟩ = some (.int .i64 fd.2.2))
          (first | exact ⟨c8, b2, b3⟩ | exact HSK.out _ HBB.out | exact HSK.out _ (HBB.out.alloc HBB.out.size _) | exact HSK.out _ ((Below.refl _ _).alloc (Nat.le_refl _) _).drew | exact HSK.out _ ((Below.refl _ _).alloc (Nat.le_refl _) _) | exact HSK.out _ ((HBB.out.setCell (Nat.le_refl _) _).setCell (Nat.le_refl _) _))
          (first
            | (go_at_call 89; (with_reducible refine (onT_any fd.2 (HAT.out.fresh.below (Below.refl _ _).drew) HLE.out.2 HWJ.out.2).mono ?_); rintro e w2 ⟨rfl, hb2⟩; rw [HON.out]; have HBB : Hid (Below W.heap.size W w2) := Lib.hid ((Below.refl _ _).drew.trans hb2))
            | (go_at_call 89; (with_reducible refine (onT_any fd.2 (HAT.out.fresh.below ((Below.refl _ _).alloc (Nat.le_refl _) _).drew) HLE.out.2 HWJ.out.2).mono ?_); rintro e w2 ⟨rfl, hb2⟩; rw [HON.out]; have HBB : Hid (Below W.heap.size W w2) := Lib.hid (((Below.refl _ _).alloc (Nat.le_refl _) _).drew.trans (hb2.mono (by simp))); obtain ⟨n0, n1, n2, n3⟩ := cells2q ((hb2.block W.heap.size (by simp)).trans (heap_alloc_new W _))))
        · obtain ⟨V, hV⟩ : ∃ V, w2.alloc (.cells #[.int .i64 ((onT Q1.F fd.2).getD (0, 0)).1, .int .i64 ((onT Q1.F fd.2).getD (0, 0)).2] 33) = V := ⟨_, rfl⟩
          have HBV : Hid (Below W.heap.size W V) := Lib.hid (by rw [← hV]; exact HBB.out.alloc HBB.out.size _)
          rw [hV]
          clear hV hb2
          have HBV' : Hid (Below wr.heap.size wr V) := Lib.hid (HBW.out.trans (HBV.out.mono HBW.out.size))
          obtain ⟨s8, -, -⟩ := HSK.out V HBV.out
          obtain ⟨s7, b0, b1⟩ := HK7.out V HBV.out
          have HATV := Lib.hid (HAT.out.below HBV.out)
          have HOUTV : Hid (∀ b, (x b ∨ b = wr.heap.size) → b < V.heap.size ∧ ¬ X b ∧ ¬ Y b ∧ ¬ Z b ∧ b ≠ p) := Lib.hid fun b k => ⟨Nat.lt_of_lt_of_le (HOUT.out b k).1 HBV.out.size, (HOUT.out b k).2⟩
          go_wp2_with (go_at_call 56; (with_reducible refine (PoolAt.putL fd.1 (td, (j : Int)) HATV.out HOUTV.out HLE.out.1 HWJ.out.1 HSP.out).mono ?_); rintro e w5 ⟨rfl, h5, hs5⟩; have HP5 := Lib.hid h5; have HS5 := Lib.hid hs5; clear h5 hs5)
          go_roundw
          case rel => exact ⟨j + 1, by omega, by go_num, { Q1 with L := putT Q1.L fd.1 (td, (j : Int)) }, by have := HN.out; have := putT_len Q1.L fd.1 (td, (j : Int)); show (putT Q1.L fd.1 (td, (j : Int))).length + (Q1.F).length ≤ _; omega, HP5.out.less fun _ k => .inl k, (HS.out.then (safe_of_below HBV'.out)).then' HS5.out fun _ _ k => .inl k, by rw [HE.out, HPA.out, HPE.out]⟩
          case measure => simp [intOf]; omega
        · obtain ⟨V, hV⟩ : ∃ V, (w2.setCell ⟨W.heap.size, 0, none⟩ (.int .i64 ((onT Q1.F fd.2).getD (0, 0)).1)).setCell ⟨W.heap.size, 1, none⟩ (.int .i64 ((onT Q1.F fd.2).getD (0, 0)).2) = V := ⟨_, rfl⟩
          have HBV : Hid (Below W.heap.size W V) := Lib.hid (by rw [← hV]; exact (HBB.out.setCell (Nat.le_refl _) _).setCell (Nat.le_refl _) _)
          rw [hV]
          clear hV hb2 n0 n1 n2 n3
          have HBV' : Hid (Below wr.heap.size wr V) := Lib.hid (HBW.out.trans (HBV.out.mono HBW.out.size))
          obtain ⟨s8, -, -⟩ := HSK.out V HBV.out
          obtain ⟨s7, b0, b1⟩ := HK7.out V HBV.out
          have HATV := Lib.hid (HAT.out.below HBV.out)
          have HOUTV : Hid (∀ b, (x b ∨ b = wr.heap.size) → b < V.heap.size ∧ ¬ X b ∧ ¬ Y b ∧ ¬ Z b ∧ b ≠ p) := Lib.hid fun b k => ⟨Nat.lt_of_lt_of_le (HOUT.out b k).1 HBV.out.size, (HOUT.out b k).2⟩
          go_wp2_with (go_at_call 56; (with_reducible refine (PoolAt.putL fd.1 (td, (j : Int)) HATV.out HOUTV.out HLE.out.1 HWJ.out.1 HSP.out).mono ?_); rintro e w5 ⟨rfl, h5, hs5⟩; have HP5 := Lib.hid h5; have HS5 := Lib.hid hs5; clear h5 hs5)
          go_roundw
          case rel => exact ⟨j + 1, by omega, by go_num, { Q1 with L := putT Q1.L fd.1 (td, (j : Int)) }, by have := HN.out; have := putT_len Q1.L fd.1 (td, (j : Int)); show (putT Q1.L fd.1 (td, (j : Int))).length + (Q1.F).length ≤ _; omega, HP5.out.less fun _ k => .inl k, (HS.out.then (safe_of_below HBV'.out)).then' HS5.out fun _ _ k => .inl k, by rw [HE.out, HPA.out, HPE.out]⟩
          case measure => simp [intOf]; omega
      | true =>
        have HON := Lib.hid hon
        have HPE : Hid (Q1.put1 td j fd = { Q1 with F := putT Q1.F fd.1 (td, (j : Int)) }) := Lib.hid (by unfold PS.put1; rw [hon]; rfl)
        clear hon
        go_upto_region 4 with fail
        clear hW
        go_region_held3 (fun V => V.cell? ⟨p, 8, none⟩ = some (.pointer (some ⟨f1, 0, none⟩)) ∧ V.cell? ⟨wr.heap.size, 2, none⟩ = some (.int .i64 fd.2.1) ∧ V.cell? ⟨wr.heap.size, 3, none⟩ = some (.int .i64 fd.2.2))
          (first | exact ⟨c8, b2, b3⟩ | exact HSK.out _ HBB.out | exact HSK.out _ (HBB.out.alloc HBB.out.size _) | exact HSK.out _ ((Below.refl _ _).alloc (Nat.le_refl _) _).drew | exact HSK.out _ ((Below.refl _ _).alloc (Nat.le_refl _) _) | exact HSK.out _ ((HBB.out.setCell (Nat.le_refl _) _).setCell (Nat.le_refl _) _))
          (first
            | (go_at_call 89; (with_reducible refine (onT_any fd.2 (HAT.out.fresh.below (Below.refl _ _).drew) HLE.out.2 HWJ.out.2).mono ?_); rintro e w2 ⟨rfl, hb2⟩; rw [HON.out]; have HBB : Hid (Below W.heap.size W w2) := Lib.hid ((Below.refl _ _).drew.trans hb2))
            | (go_at_call 89; (with_reducible refine (onT_any fd.2 (HAT.out.fresh.below ((Below.refl _ _).alloc (Nat.le_refl _) _).drew) HLE.out.2 HWJ.out.2).mono ?_); rintro e w2 ⟨rfl, hb2⟩; rw [HON.out]; have HBB : Hid (Below W.heap.size W w2) := Lib.hid (((Below.refl _ _).alloc (Nat.le_refl _) _).drew.trans (hb2.mono (by simp))); obtain ⟨n0, n1, n2, n3⟩ := cells2q ((hb2.block W.heap.size (by simp)).trans (heap_alloc_new W _))))
        · obtain ⟨V, hV⟩ : ∃ V, w2.alloc (.cells #[.int .i64 ((onT Q1.F fd.2).getD (0, 0)).1, .int .i64 ((onT Q1.F fd.2).getD (0, 0)).2] 33) = V := ⟨_, rfl⟩
          have HBV : Hid (Below W.heap.size W V) := Lib.hid (by rw [← hV]; exact HBB.out.alloc HBB.out.size _)
          rw [hV]
          clear hV hb2
          have HBV' : Hid (Below wr.heap.size wr V) := Lib.hid (HBW.out.trans (HBV.out.mono HBW.out.size))
          obtain ⟨s8, -, -⟩ := HSK.out V HBV.out
          obtain ⟨s7, b0, b1⟩ := HK7.out V HBV.out
          have HATV := Lib.hid (HAT.out.below HBV.out)
          have HOUTV : Hid (∀ b, (x b ∨ b = wr.heap.size) → b < V.heap.size ∧ ¬ X b ∧ ¬ Y b ∧ ¬ Z b ∧ b ≠ p) := Lib.hid fun b k => ⟨Nat.lt_of_lt_of_le (HOUT.out b k).1 HBV.out.size, (HOUT.out b k).2⟩
          go_wp2_with (go_at_call 56; (with_reducible refine (PoolAt.putF fd.1 (td, (j : Int)) HATV.out HOUTV.out HLE.out.2 HWJ.out.1 HSP.out).mono ?_); rintro e w5 ⟨rfl, h5, hs5⟩; have HP5 := Lib.hid h5; have HS5 := Lib.hid hs5; clear h5 hs5)
          go_roundw
          case rel => exact ⟨j + 1, by omega, by go_num, { Q1 with F := putT Q1.F fd.1 (td, (j : Int)) }, by have := HN.out; have := putT_len Q1.F fd.1 (td, (j : Int)); show (Q1.L).length + (putT Q1.F fd.1 (td, (j : Int))).length ≤ _; omega, HP5.out.less fun _ k => .inl k, (HS.out.then (safe_of_below HBV'.out)).then' HS5.out fun _ _ k => .inl k, by rw [HE.out, HPA.out, HPE.out]⟩
          case measure => simp [intOf]; omega
        · obtain ⟨V, hV⟩ : ∃ V, (w2.setCell ⟨W.heap.size, 0, none⟩ (.int .i64 ((onT Q1.F fd.2).getD (0, 0)).1)).setCell ⟨W.heap.size, 1, none⟩ (.int .i64 ((onT Q1.F fd.2).getD (0, 0)).2) = V := ⟨_, rfl⟩
          have HBV : Hid (Below W.heap.size W V) := Lib.hid (by rw [← hV]; exact (HBB.out.setCell (Nat.le_refl _) _).setCell (Nat.le_refl _) _)
          rw [hV]
          clear hV hb2 n0 n1 n2 n3
          have HBV' : Hid (Below wr.heap.size wr V) := Lib.hid (HBW.out.trans (HBV.out.mono HBW.out.size))
          obtain ⟨s8, -, -⟩ := HSK.out V HBV.out
          obtain ⟨s7, b0, b1⟩ := HK7.out V HBV.out
          have HATV := Lib.hid (HAT.out.below HBV.out)
          have HOUTV : Hid (∀ b, (x b ∨ b = wr.heap.size) → b < V.heap.size ∧ ¬ X b ∧ ¬ Y b ∧ ¬ Z b ∧ b ≠ p) := Lib.hid fun b k => ⟨Nat.lt_of_lt_of_le (HOUT.out b k).1 HBV.out.size, (HOUT.out b k).2⟩
          go_wp2_with (go_at_call 56; (with_reducible refine (PoolAt.putF fd.1 (td, (j : Int)) HATV.out HOUTV.out HLE.out.2 HWJ.out.1 HSP.out).mono ?_); rintro e w5 ⟨rfl, h5, hs5⟩; have HP5 := Lib.hid h5; have HS5 := Lib.hid hs5; clear h5 hs5)
          go_roundw
          case rel => exact ⟨j + 1, by omega, by go_num, { Q1 with F := putT Q1.F fd.1 (td, (j : Int)) }, by have := HN.out; have := putT_len Q1.F fd.1 (td, (j : Int)); show (Q1.L).length + (putT Q1.F fd.1 (td, (j : Int))).length ≤ _; omega, HP5.out.less fun _ k => .inl k, (HS.out.then (safe_of_below HBV'.out)).then' HS5.out fun _ _ k => .inl k, by rw [HE.out, HPA.out, HPE.out]⟩
          case measure => simp [intOf]; omega
    · obtain rfl : j = l.length := by omega
      have HZ : Hid (Q.settle td 0 l = Q1) := Lib.hid (by rw [HE.out, List.drop_length]; rfl)
      go_wp2_with fail
      go_end0
      rw [HZ.out]
      exact ⟨rfl, HP1.out, HS.out⟩
end
end Go.Proofs.YtnadcdgpfopcaaaGreat
