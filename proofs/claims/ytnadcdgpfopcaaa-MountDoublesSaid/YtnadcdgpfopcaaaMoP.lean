/- A scan: Pick. -/
import Derived.Test.YtnadcdgpfopcaaaMoM
import Derived.Test.YtnadcdgpfopcaaaMoH
namespace Go.Proofs.Ytnadcdgpfopcaaa
open Go.RowKit Go.Maps Go.Shelf

/-- All of these are found. -/
def allB (Ts : Nat → List Fd) (B : Nat) (l : List P2) : Bool := l.all fun r => decide (0 < (bestTo Ts r B).2)
def resB (Ts : Nat → List Fd) (B : Nat) (l : List P2) : List Fd := l.map fun r => (r, (bestTo Ts r B).1)
theorem resB_snoc (Ts : Nat → List Fd) (B : Nat) (l : List P2) (r : P2) : resB Ts B (l ++ [r]) = resB Ts B l ++ [(r, (bestTo Ts r B).1)] := by simp [resB]
theorem allB_snoc (Ts : Nat → List Fd) (B : Nat) (l : List P2) (r : P2) : allB Ts B (l ++ [r]) = (allB Ts B l && decide (0 < (bestTo Ts r B).2)) := by simp [allB]
theorem allB_no {Ts : Nat → List Fd} {B : Nat} {l : List P2} {j : Nat} (hj : j < l.length) (h : ¬ 0 < (bestTo Ts l[j] B).2) : allB Ts B l = false := by
  unfold allB
  rw [List.all_eq_false]
  exact ⟨l[j], List.getElem_mem hj, by simpa using h⟩
def MS.pickE (M : MS) (l : List P2) : Int :=
  if M.thr = false then 0 else if ¬ (l.map (·.1)).Nodup then 1 else if allB (tabsF l M.fd) M.B l = true then 0 else 8
def MS.pickF (M : MS) (l : List P2) : List Fd :=
  if M.thr = true ∧ (l.map (·.1)).Nodup ∧ allB (tabsF l M.fd) M.B l = true then resB (tabsF l M.fd) M.B l else []
section
variable {w w' W w1 : World} {s c cap : Nat} {x y Y X : Nat → Prop} {v : Value} {A : Option Addr} {M : MS}
theorem RLies.below {w w' : World} {A : Option Addr} {l : List P2} (h : RLies w A l) (hb : Below w.heap.size w w') : RLies w' A l := fun hn => by
  obtain ⟨B, o, e, hB, hc⟩ := h hn
  exact ⟨B, o, e, Nat.lt_of_lt_of_le hB hb.size, fun j hj => ⟨(hb.cell (p := ⟨B, o + j * 2, none⟩) hB).trans (hc j hj).1, (hb.cell (p := ⟨B, o + j * 2 + 1, none⟩) hB).trans (hc j hj).2⟩⟩
def PickPost (l : List Fd) (er : Int) (w : World) (e : Ending) (w' : World) : Prop :=
  ∃ A c, e = .returned (.tuple #[.slice A l.length c, .int .i64 er]) ∧ FLies w' A l ∧ (∀ ad, A = some ad → w.heap.size ≤ ad.block) ∧ (A = none → l.length = 0 ∧ c = 0) ∧ Below w.heap.size w w'
theorem PickPost.none (er : Int) {e : Ending} (he : e = .returned (.tuple #[.slice none 0 0, .int .i64 er])) (hb : Below w.heap.size w w') : PickPost [] er w e w' :=
  ⟨Option.none, 0, he, fun h => absurd h (by simp), fun _ e => (by cases e), fun _ => ⟨rfl, rfl⟩, hb⟩
set_option maxRecDepth 100000 in
set_option maxHeartbeats 4000000 in
theorem m_pick (h : ScanAt w s c Y v A cap M) (ok : MOk M) (hwf : ∀ f ∈ M.fd, WfP f.1 ∧ WfP f.2 ∧ 0 ≤ f.2.1 ∧ f.2.1 < M.B) (hlen : M.fd.length ≤ 1000) (A1 : Option Addr) (c1 : Nat) (l0 : List P2) (hl : RLies w A1 l0) (hl0 : l0.length ≤ 1000) (hwl : ∀ r ∈ l0, WfP r) :
    Calls Try.prog 16 #[PtrV s, .slice A1 l0.length c1] w (PickPost (M.pickF l0) (M.pickE l0) w) := by
  have hmm := @run_makeMap Try.prog
  have HS := Lib.hid h
  have HP := Lib.hid h.parts
  have HL := Lib.hid hl
  have HWF := Lib.hid hwf
  have HWL := Lib.hid hwl
  have HOK := Lib.hid ok
  clear h hl hwf hwl ok
  cases ht : M.thr with
  | false =>
    have HT := Lib.hid ht
    have e1 : M.pickF l0 = [] := by unfold MS.pickF; rw [if_neg (by rw [ht]; simp)]
    have e2 : M.pickE l0 = 0 := by unfold MS.pickE; rw [if_pos ht]
    rw [e1, e2]
    clear ht e1 e2
    go_enter Try.func16, Try.ntmps16
    go_wp2_with (first
      | (go_at_call 34; refine (m_is HP.out).mono ?_; rintro e w1 ⟨rfl, hw1⟩; obtain rfl := hw1)
      | (go_at_call 39; refine (m_through HP.out HOK.out).mono ?_; rintro e w1 ⟨rfl, nq, rfl⟩; rw [HT.out])
      | fail)
    go_ret2
    exact PickPost.none 0 rfl (drewN_below (Below.refl _ _) _)
  | true =>
    have HT := Lib.hid ht
    clear ht
    go_enter Try.func16, Try.ntmps16
    go_wp2_with (first
      | (go_at_call 34; refine (m_is HP.out).mono ?_; rintro e w1 ⟨rfl, hw1⟩; obtain rfl := hw1)
      | (go_at_call 39; refine (m_through HP.out HOK.out).mono ?_; rintro e w1 ⟨rfl, nq, rfl⟩; rw [HT.out]; (obtain ⟨W1, hW1⟩ : ∃ W1, W1 = w.drewN nq := ⟨_, rfl⟩); rw [← hW1]; have HW1 : Hid (Below w.heap.size w W1) := Lib.hid (by rw [hW1]; exact drewN_below (Below.refl _ _) _); clear hW1)
      | fail)
    have HM0 := Lib.hid (World.ownsMap_made (H := Unit) W1 Try.prog 3 (plainElem Try.prog 3))
    have HB0 : Hid (Below w.heap.size w (W1.alloc (.map #[] 0))) := Lib.hid (HW1.out.alloc HW1.out.size _)
    obtain ⟨b, hb⟩ : ∃ b, b = W1.heap.size := ⟨_, rfl⟩
    have HBb : Hid (w.heap.size ≤ b) := Lib.hid (by rw [hb]; exact HW1.out.size)
    rw [← hb] at HM0 ⊢
    generalize W1.alloc (.map #[] 0) = w1 at HM0 HB0 ⊢
    clear hmm hb HW1
    go_loopw [24] (fun v24 wr => ∃ j : Nat, j ≤ l0.length ∧ v24 = .int .i64 j ∧ PmAt wr b j (l0.take j) ∧ Below w.heap.size w wr) (fun v24 _ => l0.length - (intOf v24).toNat)
    case atStart => exact ⟨0, Nat.zero_le _, rfl, ⟨_, HM0.out, Pm.zero⟩, HB0.out⟩
    case round =>
      obtain ⟨j, hj, rfl, ⟨D, hD, hPm⟩, hB⟩ := hrel
      have HB := Lib.hid hB
      have HD := Lib.hid hD
      have HPm := Lib.hid hPm
      have hs := hB.size
      clear hB hD hPm
      by_cases hj1 : j < l0.length
      · obtain ⟨B, o, rfl, hBs, hc⟩ := (HL.out.below HB.out) (by omega)
        obtain ⟨k0, k1⟩ := hc j hj1
        have HW := Lib.hid (HWL.out l0[j] (List.getElem_mem hj1))
        have HTK : Hid (l0.take (j + 1) = l0.take j ++ [l0[j]]) := Lib.hid (List.take_succ_eq_append_getElem hj1)
        clear hc
        generalize l0[j] = r at k0 k1 HW HTK
        have HD2 : Hid ((wr.alloc (.cells #[.int .i64 r.1, .int .i64 r.2] 31)).ownsMap Try.prog 3 (plainElem Try.prog 3) b j D) := Lib.hid (HD.out.kept (World.grownBy_alloc wr _ none) (by simp))
        have HKEY := Lib.hid (pkey HW.out.1)
        go_wp2_with (at_mapUpdate; refine wpList_mapUpdate_own _ rfl _ _ _ 94 rfl 3 3 pkeyed Try.underlying94 (plainElem Try.prog 3) b j D rfl HD2.out (by unfold maxLen; omega) _ _ _ rfl rfl HKEY.out (.lit (.int .i64 r.2)) [] (plainElem_int Try.underlying3 HW.out.2) ?_; intro w5 hown5 hg5)
        have HO5 := Lib.hid hown5
        have HB5 : Hid (Below w.heap.size w w5) := Lib.hid ((HB.out.alloc hs _).grown hg5 (by simp; omega) fun k e => by cases e; exact HBb.out)
        clear hown5 hg5
        go_roundw
        case rel => exact ⟨j + 1, by omega, by go_num, by rw [HTK.out]; exact ⟨_, HO5.out, HPm.out.step HW.out.1⟩, HB5.out⟩
        case measure => simp [intOf]; omega
      · obtain rfl : j = l0.length := by omega
        rw [List.take_length] at HPm
        have hln := fun ty => HD.out.len Try.underlying94 ty
        obtain ⟨n, hn⟩ : ∃ n, n = Maps.size D := ⟨_, rfl⟩
        rw [← hn] at hln
        have hnl : n ≤ l0.length := by rw [hn]; exact HPm.out.size
        have HE : Hid (n = l0.length ↔ (l0.map (·.1)).Nodup) := Lib.hid (by rw [hn]; exact HPm.out.nodup)
        have HPA : Hid (PmAt wr b l0.length l0) := Lib.hid ⟨D, HD.out, HPm.out⟩
        clear hn
        by_cases hlt : n < l0.length
        · have hnd : ¬ (l0.map (·.1)).Nodup := fun e => by have := HE.out.2 e; omega
          have e1 : M.pickF l0 = [] := by unfold MS.pickF; rw [if_neg fun e => hnd e.2.1]
          have e2 : M.pickE l0 = 1 := by unfold MS.pickE; rw [if_neg (by rw [HT.out]; simp), if_pos hnd]
          have E12 := Lib.hid (And.intro e1 e2)
          clear hnd e1 e2
          go_wp2_with fail
          go_ret2
          rw [E12.out.1, E12.out.2]
          exact PickPost.none 1 rfl HB.out
        · have hnd : (l0.map (·.1)).Nodup := HE.out.1 (by omega)
          have HND := Lib.hid hnd
          have hsc : ScanAt wr s c (fun k => Y k ∨ New w wr k) v A cap M := HS.out.grow (F := fun _ => False) (.of_below HB.out) fun _ k => k.elim
          have HSC := Lib.hid hsc
          clear hnd hsc
          go_wp2_with (first
            | (go_at_call 40; refine (m_tables HSC.out HOK.out HPA.out HWF.out hlen).mono ?_; rintro e w7 ⟨G, p, O, rfl, hT, hb7⟩; have HTB := Lib.hid hT; have HB7 : Hid (Below w.heap.size w w7) := Lib.hid (HB.out.trans (hb7.mono hs)); have hz7 := hb7.size; clear hT hb7)
            | fail)
          have hB := HOK.out.b64
          obtain ⟨Ts, hTs⟩ : ∃ Ts, tabsF l0 M.fd = Ts := ⟨_, rfl⟩
          have HLN : Hid (∀ b, (Ts b).length ≤ 1000) := Lib.hid fun b => by
            rw [← hTs]
            have := tabsTo_len l0 M.fd (backL M.fd) b
            have e : (backL M.fd).length = M.fd.length := by simp [backL]
            unfold tabsF; omega
          have HTS := Lib.hid hTs
          rw [hTs] at HTB
          obtain ⟨Bn, hBn⟩ : ∃ Bn, M.B = Bn := ⟨_, rfl⟩
          have HBn := Lib.hid hBn
          rw [hBn] at HTB hB ⊢
          clear hTs hBn hln hlt hnl
          obtain ⟨wr_, hwr_⟩ : ∃ z, z = wr := ⟨_, rfl⟩
          rw [← hwr_] at HTB hz7
          have hs_ : w.heap.size ≤ wr_.heap.size := by rw [hwr_]; exact hs
          clear hwr_
          go_loopw [10, 44] (fun v10 v44 wr => ∃ j : Nat, j ≤ l0.length ∧ v44 = .int .i64 j ∧ allB Ts Bn (l0.take j) = true ∧ FOwn wr w7.heap.size v10 (resB Ts Bn (l0.take j)) ∧ Below w7.heap.size w7 wr) (fun _ v44 _ => l0.length - (intOf v44).toNat)
          case atStart => exact ⟨0, Nat.zero_le _, rfl, rfl, fown_nil _ _, Below.refl _ _⟩
          case round =>
            obtain ⟨i, hi, rfl, hall, hown, hb2⟩ := hrel
            have HAL := Lib.hid hall
            have HO := Lib.hid hown
            have HB2 := Lib.hid hb2
            have hs2 := hb2.size
            have HBW : Hid (Below w.heap.size w wr) := Lib.hid (HB7.out.trans (hb2.mono HB7.out.size))
            clear hall hown hb2
            by_cases hi1 : i < l0.length
            · obtain ⟨Bk, o, rfl, hBs, hc⟩ := (HL.out.below HBW.out) (by omega)
              obtain ⟨k0, k1⟩ := hc i hi1
              have HW := Lib.hid (HWL.out l0[i] (List.getElem_mem hi1))
              have HTK : Hid (l0.take (i + 1) = l0.take i ++ [l0[i]]) := Lib.hid (List.take_succ_eq_append_getElem hi1)
              have HNO : Hid (¬ 0 < (bestTo Ts l0[i] Bn).2 → allB Ts Bn l0 = false) := Lib.hid (allB_no hi1)
              clear hc
              generalize l0[i] = r at k0 k1 HW HTK HNO
              obtain ⟨q, hq⟩ : ∃ q, bestTo Ts r Bn = q := ⟨_, rfl⟩
              have HQ := Lib.hid hq
              obtain ⟨xs, hxs⟩ : ∃ xs, resB Ts Bn (l0.take i) = xs := ⟨_, rfl⟩
              have HXS := Lib.hid hxs
              have hxl : xs.length = i := by rw [← hxs]; simp [resB]; omega
              rw [hxs] at HO
              have hT2 : Tabs (wr.alloc (.cells #[.int .i64 r.1, .int .i64 r.2] 31)) G Bn (fun b => b < wr_.heap.size) Ts p O := HTB.out.below (HB2.out.alloc hs2 _)
              have HT2 := Lib.hid hT2
              clear hq hxs hT2
              by_cases hpos : 0 < q.2
              · have hd : decide (0 < q.2) = true := by simpa using hpos
                have HD1 := Lib.hid hd
                clear hpos hd
                go_wp2_with (first
                  | (go_at_call 41; refine (m_best r HW.out Bn HT2.out hB.2 HLN.out).mono ?_; rintro e w8 ⟨rfl, hb8⟩; rw [HQ.out, HD1.out]; have HB8 : Hid (Below wr.heap.size wr w8) := Lib.hid (((Below.refl _ _).alloc (Nat.le_refl _) _).trans (hb8.mono (by simp))); have hs8 := hb8.size; have hx8 := (hb8.block wr.heap.size (by simp)).trans (heap_alloc_new wr (.cells #[.int .i64 r.1, .int .i64 r.2] 31)); have hy8 : (w8.alloc (.cells #[.int .i64 q.1.1, .int .i64 q.1.2] 40)).heap[wr.heap.size]? = some (.cells #[.int .i64 r.1, .int .i64 r.2] 31 (0, 0)) := (heap_alloc_oldX _ _ (lt_size hx8)).trans hx8; obtain ⟨p0, p1, -, -⟩ := cells2q hy8; clear hb8 hx8 hy8)
                  | (at_builtin; refine wpList_fapp rfl _ _ rfl w7.heap.size _ xs [(r, q.1)] (some ⟨_, 0, none⟩) 1 rfl rfl (fown_keep HO.out ((HB8.out.alloc HB8.out.size _).alloc (by have := HB8.out.size; simp; omega) _)) (fown_one_at _ (r, q.1) (by simp)) (fun e => by cases e) (by simp; omega) (by have := HB8.out.size; simp; omega) ?_; intro q3 cap3 w3 h3 hg3; have H3 := Lib.hid h3; have HG3 := Lib.hid hg3; clear h3 hg3)
                  | fail)
                have hz8 := HB8.out.size
                go_roundw
                case rel =>
                  refine ⟨i + 1, by omega, by go_num, ?_, ?_, ?_⟩
                  · rw [HTK.out, allB_snoc, HAL.out, HQ.out, HD1.out]; rfl
                  · rw [HTK.out, resB_snoc, HXS.out, HQ.out]; simpa [hxl] using H3.out
                  · exact (((HB2.out.trans (HB8.out.mono hs2)).alloc (by omega) _).alloc (by simp; omega) _).grown HG3.out (by simp; omega) fun k e => (World.ownsRow.lt HO.out k e).1
                case measure => simp [intOf]; omega
              · have hd : decide (0 < q.2) = false := by simpa using hpos
                have HD1 := Lib.hid hd
                have hal := HNO.out (by rw [HQ.out]; exact hpos)
                have e1 : M.pickF l0 = [] := by unfold MS.pickF; rw [HTS.out, HBn.out, if_neg fun e => by rw [hal] at e; exact absurd e.2.2 (by simp)]
                have e2 : M.pickE l0 = 8 := by unfold MS.pickE; rw [HTS.out, HBn.out, if_neg (by rw [HT.out]; simp), if_neg (fun e => e HND.out), if_neg (by rw [hal]; simp)]
                have E12 := Lib.hid (And.intro e1 e2)
                clear hpos hd hal e1 e2
                go_wp2_with (first
                  | (go_at_call 41; refine (m_best r HW.out Bn HT2.out hB.2 HLN.out).mono ?_; rintro e w8 ⟨rfl, hb8⟩; rw [HQ.out, HD1.out]; have HB8 : Hid (Below wr.heap.size wr w8) := Lib.hid (((Below.refl _ _).alloc (Nat.le_refl _) _).trans (hb8.mono (by simp))); have hs8 := hb8.size; clear hb8)
                  | fail)
                go_ret2
                rw [E12.out.1, E12.out.2]
                exact PickPost.none 8 rfl (HBW.out.trans ((HB8.out.alloc HB8.out.size _).mono HBW.out.size))
            · obtain rfl : i = l0.length := by omega
              rw [List.take_length] at HAL HO
              obtain ⟨qv, qc, rfl, _⟩ := own_slice HO.out
              have e1 : M.pickF l0 = resB Ts Bn l0 := by unfold MS.pickF; rw [HTS.out, HBn.out, if_pos ⟨HT.out, HND.out, HAL.out⟩]
              have e2 : M.pickE l0 = 0 := by unfold MS.pickE; rw [HTS.out, HBn.out, if_neg (by rw [HT.out]; simp), if_neg (fun e => e HND.out), if_pos HAL.out]
              have E12 := Lib.hid (And.intro e1 e2)
              clear e1 e2
              go_wp2_with fail
              go_ret2
              rw [E12.out.1, E12.out.2]
              obtain ⟨f1, f2, f3, f4⟩ := HO.out.lies
              exact ⟨qv, qc, rfl, f1, fun ad e => by have := f3 ad e; have := HB7.out.size; omega, fun e => by obtain ⟨e1, e2⟩ := HO.out.plainM e; exact ⟨by rw [e1]; rfl, e2⟩, HBW.out⟩
set_option maxRecDepth 100000 in
theorem m_pick_nil (v1 : Value) (w : World) : Calls Try.prog 16 #[.pointer none, v1] w (PickPost [] 1 w) := by
  go_enter Try.func16, Try.ntmps16
  go_wp2_with (go_at_call 34; refine (m_is_nil _).mono ?_; rintro e w1 ⟨rfl, hw1⟩; obtain rfl := hw1)
  go_ret2
  exact PickPost.none 1 rfl (Below.refl _ _)
end
end Go.Proofs.Ytnadcdgpfopcaaa
