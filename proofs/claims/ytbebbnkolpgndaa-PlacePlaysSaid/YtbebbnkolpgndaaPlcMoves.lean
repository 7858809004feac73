/- PlaceMoves: what is put anew has gone from where it was: the law's walk. -/
import Derived.Deep.RegionHeld3
import Derived.Deep.DeepCutAuto
import Derived.Test.YtbebbnkolpgndaaPlcSort
import Derived.Test.YtbebbnkolpgndaaPlcCrowd
namespace Go.Proofs.Ytbebbnkolpgndaa
open Go.RowKit

theorem neq_spot (a : P2) (w : World) : Sem.run Try.prog (binOp BinOp.neq 24 (P2V a) (P2V a)) w = .ok (.bool false) w := by
  simp [go_sem]
theorem neq_ref (a : P2) (w : World) : Sem.run Try.prog (binOp BinOp.neq 30 (P2V a) (P2V a)) w = .ok (.bool false) w := by
  simp [go_sem]
theorem below_drewN {n0 : Nat} {w0 w : World} (h : Below n0 w0 w) : ∀ k, Below n0 w0 (w.drewN k)
  | 0 => h
  | k + 1 => (below_drewN h k).drew
theorem blks_mem (L : List Fd) : ∀ x ∈ blksOf L, ∃ f ∈ L, f.2.1 = x := by
  suffices h : ∀ (L : List Fd) (D : List Int), ∀ x ∈ L.foldl (fun D f => stepD D f.2.1) D, x ∈ D ∨ ∃ f ∈ L, f.2.1 = x by
    intro x hx
    rcases h L [] x hx with h | h
    · cases h
    · exact h
  intro L
  induction L with
  | nil => intro D x hx; exact .inl hx
  | cons f L ih =>
    intro D x hx
    rw [List.foldl_cons] at hx
    rcases ih _ x hx with h | ⟨g, hg, e⟩
    · unfold stepD at h
      split at h
      · exact .inl h
      · rcases List.mem_append.1 h with h | h
        · exact .inl h
        · exact .inr ⟨f, List.mem_cons_self .., (List.mem_singleton.1 h).symm⟩
    · exact .inr ⟨g, List.mem_cons_of_mem _ hg, e⟩
theorem wp_world {P : Program} {Q : Exit → Act → World → Prop} {a : Act} {W : World} {c : Code} (h : ∀ W2, W2 = W → c.wp P Q a W2) : c.wp P Q a W := h W rfl
theorem last_at {D : List Int} {m : Nat} (hm : D.length = m) (h1 : 0 < m) : ∃ h : m - 1 < D.length, D.getLast? = some D[m - 1] := by
  subst hm
  refine ⟨by omega, ?_⟩
  rw [List.getLast?_eq_getElem?, List.getElem?_eq_getElem (by omega)]
set_option maxRecDepth 100000 in
set_option maxHeartbeats 4000000 in
theorem moves9_any (A : Option Addr) (c : Nat) (l : List Cl) (w : World) (_hc : l.length ≤ maxLen) (hA : CLies w A l) (hw : CWf l) :
    Calls Try.prog 5 #[.slice A l.length c] w (Holds w) := by
  unfold maxLen at _hc
  by_cases hl : 150 < l.length
  · clear hA hw
    go_enter Try.func5, Try.ntmps5
    go_wp2_with (go_at_call 8; refine (awake_any _).mono ?_; rintro e w1 ⟨rfl, hb1⟩)
    go_ret
    exact ⟨rfl, hb1⟩
  have HA := Lib.hid hA
  have HW := Lib.hid hw
  clear hA hw
  go_enter Try.func5, Try.ntmps5
  go_wp2_with (go_at_call 9; refine (newT_any _).mono ?_; rintro e w1 ⟨p, rfl, h1, hb1⟩; have H1 := Lib.hid h1; have HB1 := Lib.hid hb1; clear h1 hb1)
  go_loopw [24] (fun v24 wr => ∃ j : Nat, j ≤ l.length ∧ v24 = .int .i64 j ∧ Tab wr p (fun b => b < w.heap.size) (putsT (l.take j)) ∧ Below w.heap.size w wr) (fun v24 _ => l.length - (intOf v24).toNat)
  case atStart => exact ⟨0, Nat.zero_le _, rfl, H1.out, HB1.out⟩
  case round =>
    obtain ⟨j, hj, rfl, hT, hB⟩ := hrel
    have HT := Lib.hid hT
    have HB := Lib.hid hB
    have hs := hB.size
    clear hT hB
    by_cases hj1 : j < l.length
    · obtain ⟨B, o, rfl, hBs, hcs⟩ := (HA.out.below HB.out) (by omega)
      obtain ⟨k0, k1, k2, k3, k4⟩ := hcs j hj1
      have HP := Lib.hid (puts_take hj1)
      have hlen : (putsT (l.take j)).length ≤ 1000 := Nat.le_trans (puts_len _) (by simp; omega)
      have HC := Lib.hid (HW.out _ (List.getElem_mem hj1))
      have hbx := (Below.refl wr.heap.size wr).alloc (Nat.le_refl _) (.cells #[.int .i64 l[j].1, .int .i64 l[j].2.1.1, .int .i64 l[j].2.1.2, .int .i64 l[j].2.2.1, .int .i64 l[j].2.2.2] 32)
      have HT2 := Lib.hid (HT.out.below hbx)
      have HB2 := Lib.hid (HB.out.trans (hbx.mono hs))
      clear hcs hbx
      generalize l[j] = q at *
      have HPt := Lib.hid (putT_any q.2.1 q.2.2 HT2.out hlen HC.out.2.1 HC.out.2.2)
      rw [← HP.out] at HPt
      clear hlen
      go_wp2_with (go_at_call 11; refine HPt.out.mono ?_; rintro e w3 ⟨rfl, h3, hs3⟩)
      go_roundw
      case rel => exact ⟨j + 1, by omega, by go_num, h3, HB2.out.trans (Safe.below hs3 (fun b hb => hb) HB2.out.size)⟩
      case measure => simp [intOf]; omega
    · obtain rfl : j = l.length := by omega
      obtain ⟨w3, rfl⟩ : ∃ w3, w3 = wr := ⟨_, rfl⟩
      rw [show l.take l.length = l from List.take_length] at HT
      have hlen := puts_len l
      have HTw := Lib.hid (puts_wf l HW.out)
      generalize putsT l = T at *
      have HAl := Lib.hid (allT_any HT.out (by omega))
      have HAp := Lib.hid (allT_perm T)
      have hll := (allT_perm T).length_eq
      have HAs := Lib.hid (allT_asc T)
      generalize allT T = L at *
      have HLw := Lib.hid (HTw.out.perm HAp.out)
      go_wp2_with (go_at_call 18; refine HAl.out.mono ?_; rintro e w4 ⟨A4, c4, rfl, hf4, hn4, hb4⟩; have HF4 := Lib.hid hf4; have HN4 := Lib.hid hn4; have HB4 := Lib.hid hb4; clear hf4 hn4 hb4)
      have hll4 : L.length ≤ 150 := by omega
      have hs4 := HB4.out.size
      have HT4 := Lib.hid (HT.out.below HB4.out)
      have HW4 := Lib.hid (HB.out.trans (HB4.out.mono hs))
      have HTW := Lib.hid HT.out.wf
      have hT150 : T.length ≤ 1000 := by omega
      go_loopw [6, 38] (fun v6 v38 wx => ∃ i : Nat, i ≤ L.length ∧ v38 = .int .i64 i ∧ IOwn wx w4.heap.size v6 (blksOf (L.take i)) ∧ Below w4.heap.size w4 wx) (fun _ v38 _ => L.length - (intOf v38).toNat)
      case atStart => exact ⟨0, Nat.zero_le _, rfl, iown_nil _ _, Below.refl _ _⟩
      case round =>
        obtain ⟨i, hi, rfl, hO, hB⟩ := hrel
        have HO := Lib.hid hO
        have HBi := Lib.hid hB
        have hsi := hB.size
        clear hO hB
        by_cases hi1 : i < L.length
        · have HSt := Lib.hid (blks_take hi1)
          have hdl := blks_le (L.take i)
          have hdl2 : (L.take i).length ≤ 150 := by simp; omega
          have hmem := HAp.out.mem_iff.1 (List.getElem_mem hi1)
          have hat := atT_some HTW.out hmem
          have hon := onT_some HTW.out hmem
          have hwf := HTw.out _ hmem
          obtain ⟨B, o, rfl, hBs, hcs⟩ := (HF4.out.below HBi.out) (by omega)
          obtain ⟨k0, k1, k2, k3⟩ := hcs i hi1
          clear hcs hmem
          generalize L[i] = f at *
          generalize blksOf (L.take i) = D at *
          obtain ⟨p6, cap6, hv6, -⟩ := own_slice HO.out
          obtain ⟨m, hm⟩ : ∃ m, D.length = m := ⟨_, rfl⟩
          have hm150 : m ≤ 150 := by omega
          rw [hm] at hv6
          subst hv6
          have HM := Lib.hid hm
          have HAt := Lib.hid hat
          have HOn := Lib.hid hon
          have HWf := Lib.hid hwf
          have HD := Lib.hid hdl2
          clear hat hon hwf hdl hdl2
          obtain ⟨wb, hwb⟩ : ∃ wb, wb = wr.alloc (.cells #[.int .i64 f.1.1, .int .i64 f.1.2, .int .i64 f.2.1, .int .i64 f.2.2] 34) := ⟨_, rfl⟩
          have hbb : Below wr.heap.size wr wb := by rw [hwb]; exact (Below.refl _ _).alloc (Nat.le_refl _) _
          have hyb : wb.heap[wr.heap.size]? = some (.cells #[.int .i64 f.1.1, .int .i64 f.1.2, .int .i64 f.2.1, .int .i64 f.2.2] 34 (0, 0)) := by rw [hwb]; exact heap_alloc_new wr _
          have HBb := Lib.hid hbb
          have HYb := Lib.hid hyb
          have HWB := Lib.hid hwb
          clear hbb hyb hwb
          rcases Nat.eq_zero_or_pos m with h0 | h0
          · have hd0 : D = [] := List.length_eq_zero_iff.1 (by omega)
            have HSz : Hid (blksOf (L.take (i + 1)) = D ++ [f.2.1]) := Lib.hid (HSt.out.trans (by rw [hd0]; rfl))
            have hD0 : D.length ≤ 150 := by omega
            clear hm hd0
            obtain rfl := h0
            have hk0 : (((0 : Nat) : Int) == 0) = true := by rfl
            obtain ⟨m0, m1, m2, m3⟩ := cells4p HYb.out
            go_wp2_with fail
            rw [← HWB.out]
            clear HWB
            go_quiet (fail)
            obtain ⟨wd, hwd⟩ : ∃ wd, wd = wb.drewN nq := ⟨_, rfl⟩
            rw [← hwd]
            have HYd : Hid (wd.heap[wr.heap.size]? = some (.cells #[.int .i64 f.1.1, .int .i64 f.1.2, .int .i64 f.2.1, .int .i64 f.2.2] 34 (0, 0))) := Lib.hid (by rw [hwd]; exact HYb.out)
            have HBd : Hid (Below wr.heap.size wr wd) := Lib.hid (by rw [hwd]; exact below_drewN HBb.out nq)
            have HOd : Hid (IOwn wd w4.heap.size (.slice p6 0 cap6) D) := Lib.hid (by rw [hwd]; exact iown_keep HO.out (below_drewN HBb.out nq))
            have hyd := lt_size HYd.out
            have hsd := HBd.out.size
            obtain ⟨d0, d1, d2, d3⟩ := cells4p HYd.out
            clear hwd m0 m1 m2 m3 HBb HYb hk0
            go_wp2_with (first
              | (at_builtin; refine wpList_app rfl _ _ rfl w4.heap.size _ D [f.2.1] _ 1 rfl rfl (iown_keep HOd.out ((Below.refl _ _).alloc (Nat.le_refl _) _)) (iown_one_at _ _ (by simp)) (by simp) (by simp; omega) (by simp; omega) ?_; intro q cap2 wz h3 hg3; have HOz := Lib.hid h3; have HBz : Hid (Below w4.heap.size w4 wz) := Lib.hid (iown_below (iown_keep HOd.out ((Below.refl _ _).alloc (Nat.le_refl _) _)) ((HBi.out.trans (HBd.out.mono hsi)).alloc (by omega) _) hg3 (by simp; omega)); have HYz : Hid (wz.heap[wr.heap.size]? = some (.cells #[.int .i64 f.1.1, .int .i64 f.1.2, .int .i64 f.2.1, .int .i64 f.2.2] 34 (0, 0))) := Lib.hid ((hg3.block wr.heap.size (by simp; omega) (fun e => absurd (World.ownsRow.lt HO.out _ e.symm).2 (Nat.lt_irrefl _))).trans ((Below.heap_alloc _ _ _ (by omega)).trans HYd.out)); clear h3 hg3 HOd HYd HBd; have hz4 := HBz.out.size; have hzy := lt_size HYz.out; obtain ⟨z0, z1, z2, z3⟩ := cells4p HYz.out; have HTz := Lib.hid (HT4.out.below HBz.out); have HC1 := Lib.hid (atT_any f.1 HTz.out hT150 HWf.out.1); rw [HAt.out] at HC1)
              | (go_at_call 12; (with_reducible refine HC1.out.mono ?_); rintro e w5 ⟨rfl, hb5⟩; simp only [Option.getD_some, Option.isSome_some]; have HB5 := Lib.hid hb5; have HY5 := Lib.hid ((hb5.block _ hzy).trans HYz.out); have HB6 := Lib.hid (hb5.alloc hb5.size (.cells #[.int .i64 f.2.1, .int .i64 f.2.2] 24)); have HN6 := Lib.hid (heap_alloc_new w5 (.cells #[.int .i64 f.2.1, .int .i64 f.2.2] 24)); have HY6 := Lib.hid ((HB6.out.block _ hzy).trans HYz.out); obtain ⟨y0, y1, y2, y3⟩ := cells4p HY6.out; have HT6 := Lib.hid (HTz.out.below HB6.out); have HC2 := Lib.hid (onT_any f.2 HT6.out hT150 HWf.out.2); rw [HOn.out] at HC2; clear hb5)
              | (go_at_call 13; (with_reducible refine HC2.out.mono ?_); rintro e w7 ⟨rfl, hb7⟩; simp only [Option.getD_some, Option.isSome_some]; have HB8 := Lib.hid (hb7.alloc hb7.size (.cells #[.int .i64 f.1.1, .int .i64 f.1.2] 30)); have HN8 := Lib.hid (heap_alloc_new w7 (.cells #[.int .i64 f.1.1, .int .i64 f.1.2] 30)); have HS8 := Lib.hid ((HB8.out.block _ (lt_size HN6.out)).trans HN6.out); have HY8 := Lib.hid ((HB8.out.block _ (lt_size HY6.out)).trans HY6.out); obtain ⟨x0, x1, x2, x3⟩ := cells4p HY8.out; obtain ⟨s0, s1⟩ := cells2p HS8.out; obtain ⟨r0, r1⟩ := cells2p HN8.out; clear hb7))
            go_roundw
            case rel => exact ⟨i + 1, by omega, by go_num, by rw [HSz.out]; exact iown_keep (iown_keep HOz.out HB6.out) HB8.out, (HBz.out.trans (HB6.out.mono hz4)).trans (HB8.out.mono (Nat.le_trans hz4 HB6.out.size))⟩
            case measure => simp [intOf]; omega
          · obtain ⟨hlt, hlast⟩ := last_at hm h0
            have hk0 : ((m : Int) == 0) = false := by simp; omega
            obtain ⟨hI, -, -⟩ := HO.out.arr
            obtain ⟨Bd, od, rfl, hBd, hcd⟩ := hI (by rw [hm]; exact h0)
            have kd := hcd (m - 1) hlt
            have kd2 := (HBb.out.cell (p := ⟨Bd, od + (m - 1), none⟩) hBd).trans kd
            obtain ⟨m0, m1, m2, m3⟩ := cells4p HYb.out
            clear hcd hI kd
            by_cases he : D[m - 1] = f.2.1
            · rw [he] at hlast kd2
              have HSz := Lib.hid (HSt.out.trans (if_pos hlast))
              clear hlast he hlt hm
              go_wp2_with fail
              rw [← HWB.out]
              clear HWB
              go_quiet (fail)
              obtain ⟨wz, hwz⟩ : ∃ wz, wz = wb.drewN nq := ⟨_, rfl⟩
              rw [← hwz]
              have HYz : Hid (wz.heap[wr.heap.size]? = some (.cells #[.int .i64 f.1.1, .int .i64 f.1.2, .int .i64 f.2.1, .int .i64 f.2.2] 34 (0, 0))) := Lib.hid (by rw [hwz]; exact HYb.out)
              have HBz : Hid (Below w4.heap.size w4 wz) := Lib.hid (by rw [hwz]; exact below_drewN (HBi.out.trans (HBb.out.mono hsi)) nq)
              have HOz : Hid (IOwn wz w4.heap.size (.slice (some ⟨Bd, od, none⟩) m cap6) D) := Lib.hid (by rw [hwz]; exact iown_keep HO.out (below_drewN HBb.out nq))
              clear hwz m0 m1 m2 m3 kd2 hBd HBb HYb hk0
              have hz4 := HBz.out.size
              have hzy := lt_size HYz.out
              obtain ⟨z0, z1, z2, z3⟩ := cells4p HYz.out
              have HTz := Lib.hid (HT4.out.below HBz.out)
              have HC1 := Lib.hid (atT_any f.1 HTz.out hT150 HWf.out.1)
              rw [HAt.out] at HC1
              go_wp2_with (first
                | (go_at_call 12; (with_reducible refine HC1.out.mono ?_); rintro e w5 ⟨rfl, hb5⟩; simp only [Option.getD_some, Option.isSome_some]; have HB5 := Lib.hid hb5; have HY5 := Lib.hid ((hb5.block _ hzy).trans HYz.out); have HB6 := Lib.hid (hb5.alloc hb5.size (.cells #[.int .i64 f.2.1, .int .i64 f.2.2] 24)); have HN6 := Lib.hid (heap_alloc_new w5 (.cells #[.int .i64 f.2.1, .int .i64 f.2.2] 24)); have HY6 := Lib.hid ((HB6.out.block _ hzy).trans HYz.out); obtain ⟨y0, y1, y2, y3⟩ := cells4p HY6.out; have HT6 := Lib.hid (HTz.out.below HB6.out); have HC2 := Lib.hid (onT_any f.2 HT6.out hT150 HWf.out.2); rw [HOn.out] at HC2; clear hb5)
                | (go_at_call 13; (with_reducible refine HC2.out.mono ?_); rintro e w7 ⟨rfl, hb7⟩; simp only [Option.getD_some, Option.isSome_some]; have HB8 := Lib.hid (hb7.alloc hb7.size (.cells #[.int .i64 f.1.1, .int .i64 f.1.2] 30)); have HN8 := Lib.hid (heap_alloc_new w7 (.cells #[.int .i64 f.1.1, .int .i64 f.1.2] 30)); have HS8 := Lib.hid ((HB8.out.block _ (lt_size HN6.out)).trans HN6.out); have HY8 := Lib.hid ((HB8.out.block _ (lt_size HY6.out)).trans HY6.out); obtain ⟨x0, x1, x2, x3⟩ := cells4p HY8.out; obtain ⟨s0, s1⟩ := cells2p HS8.out; obtain ⟨r0, r1⟩ := cells2p HN8.out; clear hb7))
              go_roundw
              case rel => exact ⟨i + 1, by omega, by go_num, by rw [HSz.out]; exact iown_keep (iown_keep HOz.out HB6.out) HB8.out, (HBz.out.trans (HB6.out.mono hz4)).trans (HB8.out.mono (Nat.le_trans hz4 HB6.out.size))⟩
              case measure => simp [intOf]; omega
            · generalize D[m - 1] = e0 at *
              have HSz : Hid (blksOf (L.take (i + 1)) = D ++ [f.2.1]) := Lib.hid (HSt.out.trans (if_neg (by rw [hlast]; simpa using he)))
              have hne : (e0 != f.2.1) = true := by simpa using he
              have hD0 : D.length ≤ 150 := by omega
              clear hlast he hlt hm
              go_wp2_with fail
              rw [← HWB.out]
              clear HWB
              go_quiet (fail)
              obtain ⟨wd, hwd⟩ : ∃ wd, wd = wb.drewN nq := ⟨_, rfl⟩
              rw [← hwd]
              have HYd : Hid (wd.heap[wr.heap.size]? = some (.cells #[.int .i64 f.1.1, .int .i64 f.1.2, .int .i64 f.2.1, .int .i64 f.2.2] 34 (0, 0))) := Lib.hid (by rw [hwd]; exact HYb.out)
              have HBd : Hid (Below wr.heap.size wr wd) := Lib.hid (by rw [hwd]; exact below_drewN HBb.out nq)
              have HOd : Hid (IOwn wd w4.heap.size (.slice (some ⟨Bd, od, none⟩) m cap6) D) := Lib.hid (by rw [hwd]; exact iown_keep HO.out (below_drewN HBb.out nq))
              have hyd := lt_size HYd.out
              have hsd := HBd.out.size
              obtain ⟨d0, d1, d2, d3⟩ := cells4p HYd.out
              clear hwd m0 m1 m2 m3 kd2 HBb HYb hk0
              go_wp2_with (first
                | (at_builtin; refine wpList_app rfl _ _ rfl w4.heap.size _ D [f.2.1] _ 1 rfl rfl (iown_keep HOd.out ((Below.refl _ _).alloc (Nat.le_refl _) _)) (iown_one_at _ _ (by simp)) (by simp) (by simp; omega) (by simp; omega) ?_; intro q cap2 wz h3 hg3; have HOz := Lib.hid h3; have HBz : Hid (Below w4.heap.size w4 wz) := Lib.hid (iown_below (iown_keep HOd.out ((Below.refl _ _).alloc (Nat.le_refl _) _)) ((HBi.out.trans (HBd.out.mono hsi)).alloc (by omega) _) hg3 (by simp; omega)); have HYz : Hid (wz.heap[wr.heap.size]? = some (.cells #[.int .i64 f.1.1, .int .i64 f.1.2, .int .i64 f.2.1, .int .i64 f.2.2] 34 (0, 0))) := Lib.hid ((hg3.block wr.heap.size (by simp; omega) (fun e => absurd (World.ownsRow.lt HO.out _ e.symm).2 (Nat.lt_irrefl _))).trans ((Below.heap_alloc _ _ _ (by omega)).trans HYd.out)); clear h3 hg3 HOd HYd HBd; have hz4 := HBz.out.size; have hzy := lt_size HYz.out; obtain ⟨z0, z1, z2, z3⟩ := cells4p HYz.out; have HTz := Lib.hid (HT4.out.below HBz.out); have HC1 := Lib.hid (atT_any f.1 HTz.out hT150 HWf.out.1); rw [HAt.out] at HC1)
                | (go_at_call 12; (with_reducible refine HC1.out.mono ?_); rintro e w5 ⟨rfl, hb5⟩; simp only [Option.getD_some, Option.isSome_some]; have HB5 := Lib.hid hb5; have HY5 := Lib.hid ((hb5.block _ hzy).trans HYz.out); have HB6 := Lib.hid (hb5.alloc hb5.size (.cells #[.int .i64 f.2.1, .int .i64 f.2.2] 24)); have HN6 := Lib.hid (heap_alloc_new w5 (.cells #[.int .i64 f.2.1, .int .i64 f.2.2] 24)); have HY6 := Lib.hid ((HB6.out.block _ hzy).trans HYz.out); obtain ⟨y0, y1, y2, y3⟩ := cells4p HY6.out; have HT6 := Lib.hid (HTz.out.below HB6.out); have HC2 := Lib.hid (onT_any f.2 HT6.out hT150 HWf.out.2); rw [HOn.out] at HC2; clear hb5)
                | (go_at_call 13; (with_reducible refine HC2.out.mono ?_); rintro e w7 ⟨rfl, hb7⟩; simp only [Option.getD_some, Option.isSome_some]; have HB8 := Lib.hid (hb7.alloc hb7.size (.cells #[.int .i64 f.1.1, .int .i64 f.1.2] 30)); have HN8 := Lib.hid (heap_alloc_new w7 (.cells #[.int .i64 f.1.1, .int .i64 f.1.2] 30)); have HS8 := Lib.hid ((HB8.out.block _ (lt_size HN6.out)).trans HN6.out); have HY8 := Lib.hid ((HB8.out.block _ (lt_size HY6.out)).trans HY6.out); obtain ⟨x0, x1, x2, x3⟩ := cells4p HY8.out; obtain ⟨s0, s1⟩ := cells2p HS8.out; obtain ⟨r0, r1⟩ := cells2p HN8.out; clear hb7))
              go_roundw
              case rel => exact ⟨i + 1, by omega, by go_num, by rw [HSz.out]; exact iown_keep (iown_keep HOz.out HB6.out) HB8.out, (HBz.out.trans (HB6.out.mono hz4)).trans (HB8.out.mono (Nat.le_trans hz4 HB6.out.size))⟩
              case measure => simp [intOf]; omega
        · obtain rfl : i = L.length := by omega
          obtain ⟨w9, rfl⟩ : ∃ w9, w9 = wr := ⟨_, rfl⟩
          rw [show L.take L.length = L from List.take_length] at HO
          have HSum := Lib.hid (sum_all HAp.out HAs.out)
          have HRise := Lib.hid (blks_rise HAs.out).1
          have HMem := Lib.hid (blks_mem L)
          have hdl := blks_le L
          generalize blksOf L = D at *
          obtain ⟨p6, cap6, rfl, -⟩ := own_slice HO.out
          have HT9 := Lib.hid (HT4.out.below HBi.out)
          obtain ⟨hI, -, -⟩ := HO.out.arr
          have HI := Lib.hid hI
          clear hI
          have hSum1 := HSum.out
          have HWX := Lib.hid (HW4.out.trans (HBi.out.mono (Nat.le_trans hs hs4)))
          go_wp2_with fail
          clear hll
          go_loopw [7, 98] (fun v7 v98 wx => ∃ j : Nat, j ≤ D.length ∧ v98 = .int .i64 j ∧ v7 = .int .i64 (sumL T (D.take j) : Nat) ∧ Below w9.heap.size w9 wx) (fun _ v98 _ => D.length - (intOf v98).toNat)
          case atStart => exact ⟨0, Nat.zero_le _, rfl, rfl, Below.refl _ _⟩
          case round =>
            obtain ⟨j, hj, rfl, rfl, hB⟩ := hrel
            have HBj := Lib.hid hB
            have hsj := hB.size
            clear hB
            by_cases hj1 : j < D.length
            · obtain ⟨Bd, od, rfl, hBd, hcd⟩ := HI.out (by omega)
              have k0 := (HBj.out.cell (p := ⟨Bd, od + j, none⟩) hBd).trans (hcd j hj1)
              have hst := sum_take T D j hj1
              have hle := sum_le T D (j + 1)
              have hwf : (Lit.int .i64 D[j]).wf = true := by
                obtain ⟨g, hg, e⟩ := HMem.out _ (List.getElem_mem hj1)
                rw [← e]
                exact (HLw.out _ hg).2.1
              have HLv := Lib.hid (liveT_any D[j] (HT9.out.below HBj.out) hT150 hwf)
              have HSt := Lib.hid hst
              generalize sumL T (D.take j) = s at *
              have hb2 : s + liveT T D[j] ≤ 1000 := by omega
              clear hle
              by_cases h0 : 0 < j
              · have k1 := (HBj.out.cell (p := ⟨Bd, od + (j - 1), none⟩) hBd).trans (hcd (j - 1) (by omega))
                have hlt := List.pairwise_iff_getElem.1 HRise.out (j - 1) j (by omega) hj1 (by omega)
                clear hcd hst hwf
                generalize D[j] = e1 at *
                generalize D[j - 1] = e0 at *
                generalize liveT T e1 = v at *
                go_wp2_with (go_at_call 16; refine HLv.out.mono ?_; rintro e w10 ⟨rfl, hb10⟩; have HB10 := Lib.hid (HBj.out.trans (hb10.mono hsj)); clear hb10)
                go_roundw
                case rel => exact ⟨j + 1, by omega, by go_num, by rw [HSt.out]; go_num, HB10.out⟩
                case measure => simp [intOf]; omega
              · obtain rfl : j = 0 := by omega
                clear hcd hst hwf
                generalize D[0] = e1 at *
                have k00 : wr.cell? ⟨Bd, od, none⟩ = some (.int .i64 e1) := k0
                clear k0
                generalize liveT T e1 = v at *
                go_wp2_with (go_at_call 16; refine HLv.out.mono ?_; rintro e w10 ⟨rfl, hb10⟩; have HB10 := Lib.hid (HBj.out.trans (hb10.mono hsj)); clear hb10)
                go_roundw
                case rel => exact ⟨0 + 1, by omega, by go_num, by rw [HSt.out]; go_num, HB10.out⟩
                case measure => simp [intOf]; omega
            · obtain rfl : j = D.length := by omega
              obtain ⟨w10, rfl⟩ : ∃ w10, w10 = wr := ⟨_, rfl⟩
              rw [show D.take D.length = D from List.take_length, hSum1]
              have HT10 := Lib.hid (HT9.out.below HBj.out)
              have HW10 := Lib.hid (HWX.out.trans (HBj.out.mono HWX.out.size))
              clear hSum1
              go_wp2_with (first
                | (go_at_call 14; refine (lenT_any HT10.out hT150).mono ?_; rintro e w11 ⟨rfl, hb11⟩; have HB11 := Lib.hid (HW10.out.trans (hb11.mono HW10.out.size)); clear hb11)
                | (go_at_call 8; refine (awake_any _).mono ?_; rintro e w12 ⟨rfl, hb12⟩; have HB12 := Lib.hid (HB11.out.trans (hb12.mono HB11.out.size)); clear hb12))
              go_ret
              exact ⟨rfl, HB12.out⟩
end Go.Proofs.Ytbebbnkolpgndaa
