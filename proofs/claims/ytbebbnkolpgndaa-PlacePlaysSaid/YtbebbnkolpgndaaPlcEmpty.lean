/- PlaceEmpty: what is cut is gone from everywhere: the law's walk. -/
import Derived.Test.YtbebbnkolpgndaaPlcPerm
namespace Go.Proofs.Ytbebbnkolpgndaa
open Go.RowKit

theorem cells4p {w : World} {p : Nat} {a b c d : Value} {t : TypeId} (h : w.heap[p]? = some (.cells #[a, b, c, d] t (0, 0))) : w.cell? ⟨p, 0, none⟩ = some a ∧ w.cell? ⟨p, 1, none⟩ = some b ∧ w.cell? ⟨p, 2, none⟩ = some c ∧ w.cell? ⟨p, 3, none⟩ = some d := by
  simp [World.cell?, h]
/-- A row that lies in safe blocks stays. -/
theorem FLies.safe {w w' : World} {A : Option Addr} {l : List Fd} {x : Nat → Prop} (h : FLies w A l) (hs : Safe x w w') (hx : ∀ ad, A = some ad → x ad.block) : FLies w' A l := fun hn => by
  obtain ⟨B, o, e, hB, hc⟩ := h hn
  have hk := Safe.block hs hB (hx _ e)
  refine ⟨B, o, e, Nat.lt_of_lt_of_le hB hs.size, fun j hj => ?_⟩
  obtain ⟨h0, h1, h2, h3⟩ := hc j hj
  exact ⟨(World.cell?_of_block (a := ⟨B, o + j * 4, none⟩) hk).trans h0, (World.cell?_of_block (a := ⟨B, o + j * 4 + 1, none⟩) hk).trans h1, (World.cell?_of_block (a := ⟨B, o + j * 4 + 2, none⟩) hk).trans h2, (World.cell?_of_block (a := ⟨B, o + j * 4 + 3, none⟩) hk).trans h3⟩
theorem drop_cons' (L : List Fd) (i : Nat) (h : i < L.length) : L.drop i = L[i] :: L.drop (i + 1) := List.drop_eq_getElem_cons h
set_option maxRecDepth 100000 in
set_option maxHeartbeats 4000000 in
theorem empty9_any (A : Option Addr) (c : Nat) (l : List Cl) (w : World) (_hc : l.length ≤ maxLen) (hA : CLies w A l) (hw : CWf l) :
    Calls Try.prog 6 #[.slice A l.length c] w (Holds w) := by
  unfold maxLen at _hc
  by_cases hl : 100 < l.length
  · clear hA hw
    go_enter Try.func6, Try.ntmps6
    go_wp2_with (go_at_call 8; refine (awake_any _).mono ?_; rintro e w1 ⟨rfl, hb1⟩)
    go_ret
    exact ⟨rfl, hb1⟩
  have HA := Lib.hid hA
  have HW := Lib.hid hw
  clear hA hw
  go_enter Try.func6, Try.ntmps6
  go_wp2_with (go_at_call 9; refine (newT_any _).mono ?_; rintro e w1 ⟨p, rfl, h1, hb1⟩; have H1 := Lib.hid h1; have HB1 := Lib.hid hb1; clear h1 hb1)
  go_loopw [20] (fun v20 wr => ∃ j : Nat, j ≤ l.length ∧ v20 = .int .i64 j ∧ Tab wr p (fun b => b < w.heap.size) (putsT (l.take j)) ∧ Below w.heap.size w wr) (fun v20 _ => l.length - (intOf v20).toNat)
  case atStart => exact ⟨0, Nat.zero_le _, rfl, H1.out, HB1.out⟩
  case round =>
    obtain ⟨j, hj, rfl, hT, hB⟩ := hrel
    have HT := Lib.hid hT
    have HB := Lib.hid hB
    have hs := hB.size
    clear hT hB
    by_cases hj1 : j < l.length
    · obtain ⟨B, o, rfl, hBs, hcs⟩ := (HA.out.below HB.out) (by omega)
      obtain ⟨k0, k1, k2, k3, k4⟩ := hcs j hj1
      have HP := Lib.hid (puts_take hj1)
      have hlen : (putsT (l.take j)).length ≤ 1000 := Nat.le_trans (puts_len _) (by simp; omega)
      have HC := Lib.hid (HW.out _ (List.getElem_mem hj1))
      have hbx := (Below.refl wr.heap.size wr).alloc (Nat.le_refl _) (.cells #[.int .i64 l[j].1, .int .i64 l[j].2.1.1, .int .i64 l[j].2.1.2, .int .i64 l[j].2.2.1, .int .i64 l[j].2.2.2] 32)
      have HT2 := Lib.hid (HT.out.below hbx)
      have HB2 := Lib.hid (HB.out.trans (hbx.mono hs))
      clear hcs hbx
      generalize l[j] = q at *
      have HPt := Lib.hid (putT_any q.2.1 q.2.2 HT2.out hlen HC.out.2.1 HC.out.2.2)
      rw [← HP.out] at HPt
      clear hlen
      go_wp2_with (go_at_call 11; refine HPt.out.mono ?_; rintro e w3 ⟨rfl, h3, hs3⟩)
      go_roundw
      case rel => exact ⟨j + 1, by omega, by go_num, h3, HB2.out.trans (Safe.below hs3 (fun b hb => hb) HB2.out.size)⟩
      case measure => simp [intOf]; omega
    · obtain rfl : j = l.length := by omega
      obtain ⟨w3, rfl⟩ : ∃ w3, w3 = wr := ⟨_, rfl⟩
      rw [show l.take l.length = l from List.take_length] at HT
      have hlen := puts_len l
      have HTw := Lib.hid (puts_wf l HW.out)
      generalize putsT l = T at *
      have HAl := Lib.hid (allT_any HT.out (by omega))
      have HAp := Lib.hid (allT_perm T)
      have hll := (allT_perm T).length_eq
      generalize allT T = L at *
      have HLw := Lib.hid (HTw.out.perm HAp.out)
      go_wp2_with (go_at_call 18; refine HAl.out.mono ?_; rintro e w4 ⟨A4, c4, rfl, hf4, hn4, hb4⟩; have HF4 := Lib.hid hf4; have HN4 := Lib.hid hn4; have HB4 := Lib.hid hb4; clear hf4 hn4 hb4)
      have hll4 : L.length ≤ 100 := by omega
      have HX4 := Lib.hid (show Tab w4 p (fun b => b < w.heap.size ∨ (w3.heap.size ≤ b ∧ b < w4.heap.size)) T from HT.out.more HB4.out)
      have HA4 : Hid (∀ ad, A4 = some ad → 0 < L.length → w3.heap.size ≤ ad.block ∧ ad.block < w4.heap.size) := Lib.hid fun ad e hp => by
        obtain ⟨B, o, e2, hB, _⟩ := HF4.out hp
        rw [e] at e2
        cases e2
        exact ⟨HN4.out _ e, hB⟩
      have HW4 := Lib.hid (HB.out.trans (HB4.out.mono hs))
      have hs4 := HB4.out.size
      go_loopw [35] (fun v35 wx => ∃ (i : Nat) (Ti : List Fd), i ≤ L.length ∧ v35 = .int .i64 i ∧ Ti.Perm (L.drop i) ∧ Tab wx p (fun b => b < w.heap.size ∨ (w3.heap.size ≤ b ∧ b < w4.heap.size)) Ti ∧ FLies wx A4 L ∧ Below w.heap.size w wx) (fun v35 _ => L.length - (intOf v35).toNat)
      case atStart => exact ⟨0, T, Nat.zero_le _, rfl, by rw [List.drop_zero]; exact HAp.out.symm, HX4.out, HF4.out, HW4.out⟩
      case round =>
        obtain ⟨i, Ti, hi, rfl, hp, hT, hF, hB⟩ := hrel
        have HTi := Lib.hid hT
        have HFi := Lib.hid hF
        have HBi := Lib.hid hB
        have hsi := hB.size
        clear hT hF hB
        by_cases hi1 : i < L.length
        · rw [drop_cons' L i hi1] at hp
          obtain ⟨g1, g2, g3⟩ := cut_step hp HTi.out.wf
          have hlen := hp.length_eq
          have hwf := HLw.out _ (List.getElem_mem hi1)
          have hlen1 := g2.length_eq
          rw [List.length_drop] at hlen1
          have hti : Ti.length ≤ 1000 := by rw [hlen, List.length_cons, List.length_drop]; omega
          have hap := fun ad e => (HA4.out ad e (by omega))
          obtain ⟨B, o, rfl, hBs, hcs⟩ := HFi.out (by omega)
          obtain ⟨k0, k1, k2, k3⟩ := hcs i hi1
          have hapB := hap _ rfl
          have HAP := Lib.hid hapB
          clear hcs hp hlen hap hapB
          generalize L[i] = f at *
          have hbx := (Below.refl wr.heap.size wr).alloc (Nat.le_refl _) (.cells #[.int .i64 f.1.1, .int .i64 f.1.2, .int .i64 f.2.1, .int .i64 f.2.2] 34)
          have HTb : Hid (Tab (wr.alloc (.cells #[.int .i64 f.1.1, .int .i64 f.1.2, .int .i64 f.2.1, .int .i64 f.2.2] 34)) p (fun b => (b < w.heap.size ∨ (w3.heap.size ≤ b ∧ b < w4.heap.size)) ∨ b = wr.heap.size) Ti) := Lib.hid ((HTi.out.more hbx).less fun b hb => hb.imp id fun e => ⟨by omega, by simp; omega⟩)
          have HFb := Lib.hid (HFi.out.below hbx)
          have HBb := Lib.hid (HBi.out.trans (hbx.mono hsi))
          have HYb := Lib.hid (heap_alloc_new wr (.cells #[.int .i64 f.1.1, .int .i64 f.1.2, .int .i64 f.2.1, .int .i64 f.2.2] 34))
          have HC1 := Lib.hid (cutT_any f.1 HTb.out hti hwf.1)
          rw [g1] at HC1
          have hr1 := hasR_cut Ti f.1
          have hc1 := cut_same hr1
          have ha1 := atT_none hr1
          generalize cutT Ti f.1 = T1 at *
          have ht1 : T1.length ≤ 1000 := by omega
          have htl : (T1.length : Int) = (L.length : Int) - (i : Int) - 1 := by omega
          have G2 := Lib.hid g2
          have HR1 := Lib.hid hr1
          have HCs := Lib.hid hc1
          have HAn := Lib.hid ha1
          have HOn := Lib.hid g3
          have HTl := Lib.hid htl
          have HWf := Lib.hid hwf
          clear hbx g1 g2 g3 hr1 hc1 ha1 hwf hlen1 hti
          go_wp2_with (first
            | (go_at_call 10; (with_reducible refine HC1.out.mono ?_); rintro e w5 ⟨rfl, h5, hs5⟩; have HT5 := Lib.hid h5; have HS5 := Lib.hid hs5; have HY5 := Lib.hid ((Safe.block hs5 (lt_size HYb.out) (.inr rfl)).trans HYb.out); obtain ⟨m0, m1, m2, m3⟩ := cells4p HY5.out; have HC2 := Lib.hid (cutT_any f.1 HT5.out ht1 HWf.out.1); rw [HR1.out, HCs.out] at HC2; clear h5 hs5)
            | (go_at_call 10; (with_reducible refine HC2.out.mono ?_); rintro e w6 ⟨rfl, h6, hs6⟩; have HT6 := Lib.hid h6; have HS6 := Lib.hid hs6; have HY6 := Lib.hid ((Safe.block hs6 (lt_size HY5.out) (.inr rfl)).trans HY5.out); have HC3 := Lib.hid (lenT_any HT6.out ht1); rw [HTl.out] at HC3; clear h6 hs6)
            | (go_at_call 14; refine HC3.out.mono ?_; rintro e w7 ⟨rfl, hb7⟩; have HT7 := Lib.hid (HT6.out.below hb7); have HB7 := Lib.hid hb7; have HY7 := Lib.hid ((hb7.block _ (lt_size HY6.out)).trans HY6.out); obtain ⟨n0, n1, n2, n3⟩ := cells4p HY7.out; have HC4 := Lib.hid (onT_any f.2 HT7.out ht1 HWf.out.2); rw [HOn.out] at HC4; clear hb7)
            | (go_at_call 13; refine HC4.out.mono ?_; rintro e w8 ⟨rfl, hb8⟩; simp only [Option.getD_none, Option.isSome_none]; have HB8 := Lib.hid (hb8.alloc hb8.size (.cells #[.int .i64 0, .int .i64 0] 30)); have HT8 := Lib.hid (HT7.out.below HB8.out); have HY8 := Lib.hid ((HB8.out.block _ (lt_size HY7.out)).trans HY7.out); obtain ⟨o0, o1, o2, o3⟩ := cells4p HY8.out; have HC5 := Lib.hid (atT_any f.1 HT8.out ht1 HWf.out.1); rw [HAn.out] at HC5; clear hb8)
            | (go_at_call 12; refine HC5.out.mono ?_; rintro e w9 ⟨rfl, hb9⟩; simp only [Option.getD_none, Option.isSome_none]; have HB9 := Lib.hid (hb9.alloc hb9.size (.cells #[.int .i64 0, .int .i64 0] 24)); have HT9 := Lib.hid (HT8.out.below HB9.out); clear hb9))
          have hx : ∀ ad, (some (⟨B, o, none⟩ : Addr)) = some ad → (ad.block < w.heap.size ∨ (w3.heap.size ≤ ad.block ∧ ad.block < w4.heap.size)) ∨ ad.block = wr.heap.size := fun ad e => by
            cases e
            exact .inl (.inr HAP.out)
          have hF9 := ((((HFb.out.safe HS5.out hx).safe HS6.out hx).below HB7.out).below HB8.out).below HB9.out
          have hB5 := HBb.out.trans (Safe.below HS5.out (fun b hb => .inl (.inl hb)) HBb.out.size)
          have hB6 := hB5.trans (Safe.below HS6.out (fun b hb => .inl (.inl hb)) hB5.size)
          have hB7 := hB6.trans (HB7.out.mono hB6.size)
          have hB8 := hB7.trans (HB8.out.mono hB7.size)
          have hB9 := hB8.trans (HB9.out.mono hB8.size)
          go_roundw
          case rel => exact ⟨i + 1, T1, by omega, by go_num, G2.out, HT9.out.less fun b hb => .inl hb, hF9, hB9⟩
          case measure => simp [intOf]; omega
        · obtain rfl : i = L.length := by omega
          rw [List.drop_length] at hp
          obtain rfl : Ti = [] := hp.eq_nil
          go_wp2_with (first
            | (go_at_call 14; refine (lenT_any HTi.out (by decide)).mono ?_; rintro e w5 ⟨rfl, hb5⟩; have HT5 := Lib.hid (HTi.out.below hb5); have HB5 := Lib.hid (HBi.out.trans (hb5.mono hsi)); clear hb5)
            | (go_at_call 18; refine (allT_any HT5.out (by decide)).mono ?_; rintro e w6 ⟨A6, c6, rfl, _, _, hb6⟩; have HB6 := Lib.hid (HB5.out.trans (hb6.mono HB5.out.size)); clear hb6; rw [show (allT []).length = 0 from rfl])
            | (go_at_call 8; refine (awake_any _).mono ?_; rintro e w7 ⟨rfl, hb7⟩; have HB7 := Lib.hid (HB6.out.trans (hb7.mono HB6.out.size)); clear hb7))
          go_ret
          exact ⟨rfl, HB7.out⟩
end Go.Proofs.Ytbebbnkolpgndaa
