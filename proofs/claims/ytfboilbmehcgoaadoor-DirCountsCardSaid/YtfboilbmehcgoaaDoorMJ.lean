/- DirCounts, over what the landed calls are asked to answer (written by mktrj.py). -/
import Derived.Test.YtfboilbmehcgoaaDoorMC
import Derived.Test.YtfboilbmehcgoaaDoorMK
import Derived.Test.YtfboilbmehcgoaaDoorMD
namespace Go.Proofs.YtfboilbmehcgoaaDoor
open Go.RowKit Go.Lib

theorem namedT_set (i : Int) : ∀ (t : List Nd) (k : Nat) (h : k < t.length) (n : Nd), namedT i (t.set k n) + cntE i t[k].en = namedT i t + cntE i n.en
  | [], _, h, _ => by cases h
  | x :: t, 0, _, n => by simp only [List.set_cons_zero, namedT, List.getElem_cons_zero]; omega
  | x :: t, k + 1, h, n => by
    have := namedT_set i t k (by simpa using h) n
    simp only [List.set_cons_succ, namedT, List.getElem_cons_succ]
    omega
/-- Without the last entry of a node. -/
def cutT (t : List Nd) (k : Nat) : List Nd := t.set k { at_ t k with en := (at_ t k).en.take ((at_ t k).en.length - 1) }
theorem at_set {t : List Nd} {k j : Nat} {n : Nd} (hk : k < t.length) : at_ (t.set k n) j = if j = k then n else at_ t j := by
  unfold at_
  rw [List.getD_eq_getElem?_getD, List.getD_eq_getElem?_getD, List.getElem?_set]
  by_cases h : k = j
  · subst h; simp [hk]
  · rw [if_neg h, if_neg (fun e => h e.symm)]
theorem cut_not {t : List Nd} (hm : MayT t) {k : Nat} (hk : k < t.length) (hn : 0 < (at_ t k).en.length) : mayT (cutT t k) = false := may_not fun hu => by
  have hlen : (cutT t k).length = t.length := by unfold cutT; simp
  have he : (at_ t k).en[(at_ t k).en.length - 1] ∈ (at_ t k).en := List.getElem_mem _
  obtain ⟨hk2, h1, h11⟩ := hm.names hk he
  have h0 := hm.ent k hk _ he
  have hc := cntE_take (i := (at_ t k).en[(at_ t k).en.length - 1].2) (l := (at_ t k).en) (j := (at_ t k).en.length - 1) (by omega)
  rw [if_pos rfl, List.take_of_length_le (by omega)] at hc
  have hs := namedT_set (at_ t k).en[(at_ t k).en.length - 1].2 t k hk { at_ t k with en := (at_ t k).en.take ((at_ t k).en.length - 1) }
  rw [← at_lt hk] at hs
  generalize (at_ t k).en[(at_ t k).en.length - 1].2 = x at h1 h11 h0 hc hs
  obtain ⟨j, rfl⟩ : ∃ j : Nat, x = (j : Int) := ⟨x.toNat, by omega⟩
  rw [Int.toNat_natCast] at h0
  have hl := hm.len
  have hj : j < t.length := by omega
  have hju : j < (cutT t k).length := by omega
  have hN : namedT (j : Int) (cutT t k) + 1 = namedT (j : Int) t := by
    have hs' : namedT (j : Int) (cutT t k) + cntE (j : Int) (at_ t k).en = namedT (j : Int) t + cntE (j : Int) ((at_ t k).en.take ((at_ t k).en.length - 1)) := hs
    omega
  have hkk : (at_ (cutT t k) j).k = (at_ t j).k ∧ (at_ (cutT t k) j).l = (at_ t j).l := by
    unfold cutT
    rw [at_set hk]
    split
    · next e => subst e; exact ⟨rfl, rfl⟩
    · exact ⟨rfl, rfl⟩
  by_cases c1 : (at_ t j).k = 1
  · have a1 := hm.file j hj c1
    have a2 := hu.file j hju (by rw [hkk.1]; exact c1)
    rw [hkk.2] at a2
    omega
  by_cases c2 : (at_ t j).k = 2
  · have a1 := (hm.dir j hj c2).2
    have a2 := (hu.dir j hju (by rw [hkk.1]; exact c2)).2
    omega
  have h6 := hm.node j hj
  unfold mayNd at h6
  rw [if_neg h0, if_neg c2, if_neg c1] at h6
  cases h6
theorem linkT_le {t : List Nd} (hm : MayT t) {i : Nat} (hi : i < t.length) : 0 ≤ linkT t i ∧ linkT t i ≤ 121 := by
  unfold linkT
  by_cases c1 : (at_ t i).k = 1
  · rw [if_pos c1, if_neg (by omega)]
    have h := hm.node i hi
    rw [mayNd_file c1] at h
    obtain ⟨h1, h2, _⟩ := mayFl_at h
    omega
  · rw [if_neg c1]
    split <;> omega
theorem sumN_le {f : Nat → Int} {b : Int} : ∀ {n : Nat}, (∀ i, i < n → 0 ≤ f i ∧ f i ≤ b) → 0 ≤ sumN f n ∧ sumN f n ≤ b * n
  | 0, _ => by simp [sumN]
  | n + 1, h => by
    have h1 := sumN_le (n := n) (fun i hi => h i (by omega))
    have h2 := h n (by omega)
    rw [sumN, show b * ((n + 1 : Nat) : Int) = b * n + b by push_cast; rw [Int.mul_add]; simp]
    omega
theorem cell_set_eq {w : World} {g b : Nat} {cur : Array Value} {T : TypeId} {v u : Value} (h : w.heap[g]? = some (.cells cur T (0, 0))) (hc : w.cell? ⟨g, b, none⟩ = some u) : (w.setCell ⟨g, b, none⟩ v).cell? ⟨g, b, none⟩ = some v := by
  have h2 := heap_setCell_same w g b cur T v h
  have hb : b < cur.size := by
    simp [World.cell?, h] at hc
    exact (Array.getElem?_eq_some_iff.1 hc).1
  simp [World.cell?, h2, hb]
theorem wpList_store_row {ops : Array Oper} {Q : Exit → Act → World → Prop} {rest : List Oper} {o : Oper} {a : Act} {w : World} (i j : Nat) (p q : Nat) {A : Option Addr} {n d : Nat} {v0 : Value} (hgd : o.guard = none) (ho : o.op = .store 30 (.tmp i) (.tmp j)) (hds : o.dst = none)
    (hi : a.eval (.tmp i) = .pointer (some ⟨p, q, none⟩)) (hj : a.eval (.tmp j) = .slice A n d) (hc : w.cell? ⟨p, q, none⟩ = some v0) (hf : w.frozen? ⟨p, q, none⟩ = false)
    (h : wpList Tryd.prog ops Q rest a (w.setCell ⟨p, q, none⟩ (.slice A n d))) : wpList Tryd.prog ops Q (o :: rest) a w := by
  refine wpList_plain hgd fun _ hK => ?_
  unfold Oper.wp execOp
  simp only [ho, hi, hj]
  simp [go_sem, hc, hf]
  rw [hds]
  exact hK _ _ h
/-- The copy with a node's last entry cut off stands there. -/
theorem cut_lies {w : World} {base g cap k gb : Nat} {t : List Nd} {r : Nat → NAddr} (h : TOwn w base (.slice (some ⟨g, 0, none⟩) t.length cap) t r) (hk : k < t.length) (hl : LightT t) (hgb : (r k).B = some ⟨gb, 0, none⟩) :
    TLies (w.setCell ⟨g, k * 5 + 4, none⟩ (.slice (some ⟨gb, 0, none⟩) ((at_ t k).en.length - 1) (r k).d)) (some ⟨g, 0, none⟩) cap (cutT t k) r := by
  have h0 := h.lies hl.1 hl.2
  have hlen : (cutT t k).length = t.length := by unfold cutT; simp
  rcases h.row.2 with ⟨e, _⟩ | ⟨g1, cap1, cur, e, _, hg, _⟩
  · simp at e
  simp at e
  obtain ⟨rfl, rfl⟩ := e
  have hY : ∀ b, b ≠ g → (w.setCell ⟨g, k * 5 + 4, none⟩ (.slice (some ⟨gb, 0, none⟩) ((at_ t k).en.length - 1) (r k).d)).heap[b]? = w.heap[b]? := fun b hb => Below.heap_setCell _ _ _ _ hb
  refine ⟨fun hn => ?_, (fun e => by cases e), by rw [hlen]; exact h0.sc, by rw [hlen]; exact h0.sm⟩
  refine ⟨g, 0, rfl, ?_, fun j hj => ?_⟩
  · simpa using lt_size hg
  have hj2 : j < t.length := by omega
  obtain ⟨B, o, e, -, ⟨c0, c1, c2, c3, c4⟩, -⟩ := h0.node hj2
  simp at e
  obtain ⟨rfl, rfl⟩ := e
  simp only [Nat.zero_add] at c0 c1 c2 c3 c4
  have hI := own_keep (h.sq j hj2) fun b e => hY b (fun hh => row_apart (h.sq j hj2) h.row ndtypes.1 e (by rw [hh]; rfl))
  have hE := own_keep (h.en j hj2) fun b e => hY b (fun hh => row_apart (h.en j hj2) h.row ndtypes.2 e (by rw [hh]; rfl))
  have hN := nlies_own hI hE (by have := (hl.2 _ (List.getElem_mem hj2)).1; unfold maxLen; omega) (by have := (hl.2 _ (List.getElem_mem hj2)).2; unfold maxLen; omega)
  rw [← at_lt hj2] at hN
  rw [← at_lt hj]
  have hat : at_ (cutT t k) j = if j = k then { at_ t k with en := (at_ t k).en.take ((at_ t k).en.length - 1) } else at_ t j := at_set hk
  rw [hat, Nat.zero_add]
  by_cases hjk : j = k
  · subst hjk
    rw [if_pos rfl]
    refine ⟨⟨(cell_set_ne hg (by omega)).trans c0, (cell_set_ne hg (by omega)).trans c1, (cell_set_ne hg (by omega)).trans c2, (cell_set_ne hg (by omega)).trans c3, ?_⟩, ?_⟩
    · rw [cell_set_eq hg c4, hgb, List.length_take, Nat.min_eq_left (by omega)]
    · refine ⟨hN.sq, hN.en.take _, hN.sn, fun e => ?_, hN.sc, ?_, hN.sm, ?_⟩
      · rw [hgb] at e; cases e
      · have := hN.ec; dsimp only; rw [List.length_take]; omega
      · have := hN.em; dsimp only; rw [List.length_take]; omega
  · rw [if_neg hjk]
    exact ⟨⟨(cell_set_ne hg (by omega)).trans c0, (cell_set_ne hg (by omega)).trans c1, (cell_set_ne hg (by omega)).trans c2, (cell_set_ne hg (by omega)).trans c3, (cell_set_ne hg (by omega)).trans c4⟩, hN⟩
theorem cut_light {t : List Nd} {k : Nat} (hk : k < t.length) (hl : LightT t) : LightT (cutT t k) := by
  refine ⟨by unfold cutT; simpa using hl.1, fun n hn => ?_⟩
  obtain ⟨j, hj, rfl⟩ := mem_at hn
  have hj2 : j < t.length := by unfold cutT at hj; simpa using hj
  have hat : at_ (cutT t k) j = if j = k then { at_ t k with en := (at_ t k).en.take ((at_ t k).en.length - 1) } else at_ t j := at_set hk
  rw [hat]
  split
  · next e =>
    subst e
    have := hl.2 _ (at_mem hj2)
    exact ⟨this.1, by dsimp only; rw [List.length_take]; omega⟩
  · exact hl.2 _ (at_mem hj2)
set_option maxRecDepth 100000 in
set_option maxHeartbeats 16000000 in
theorem counts_law
    (lmy : ∀ (t : List Nd) (A : Option Addr) (c : Nat) (r : Nat → NAddr) (w : World), TLies w A c t r → LightT t → Calls Tryd.prog 14 #[.agg #[.slice A t.length c]] w fun x w' => x = .returned (.bool (mayT t)) ∧ Below w.heap.size w w')
    (lnm : ∀ (t : List Nd) (A : Option Addr) (c : Nat) (r : Nat → NAddr) (a : Int) (w : World), TLies w A c t r → LightT t → Calls Tryd.prog 21 #[.agg #[.slice A t.length c], .int .i64 a] w fun x w' => x = .returned (.int .i64 (namedT a t : Nat)) ∧ Below w.heap.size w w')
    (lcp : ∀ (t : List Nd) (A : Option Addr) (c : Nat) (r : Nat → NAddr) (w : World), TLies w A c t r → LightT t → Calls Tryd.prog 11 #[.agg #[.slice A t.length c]] w (CopyTPost w t))
    (awk : ∀ w : World, Calls Tryd.prog 10 #[] w fun x w' => x = .returned (.bool true) ∧ Below w.heap.size w w')
    (t : List Nd) (A : Option Addr) (c : Nat) (r : Nat → NAddr) (k0 : Int) (w : World) (h : TLies w A c t r) : Calls Tryd.prog 5 #[.agg #[.slice A t.length c], .int .i64 k0] w fun x w' => x = .returned (.bool true) ∧ Below w.heap.size w w' := by
  have hsm := h.sm
  have hmx : maxLen = 9223372036854775807 := rfl
  have HH := Lib.hid h
  have HLC := Lib.hid (lightT_cases t)
  have HBA := Lib.hid ((Below.refl w.heap.size w).alloc (Nat.le_refl _) (.cells #[.slice A t.length c] 24))
  have HX := Lib.hid (heap_alloc_new w (.cells #[.slice A t.length c] 24))
  have HLA := Lib.hid (fun w1 h => lightT_any t A c r w1 h)
  have HMY := Lib.hid (fun w1 h => mayTr_any t A c r w1 h)
  have HML := Lib.hid (fun w1 h hl => lmy t A c r w1 h hl)
  have HMX := Lib.hid lmy
  have HCP := Lib.hid (fun w1 h hl => lcp t A c r w1 h hl)
  have HNL := Lib.hid (fun (i : Int) w1 h hl => lnm t A c r i w1 h hl)
  have HNR := Lib.hid (fun (i : Int) w1 h h1 h2 => namedr_any t A c r i w1 h h1 h2)
  have HAW := Lib.hid awk
  have HMT : Hid (mayT t = true → MayT t) := Lib.hid mayT_iff.1
  clear h lmy lnm lcp awk
  obtain ⟨M, hM⟩ : ∃ M, mayT t = M := ⟨_, rfl⟩
  obtain ⟨LA, hLA⟩ : ∃ L, lightT t = L := ⟨_, rfl⟩
  rw [hM] at HMY HML HMT
  rw [hLA] at HLC HLA
  clear hM hLA
  go_enter Tryd.func5, Tryd.ntmps5
  go_upto_region 1 with (fail)
  generalize w.alloc _ = W at HBA HX ⊢
  obtain ⟨P, hP⟩ : ∃ P, P = w.heap.size := ⟨_, rfl⟩
  rw [← hP] at HX ⊢
  clear hP
  have HTL : Hid (∀ w1, Below W.heap.size W w1 → TLies w1 A c t r) := Lib.hid fun w1 hb => (HH.out.below HBA.out).below hb
  have hPz : Hid (P < W.heap.size) := Lib.hid (lt_size HX.out)
  have HPX : Hid (∀ w1, Below W.heap.size W w1 → w1.cell? ⟨P, 0, none⟩ = some (.slice A t.length c)) := Lib.hid fun w1 hb => by
    have := (hb.block P hPz.out).trans HX.out
    simp [World.cell?, this]
  have q0 := HPX.out W (Below.refl _ _)
  rcases HLC.out with ⟨rfl, hl⟩ | hpos
  case inr =>
    have b1 : decide (0 < LA) = true := decide_eq_true hpos
    clear hpos
    go_wp2_with (first
      | (go_at_call 9; (with_reducible refine (HLA.out _ (HTL.out _ (Below.refl _ _))).mono ?_); rintro e w1 ⟨rfl, hb1⟩; replace hb1 := Lib.hid hb1; have q1 := HPX.out _ hb1.out)
      | (go_at_call 10; (with_reducible refine (HAW.out _).mono ?_); rintro e w3 ⟨rfl, hb3⟩; replace hb3 := Lib.hid (hb1.out.trans (hb3.mono hb1.out.size)))
      | fail)
    go_ret
    exact ⟨rfl, HBA.out.trans (hb3.out.mono HBA.out.size)⟩
  have HLT : Hid (LightT t) := Lib.hid hl
  clear hl
  cases M with
  | false =>
    go_wp2_with (first
      | (go_at_call 9; (with_reducible refine (HLA.out _ (HTL.out _ (Below.refl _ _))).mono ?_); rintro e w1 ⟨rfl, hb1⟩; replace hb1 := Lib.hid hb1; have q1 := HPX.out _ hb1.out)
      | (go_at_call 14; (with_reducible refine (HML.out _ (HTL.out _ hb1.out) HLT.out).mono ?_); rintro e w2 ⟨rfl, hb2⟩; replace hb2 := Lib.hid (hb1.out.trans (hb2.mono hb1.out.size)); have q2 := HPX.out _ hb2.out)
      | (go_at_call 10; (with_reducible refine (HAW.out _).mono ?_); rintro e w3 ⟨rfl, hb3⟩; replace hb3 := Lib.hid (hb2.out.trans (hb3.mono hb2.out.size)))
      | fail)
    go_ret
    exact ⟨rfl, HBA.out.trans (hb3.out.mono HBA.out.size)⟩
  | true =>
    have HM := Lib.hid (HMT.out rfl)
    have ht12 : t.length ≤ 12 := by have := HM.out.len; omega
    have ht0 : 12 ≤ t.length := by have := HM.out.len; omega
    have HE10 : Hid (∀ i, i < t.length → (at_ t i).en.length ≤ 10) := Lib.hid fun i hi => (may_ents (HM.out.node i hi)).1
    go_wp2_with (first
      | (go_at_call 9; (with_reducible refine (HLA.out _ (HTL.out _ (Below.refl _ _))).mono ?_); rintro e w1 ⟨rfl, hb1⟩; replace hb1 := Lib.hid hb1; have q1 := HPX.out _ hb1.out)
      | (go_at_call 14; (with_reducible refine (HML.out _ (HTL.out _ hb1.out) HLT.out).mono ?_); rintro e w2 ⟨rfl, hb2⟩; replace hb2 := Lib.hid (hb1.out.trans (hb2.mono hb1.out.size)); have q2 := HPX.out _ hb2.out)
      | (go_at_call 15; (with_reducible refine (HMY.out _ (HTL.out _ hb2.out)).mono ?_); rintro e w3 ⟨rfl, hb3⟩; replace hb3 := Lib.hid (hb2.out.trans (hb3.mono hb2.out.size)); have q3 := HPX.out _ hb3.out)
      | fail)
    go_loopw [5, 6, 7, 8, 28] (fun v5 v6 _ _ v28 wr => ∃ jx : Nat, jx ≤ t.length ∧ v28 = .int .i64 jx ∧ v5 = .int .i64 (namesT (t.take jx) : Nat) ∧ v6 = .int .i64 (sumN (linkT t) jx) ∧ Hid (Below W.heap.size W wr)) (fun _ _ _ _ v28 _ => t.length - (RowKit.intOf v28).toNat)
    case atStart => exact ⟨0, Nat.zero_le _, rfl, by simp [namesT], rfl, hb3⟩
    case round =>
      clear q0 q1 q2 q3
      obtain ⟨jx, hj, rfl, rfl, rfl, HB⟩ := hrel
      have hnl : namesT (t.take jx) ≤ 10 * 12 := by
        have key : ∀ l : List Nd, (∀ n ∈ l, n.en.length ≤ 10) → namesT l ≤ 10 * l.length := by
          intro l
          induction l with
          | nil => intro _; exact Nat.le_refl _
          | cons n l ih =>
            intro hh
            have := ih (fun x hx => hh x (by simp [hx]))
            have := hh n (by simp)
            rw [namesT, List.length_cons]; omega
        have := key (t.take jx) (fun n hn => by
          obtain ⟨i, hi, rfl⟩ := mem_at (List.mem_of_mem_take hn)
          exact HE10.out i hi)
        rw [List.length_take] at this
        omega
      have hsl : 0 ≤ sumN (linkT t) jx ∧ sumN (linkT t) jx ≤ 121 * 12 := by
        have := sumN_le (f := linkT t) (b := 121) (n := jx) (fun i hi => linkT_le HM.out (by omega))
        omega
      by_cases hj1 : jx < t.length
      · have d2 : decide ((jx : Int) < (t.length : Int)) = true := decide_eq_true (by omega)
        have HNT : Hid (namesT (t.take (jx + 1)) = namesT (t.take jx) + (at_ t jx).en.length) := Lib.hid (by rw [at_lt hj1]; exact namesT_take hj1)
        have HST : Hid (sumN (linkT t) (jx + 1) = sumN (linkT t) jx + ((if (at_ t jx).k = 1 then (at_ t jx).l else 0) + (if (at_ t jx).k = 2 ∧ 0 < jx then 1 else 0))) := Lib.hid rfl
        have h10 := HE10.out jx hj1
        have hlb : (at_ t jx).k = 1 → 0 ≤ (at_ t jx).l ∧ (at_ t jx).l ≤ 120 := fun h1 => by
          have h := HM.out.node jx hj1
          rw [mayNd_file h1] at h
          exact ⟨(mayFl_at h).1, (mayFl_at h).2.1⟩
        generalize namesT (t.take jx) = S5 at hnl HNT ⊢
        generalize sumN (linkT t) jx = S6 at hsl HST ⊢
        obtain ⟨B, o, rfl, hBs, ⟨c0, c1, c2, c3, c4⟩, -⟩ := (HTL.out wr HB.out).node hj1
        obtain ⟨⟨RA, RB, rc, rd⟩, hr⟩ : ∃ a, a = r jx := ⟨_, rfl⟩
        rw [← hr] at c3 c4
        generalize at_ t jx = n at c0 c1 c2 c3 c4 HNT HST h10 hlb
        obtain ⟨nk, nl, nz, S, L⟩ := n
        dsimp only at c0 c1 c2 c3 c4 HNT HST h10 hlb
        have HBW := Lib.hid (HB.out.alloc HB.out.size (.cells #[.int .i64 nk, .int .i64 nl, .int .i64 nz, .slice RA S.length rc, .slice RB L.length rd] 32))
        have HXW := Lib.hid (heap_alloc_new wr (.cells #[.int .i64 nk, .int .i64 nl, .int .i64 nz, .slice RA S.length rc, .slice RB L.length rd] 32))
        have hw1 : IntKind.i64.wrap ((S5 : Int) + (L.length : Int)) = ((S5 + L.length : Nat) : Int) := by rw [i64w_idE _ (by omega)]; omega
        clear hr
        go_upto_region 7 with (fail)
        generalize wr.alloc _ = V at HBW HXW ⊢
        obtain ⟨p, hp⟩ : ∃ p, p = wr.heap.size := ⟨_, rfl⟩
        rw [← hp] at HXW ⊢
        have HKV : Hid (∀ w1, Below V.heap.size V w1 → BoxAt w1 p nk nl nz (.slice RA S.length rc) (.slice RB L.length rd) ∧ w1.cell? ⟨P, 0, none⟩ = some (.slice (some ⟨B, o, none⟩) t.length c) ∧ TLies w1 (some ⟨B, o, none⟩) c t r) := Lib.hid fun w1 hb => ⟨(hb.block p (lt_size HXW.out)).trans HXW.out, HPX.out w1 (HBW.out.trans (hb.mono HBW.out.size)), HTL.out w1 (HBW.out.trans (hb.mono HBW.out.size))⟩
        obtain ⟨⟨u0, u1, -, -, u4⟩, -⟩ : (V.cell? ⟨p, 0, none⟩ = some (.int .i64 nk) ∧ V.cell? ⟨p, 1, none⟩ = some (.int .i64 nl) ∧ V.cell? ⟨p, 2, none⟩ = some (.int .i64 nz) ∧ V.cell? ⟨p, 3, none⟩ = some (.slice RA S.length rc) ∧ V.cell? ⟨p, 4, none⟩ = some (.slice RB L.length rd)) ∧ True := ⟨(HKV.out V (Below.refl _ _)).1.cells, trivial⟩
        clear hp c0 c1 c2 c3 c4 HXW
        have HN1 := Lib.hid (fun w1 h => HNL.out (jx : Int) w1 h HLT.out)
        have HN2 := Lib.hid (fun w1 h => HNR.out (jx : Int) w1 h (by omega) (fun n hn => (HLT.out.2 n hn).2))
        generalize namedT (jx : Int) t = NN at HN1 HN2
        by_cases k0 : nk = 0
        · subst k0
          have HKZ : Hid True := Lib.hid trivial
          go_upto_region 12 with (fail)
          refine region_st (fun j v w' => match j with | 0 => v = .pointer (some ⟨p, 0, none⟩) | 1 => v = .int .i64 0 | 2 => v = .bool false | 3 => v = .bool false | 4 => v = undef | 5 => v = undef | 6 => v = .bool false | 7 => v = .bool false | 8 => v = undef | 9 => v = undef | 10 => v = undef | 11 => v = undef | 12 => v = undef | 13 => v = undef | 14 => v = undef | 15 => v = .bool false | _ => True) (fun _ w' => Below V.heap.size V w') (fun w1 w2 => Below w1.heap.size w1 w2) (by kernel_rfl) (by kernel_rfl) (by kernel_rfl) ?hR ?hG ?hops ?hend
          case hR =>
            intro j v w1 w2 hv hb
            match j, hv with
            | 0, hv => exact hv
            | 1, hv => exact hv
            | 2, hv => exact hv
            | 3, hv => exact hv
            | 4, hv => exact hv
            | 5, hv => exact hv
            | 6, hv => exact hv
            | 7, hv => exact hv
            | 8, hv => exact hv
            | 9, hv => exact hv
            | 10, hv => exact hv
            | 11, hv => exact hv
            | 12, hv => exact hv
            | 13, hv => exact hv
            | 14, hv => exact hv
            | 15, hv => exact hv
            | _ + 16, _ => exact trivial
          case hG => exact (Below.refl _ _).drew
          case hops =>
            refine OpsOkS.cons ?o0 (OpsOkS.cons ?o1 (OpsOkS.cons ?o2 (OpsOkS.cons ?o3 (OpsOkS.cons ?o4 (OpsOkS.cons ?o5 (OpsOkS.cons ?o6 (OpsOkS.cons ?o7 (OpsOkS.cons ?o8 (OpsOkS.cons ?o9 (OpsOkS.cons ?o10 (OpsOkS.cons ?o11 (OpsOkS.cons ?o12 (OpsOkS.cons ?o13 (OpsOkS.cons ?o14 (OpsOkS.cons ?o15 OpsOkS.nil)))))))))))))))
            case o0 =>
              intro a w1 Kx hG need old hsz fresh hKx
              have e0 : a.tmps[8]?.getD undef = .pointer (some ⟨p, 0, none⟩) := by rw [← Array.getD_eq_getD_getElem?]; exact old 8 (by kernel_rfl)
              refine op_value (v := .pointer (some ⟨p, 0, none⟩)) (wanted_none rfl) ?_ (hKx _ w1 rfl hG (Below.refl _ _))
              simp [execOp, go_sem, e0]
            case o1 =>
              intro a w1 Kx hG need old hsz fresh hKx
              have e0 : a.tmps[54]?.getD undef = .pointer (some ⟨p, 0, none⟩) := by rw [← Array.getD_eq_getD_getElem?]; exact (need 0 (by kernel_rfl) (by kernel_rfl))
              have k0 := (HKV.out w1 hG).1.cells.1
              refine op_value (v := .int .i64 0) (wanted_none rfl) ?_ (hKx _ w1 rfl hG (Below.refl _ _))
              simp [execOp, go_sem, e0, k0]
            case o2 =>
              intro a w1 Kx hG need old hsz fresh hKx
              have e0 : a.tmps[55]?.getD undef = .int .i64 0 := by rw [← Array.getD_eq_getD_getElem?]; exact (need 1 (by kernel_rfl) (by kernel_rfl))
              refine op_value (v := .bool false) (wanted_none rfl) ?_ (hKx _ w1 rfl hG (Below.refl _ _))
              simp [execOp, go_sem, e0] <;> exact HKZ.out
            case o3 =>
              intro a w1 Kx hG need old hsz fresh hKx
              have e0 : a.tmps[56]?.getD undef = .bool false := by rw [← Array.getD_eq_getD_getElem?]; exact (need 2 (by kernel_rfl) (by kernel_rfl))
              refine op_value (v := .bool false) (wanted_none rfl) ?_ (hKx _ w1 rfl hG (Below.refl _ _))
              simp [execOp, go_sem, e0]
            case o4 =>
              intro a w1 Kx hG need old hsz fresh hKx
              exact skip_op (j := 3) rfl (need 3 (by kernel_rfl) (by kernel_rfl)) (by decide) (hKx undef w1 rfl hG (Below.refl _ _))
            case o5 =>
              intro a w1 Kx hG need old hsz fresh hKx
              exact skip_op (j := 3) rfl (need 3 (by kernel_rfl) (by kernel_rfl)) (by decide) (hKx undef w1 rfl hG (Below.refl _ _))
            case o6 =>
              intro a w1 Kx hG need old hsz fresh hKx
              have e0 : a.tmps[57]?.getD undef = .bool false := by rw [← Array.getD_eq_getD_getElem?]; exact (need 3 (by kernel_rfl) (by kernel_rfl))
              refine op_value (v := .bool false) (wanted_none rfl) ?_ (hKx _ w1 rfl hG (Below.refl _ _))
              simp [execOp, go_sem, asBool, e0]
            case o7 =>
              intro a w1 Kx hG need old hsz fresh hKx
              have e0 : a.tmps[60]?.getD undef = .bool false := by rw [← Array.getD_eq_getD_getElem?]; exact (need 6 (by kernel_rfl) (by kernel_rfl))
              refine op_value (v := .bool false) (wanted_none rfl) ?_ (hKx _ w1 rfl hG (Below.refl _ _))
              simp [execOp, go_sem, e0]
            case o8 =>
              intro a w1 Kx hG need old hsz fresh hKx
              exact skip_op (j := 7) rfl (need 7 (by kernel_rfl) (by kernel_rfl)) (by decide) (hKx undef w1 rfl hG (Below.refl _ _))
            case o9 =>
              intro a w1 Kx hG need old hsz fresh hKx
              exact skip_op (j := 7) rfl (need 7 (by kernel_rfl) (by kernel_rfl)) (by decide) (hKx undef w1 rfl hG (Below.refl _ _))
            case o10 =>
              intro a w1 Kx hG need old hsz fresh hKx
              exact skip_op (j := 7) rfl (need 7 (by kernel_rfl) (by kernel_rfl)) (by decide) (hKx undef w1 rfl hG (Below.refl _ _))
            case o11 =>
              intro a w1 Kx hG need old hsz fresh hKx
              exact skip_op (j := 7) rfl (need 7 (by kernel_rfl) (by kernel_rfl)) (by decide) (hKx undef w1 rfl hG (Below.refl _ _))
            case o12 =>
              intro a w1 Kx hG need old hsz fresh hKx
              exact skip_op (j := 7) rfl (need 7 (by kernel_rfl) (by kernel_rfl)) (by decide) (hKx undef w1 rfl hG (Below.refl _ _))
            case o13 =>
              intro a w1 Kx hG need old hsz fresh hKx
              exact skip_op (j := 7) rfl (need 7 (by kernel_rfl) (by kernel_rfl)) (by decide) (hKx undef w1 rfl hG (Below.refl _ _))
            case o14 =>
              intro a w1 Kx hG need old hsz fresh hKx
              exact skip_op (j := 7) rfl (need 7 (by kernel_rfl) (by kernel_rfl)) (by decide) (hKx undef w1 rfl hG (Below.refl _ _))
            case o15 =>
              intro a w1 Kx hG need old hsz fresh hKx
              have e0 : a.tmps[61]?.getD undef = .bool false := by rw [← Array.getD_eq_getD_getElem?]; exact (need 7 (by kernel_rfl) (by kernel_rfl))
              refine op_value (v := .bool false) (wanted_none rfl) ?_ (hKx _ w1 rfl hG (Below.refl _ _))
              simp [execOp, go_sem, asBool, e0]
          case hend =>
            intro a w6 hG hde hsz hφ hold
            obtain rfl := act_puts [(54, .pointer (some ⟨p, 0, none⟩)), (55, .int .i64 0), (56, .bool false), (57, .bool false), (58, undef), (59, undef), (60, .bool false), (61, .bool false), (62, undef), (63, undef), (64, undef), (65, undef), (66, undef), (67, undef), (68, undef), (69, .bool false)] [54, 55, 56, 57, 58, 59, 60, 61, 62, 63, 64, 65, 66, 67, 68, 69] rfl (by kernel_rfl) (by kernel_rfl) hde hsz (List.forall_mem_cons.2 ⟨(show a.tmps.getD 54 undef = .pointer (some ⟨p, 0, none⟩) from (hφ 0 (by kernel_rfl))), (List.forall_mem_cons.2 ⟨(show a.tmps.getD 55 undef = .int .i64 0 from (hφ 1 (by kernel_rfl))), (List.forall_mem_cons.2 ⟨(show a.tmps.getD 56 undef = .bool false from (hφ 2 (by kernel_rfl))), (List.forall_mem_cons.2 ⟨(show a.tmps.getD 57 undef = .bool false from (hφ 3 (by kernel_rfl))), (List.forall_mem_cons.2 ⟨(show a.tmps.getD 58 undef = undef from (hφ 4 (by kernel_rfl))), (List.forall_mem_cons.2 ⟨(show a.tmps.getD 59 undef = undef from (hφ 5 (by kernel_rfl))), (List.forall_mem_cons.2 ⟨(show a.tmps.getD 60 undef = .bool false from (hφ 6 (by kernel_rfl))), (List.forall_mem_cons.2 ⟨(show a.tmps.getD 61 undef = .bool false from (hφ 7 (by kernel_rfl))), (List.forall_mem_cons.2 ⟨(show a.tmps.getD 62 undef = undef from (hφ 8 (by kernel_rfl))), (List.forall_mem_cons.2 ⟨(show a.tmps.getD 63 undef = undef from (hφ 9 (by kernel_rfl))), (List.forall_mem_cons.2 ⟨(show a.tmps.getD 64 undef = undef from (hφ 10 (by kernel_rfl))), (List.forall_mem_cons.2 ⟨(show a.tmps.getD 65 undef = undef from (hφ 11 (by kernel_rfl))), (List.forall_mem_cons.2 ⟨(show a.tmps.getD 66 undef = undef from (hφ 12 (by kernel_rfl))), (List.forall_mem_cons.2 ⟨(show a.tmps.getD 67 undef = undef from (hφ 13 (by kernel_rfl))), (List.forall_mem_cons.2 ⟨(show a.tmps.getD 68 undef = undef from (hφ 14 (by kernel_rfl))), (List.forall_mem_cons.2 ⟨(show a.tmps.getD 69 undef = .bool false from (hφ 15 (by kernel_rfl))), (fun _ h => absurd h (by simp))⟩)⟩)⟩)⟩)⟩)⟩)⟩)⟩)⟩)⟩)⟩)⟩)⟩)⟩)⟩)⟩) hold
            clear hφ hold hsz hde
            simp only [putAll]
            go_frame
            go_wp2_with fail
            go_roundw
            case rel => exact ⟨jx + 1, by omega, by go_num, by rw [HNT.out]; first | rfl | simp, by rw [HST.out]; simp, Lib.hid (HBW.out.trans (hG.mono HBW.out.size))⟩
            case measure => simp [RowKit.intOf]; omega
        have HKZ : Hid (¬ nk = 0) := Lib.hid k0
        by_cases k1 : nk = 1
        · subst k1
          have hlb2 := hlb rfl
          have hw2 : IntKind.i64.wrap (S6 + nl) = S6 + nl := i64w_idE _ (by omega)
          clear k0 hlb
          by_cases hj0 : jx = 0
          · have b5 : decide ((0 : Int) < (jx : Int)) = false := decide_eq_false (by omega)
            have HJP : Hid (jx = 0) := Lib.hid hj0
            have HJ0 := Lib.hid hj0
            clear hj0
            go_upto_region 12 with (fail)
            refine region_st (fun j v w' => match j with | 0 => v = .pointer (some ⟨p, 0, none⟩) | 1 => v = .int .i64 1 | 2 => v = .bool true | 3 => v = .bool true | 4 => v = .int .i64 (jx : Nat) | 5 => v = .bool false | 6 => v = .bool false | 7 => v = .bool false | 8 => v = undef | 9 => v = undef | 10 => v = undef | 11 => v = undef | 12 => v = undef | 13 => v = undef | 14 => v = undef | 15 => v = .bool false | _ => True) (fun _ w' => Below V.heap.size V w') (fun w1 w2 => Below w1.heap.size w1 w2) (by kernel_rfl) (by kernel_rfl) (by kernel_rfl) ?hR ?hG ?hops ?hend
            case hR =>
              intro j v w1 w2 hv hb
              match j, hv with
              | 0, hv => exact hv
              | 1, hv => exact hv
              | 2, hv => exact hv
              | 3, hv => exact hv
              | 4, hv => exact hv
              | 5, hv => exact hv
              | 6, hv => exact hv
              | 7, hv => exact hv
              | 8, hv => exact hv
              | 9, hv => exact hv
              | 10, hv => exact hv
              | 11, hv => exact hv
              | 12, hv => exact hv
              | 13, hv => exact hv
              | 14, hv => exact hv
              | 15, hv => exact hv
              | _ + 16, _ => exact trivial
            case hG => exact (Below.refl _ _).drew
            case hops =>
              refine OpsOkS.cons ?o0 (OpsOkS.cons ?o1 (OpsOkS.cons ?o2 (OpsOkS.cons ?o3 (OpsOkS.cons ?o4 (OpsOkS.cons ?o5 (OpsOkS.cons ?o6 (OpsOkS.cons ?o7 (OpsOkS.cons ?o8 (OpsOkS.cons ?o9 (OpsOkS.cons ?o10 (OpsOkS.cons ?o11 (OpsOkS.cons ?o12 (OpsOkS.cons ?o13 (OpsOkS.cons ?o14 (OpsOkS.cons ?o15 OpsOkS.nil)))))))))))))))
              case o0 =>
                intro a w1 Kx hG need old hsz fresh hKx
                have e0 : a.tmps[8]?.getD undef = .pointer (some ⟨p, 0, none⟩) := by rw [← Array.getD_eq_getD_getElem?]; exact old 8 (by kernel_rfl)
                refine op_value (v := .pointer (some ⟨p, 0, none⟩)) (wanted_none rfl) ?_ (hKx _ w1 rfl hG (Below.refl _ _))
                simp [execOp, go_sem, e0]
              case o1 =>
                intro a w1 Kx hG need old hsz fresh hKx
                have e0 : a.tmps[54]?.getD undef = .pointer (some ⟨p, 0, none⟩) := by rw [← Array.getD_eq_getD_getElem?]; exact (need 0 (by kernel_rfl) (by kernel_rfl))
                have k0 := (HKV.out w1 hG).1.cells.1
                refine op_value (v := .int .i64 1) (wanted_none rfl) ?_ (hKx _ w1 rfl hG (Below.refl _ _))
                simp [execOp, go_sem, e0, k0]
              case o2 =>
                intro a w1 Kx hG need old hsz fresh hKx
                have e0 : a.tmps[55]?.getD undef = .int .i64 1 := by rw [← Array.getD_eq_getD_getElem?]; exact (need 1 (by kernel_rfl) (by kernel_rfl))
                refine op_value (v := .bool true) (wanted_none rfl) ?_ (hKx _ w1 rfl hG (Below.refl _ _))
                simp [execOp, go_sem, e0] <;> exact HKZ.out
              case o3 =>
                intro a w1 Kx hG need old hsz fresh hKx
                have e0 : a.tmps[56]?.getD undef = .bool true := by rw [← Array.getD_eq_getD_getElem?]; exact (need 2 (by kernel_rfl) (by kernel_rfl))
                refine op_value (v := .bool true) (wanted_none rfl) ?_ (hKx _ w1 rfl hG (Below.refl _ _))
                simp [execOp, go_sem, e0]
              case o4 =>
                intro a w1 Kx hG need old hsz fresh hKx
                have e0 : a.tmps[7]?.getD undef = .int .i64 (jx : Nat) := by rw [← Array.getD_eq_getD_getElem?]; exact old 7 (by kernel_rfl)
                refine op_value (v := .int .i64 (jx : Nat)) (wanted_of (j := 3) rfl (need 3 (by kernel_rfl) (by kernel_rfl))) ?_ (hKx _ w1 rfl hG (Below.refl _ _))
                simp [execOp, go_sem, e0]
              case o5 =>
                intro a w1 Kx hG need old hsz fresh hKx
                have e0 : a.tmps[58]?.getD undef = .int .i64 (jx : Nat) := by rw [← Array.getD_eq_getD_getElem?]; exact (need 4 (by kernel_rfl) (by kernel_rfl))
                refine op_value (v := .bool false) (wanted_of (j := 3) rfl (need 3 (by kernel_rfl) (by kernel_rfl))) ?_ (hKx _ w1 rfl hG (Below.refl _ _))
                simp [execOp, go_sem, e0] <;> exact HJP.out
              case o6 =>
                intro a w1 Kx hG need old hsz fresh hKx
                have e0 : a.tmps[57]?.getD undef = .bool true := by rw [← Array.getD_eq_getD_getElem?]; exact (need 3 (by kernel_rfl) (by kernel_rfl))
                have e1 : a.tmps[59]?.getD undef = .bool false := by rw [← Array.getD_eq_getD_getElem?]; exact (need 5 (by kernel_rfl) (by kernel_rfl))
                refine op_value (v := .bool false) (wanted_none rfl) ?_ (hKx _ w1 rfl hG (Below.refl _ _))
                simp [execOp, go_sem, asBool, e0, e1]
              case o7 =>
                intro a w1 Kx hG need old hsz fresh hKx
                have e0 : a.tmps[60]?.getD undef = .bool false := by rw [← Array.getD_eq_getD_getElem?]; exact (need 6 (by kernel_rfl) (by kernel_rfl))
                refine op_value (v := .bool false) (wanted_none rfl) ?_ (hKx _ w1 rfl hG (Below.refl _ _))
                simp [execOp, go_sem, e0]
              case o8 =>
                intro a w1 Kx hG need old hsz fresh hKx
                exact skip_op (j := 7) rfl (need 7 (by kernel_rfl) (by kernel_rfl)) (by decide) (hKx undef w1 rfl hG (Below.refl _ _))
              case o9 =>
                intro a w1 Kx hG need old hsz fresh hKx
                exact skip_op (j := 7) rfl (need 7 (by kernel_rfl) (by kernel_rfl)) (by decide) (hKx undef w1 rfl hG (Below.refl _ _))
              case o10 =>
                intro a w1 Kx hG need old hsz fresh hKx
                exact skip_op (j := 7) rfl (need 7 (by kernel_rfl) (by kernel_rfl)) (by decide) (hKx undef w1 rfl hG (Below.refl _ _))
              case o11 =>
                intro a w1 Kx hG need old hsz fresh hKx
                exact skip_op (j := 7) rfl (need 7 (by kernel_rfl) (by kernel_rfl)) (by decide) (hKx undef w1 rfl hG (Below.refl _ _))
              case o12 =>
                intro a w1 Kx hG need old hsz fresh hKx
                exact skip_op (j := 7) rfl (need 7 (by kernel_rfl) (by kernel_rfl)) (by decide) (hKx undef w1 rfl hG (Below.refl _ _))
              case o13 =>
                intro a w1 Kx hG need old hsz fresh hKx
                exact skip_op (j := 7) rfl (need 7 (by kernel_rfl) (by kernel_rfl)) (by decide) (hKx undef w1 rfl hG (Below.refl _ _))
              case o14 =>
                intro a w1 Kx hG need old hsz fresh hKx
                exact skip_op (j := 7) rfl (need 7 (by kernel_rfl) (by kernel_rfl)) (by decide) (hKx undef w1 rfl hG (Below.refl _ _))
              case o15 =>
                intro a w1 Kx hG need old hsz fresh hKx
                have e0 : a.tmps[61]?.getD undef = .bool false := by rw [← Array.getD_eq_getD_getElem?]; exact (need 7 (by kernel_rfl) (by kernel_rfl))
                refine op_value (v := .bool false) (wanted_none rfl) ?_ (hKx _ w1 rfl hG (Below.refl _ _))
                simp [execOp, go_sem, asBool, e0]
            case hend =>
              intro a w6 hG hde hsz hφ hold
              obtain rfl := act_puts [(54, .pointer (some ⟨p, 0, none⟩)), (55, .int .i64 1), (56, .bool true), (57, .bool true), (58, .int .i64 (jx : Nat)), (59, .bool false), (60, .bool false), (61, .bool false), (62, undef), (63, undef), (64, undef), (65, undef), (66, undef), (67, undef), (68, undef), (69, .bool false)] [54, 55, 56, 57, 58, 59, 60, 61, 62, 63, 64, 65, 66, 67, 68, 69] rfl (by kernel_rfl) (by kernel_rfl) hde hsz (List.forall_mem_cons.2 ⟨(show a.tmps.getD 54 undef = .pointer (some ⟨p, 0, none⟩) from (hφ 0 (by kernel_rfl))), (List.forall_mem_cons.2 ⟨(show a.tmps.getD 55 undef = .int .i64 1 from (hφ 1 (by kernel_rfl))), (List.forall_mem_cons.2 ⟨(show a.tmps.getD 56 undef = .bool true from (hφ 2 (by kernel_rfl))), (List.forall_mem_cons.2 ⟨(show a.tmps.getD 57 undef = .bool true from (hφ 3 (by kernel_rfl))), (List.forall_mem_cons.2 ⟨(show a.tmps.getD 58 undef = .int .i64 (jx : Nat) from (hφ 4 (by kernel_rfl))), (List.forall_mem_cons.2 ⟨(show a.tmps.getD 59 undef = .bool false from (hφ 5 (by kernel_rfl))), (List.forall_mem_cons.2 ⟨(show a.tmps.getD 60 undef = .bool false from (hφ 6 (by kernel_rfl))), (List.forall_mem_cons.2 ⟨(show a.tmps.getD 61 undef = .bool false from (hφ 7 (by kernel_rfl))), (List.forall_mem_cons.2 ⟨(show a.tmps.getD 62 undef = undef from (hφ 8 (by kernel_rfl))), (List.forall_mem_cons.2 ⟨(show a.tmps.getD 63 undef = undef from (hφ 9 (by kernel_rfl))), (List.forall_mem_cons.2 ⟨(show a.tmps.getD 64 undef = undef from (hφ 10 (by kernel_rfl))), (List.forall_mem_cons.2 ⟨(show a.tmps.getD 65 undef = undef from (hφ 11 (by kernel_rfl))), (List.forall_mem_cons.2 ⟨(show a.tmps.getD 66 undef = undef from (hφ 12 (by kernel_rfl))), (List.forall_mem_cons.2 ⟨(show a.tmps.getD 67 undef = undef from (hφ 13 (by kernel_rfl))), (List.forall_mem_cons.2 ⟨(show a.tmps.getD 68 undef = undef from (hφ 14 (by kernel_rfl))), (List.forall_mem_cons.2 ⟨(show a.tmps.getD 69 undef = .bool false from (hφ 15 (by kernel_rfl))), (fun _ h => absurd h (by simp))⟩)⟩)⟩)⟩)⟩)⟩)⟩)⟩)⟩)⟩)⟩)⟩)⟩)⟩)⟩)⟩) hold
              clear hφ hold hsz hde
              simp only [putAll]
              go_frame
              go_wp2_with fail
              go_roundw
              case rel => exact ⟨jx + 1, by omega, by go_num, by rw [HNT.out]; first | rfl | simp, by rw [HST.out]; simp [HJ0.out], Lib.hid (HBW.out.trans (hG.mono HBW.out.size))⟩
              case measure => simp [RowKit.intOf]; omega
          · have b5 : decide ((0 : Int) < (jx : Int)) = true := decide_eq_true (by omega)
            have HJP : Hid (0 < jx) := Lib.hid (by omega)
            clear hj0
            go_upto_region 12 with (fail)
            refine region_st (fun j v w' => match j with | 0 => v = .pointer (some ⟨p, 0, none⟩) | 1 => v = .int .i64 1 | 2 => v = .bool true | 3 => v = .bool true | 4 => v = .int .i64 (jx : Nat) | 5 => v = .bool true | 6 => v = .bool true | 7 => v = .bool true | 8 => v = .agg #[.slice (some ⟨B, o, none⟩) t.length c] | 9 => v = .int .i64 (jx : Nat) | 10 => v = .int .i64 (NN : Nat) | 11 => v = .agg #[.slice (some ⟨B, o, none⟩) t.length c] | 12 => v = .int .i64 (jx : Nat) | 13 => v = .int .i64 (NN : Nat) | 14 => v = .bool false | 15 => v = .bool false | _ => True) (fun _ w' => Below V.heap.size V w') (fun w1 w2 => Below w1.heap.size w1 w2) (by kernel_rfl) (by kernel_rfl) (by kernel_rfl) ?hR ?hG ?hops ?hend
            case hR =>
              intro j v w1 w2 hv hb
              match j, hv with
              | 0, hv => exact hv
              | 1, hv => exact hv
              | 2, hv => exact hv
              | 3, hv => exact hv
              | 4, hv => exact hv
              | 5, hv => exact hv
              | 6, hv => exact hv
              | 7, hv => exact hv
              | 8, hv => exact hv
              | 9, hv => exact hv
              | 10, hv => exact hv
              | 11, hv => exact hv
              | 12, hv => exact hv
              | 13, hv => exact hv
              | 14, hv => exact hv
              | 15, hv => exact hv
              | _ + 16, _ => exact trivial
            case hG => exact (Below.refl _ _).drew
            case hops =>
              refine OpsOkS.cons ?o0 (OpsOkS.cons ?o1 (OpsOkS.cons ?o2 (OpsOkS.cons ?o3 (OpsOkS.cons ?o4 (OpsOkS.cons ?o5 (OpsOkS.cons ?o6 (OpsOkS.cons ?o7 (OpsOkS.cons ?o8 (OpsOkS.cons ?o9 (OpsOkS.cons ?o10 (OpsOkS.cons ?o11 (OpsOkS.cons ?o12 (OpsOkS.cons ?o13 (OpsOkS.cons ?o14 (OpsOkS.cons ?o15 OpsOkS.nil)))))))))))))))
              case o0 =>
                intro a w1 Kx hG need old hsz fresh hKx
                have e0 : a.tmps[8]?.getD undef = .pointer (some ⟨p, 0, none⟩) := by rw [← Array.getD_eq_getD_getElem?]; exact old 8 (by kernel_rfl)
                refine op_value (v := .pointer (some ⟨p, 0, none⟩)) (wanted_none rfl) ?_ (hKx _ w1 rfl hG (Below.refl _ _))
                simp [execOp, go_sem, e0]
              case o1 =>
                intro a w1 Kx hG need old hsz fresh hKx
                have e0 : a.tmps[54]?.getD undef = .pointer (some ⟨p, 0, none⟩) := by rw [← Array.getD_eq_getD_getElem?]; exact (need 0 (by kernel_rfl) (by kernel_rfl))
                have k0 := (HKV.out w1 hG).1.cells.1
                refine op_value (v := .int .i64 1) (wanted_none rfl) ?_ (hKx _ w1 rfl hG (Below.refl _ _))
                simp [execOp, go_sem, e0, k0]
              case o2 =>
                intro a w1 Kx hG need old hsz fresh hKx
                have e0 : a.tmps[55]?.getD undef = .int .i64 1 := by rw [← Array.getD_eq_getD_getElem?]; exact (need 1 (by kernel_rfl) (by kernel_rfl))
                refine op_value (v := .bool true) (wanted_none rfl) ?_ (hKx _ w1 rfl hG (Below.refl _ _))
                simp [execOp, go_sem, e0] <;> exact HKZ.out
              case o3 =>
                intro a w1 Kx hG need old hsz fresh hKx
                have e0 : a.tmps[56]?.getD undef = .bool true := by rw [← Array.getD_eq_getD_getElem?]; exact (need 2 (by kernel_rfl) (by kernel_rfl))
                refine op_value (v := .bool true) (wanted_none rfl) ?_ (hKx _ w1 rfl hG (Below.refl _ _))
                simp [execOp, go_sem, e0]
              case o4 =>
                intro a w1 Kx hG need old hsz fresh hKx
                have e0 : a.tmps[7]?.getD undef = .int .i64 (jx : Nat) := by rw [← Array.getD_eq_getD_getElem?]; exact old 7 (by kernel_rfl)
                refine op_value (v := .int .i64 (jx : Nat)) (wanted_of (j := 3) rfl (need 3 (by kernel_rfl) (by kernel_rfl))) ?_ (hKx _ w1 rfl hG (Below.refl _ _))
                simp [execOp, go_sem, e0]
              case o5 =>
                intro a w1 Kx hG need old hsz fresh hKx
                have e0 : a.tmps[58]?.getD undef = .int .i64 (jx : Nat) := by rw [← Array.getD_eq_getD_getElem?]; exact (need 4 (by kernel_rfl) (by kernel_rfl))
                refine op_value (v := .bool true) (wanted_of (j := 3) rfl (need 3 (by kernel_rfl) (by kernel_rfl))) ?_ (hKx _ w1 rfl hG (Below.refl _ _))
                simp [execOp, go_sem, e0] <;> exact HJP.out
              case o6 =>
                intro a w1 Kx hG need old hsz fresh hKx
                have e0 : a.tmps[57]?.getD undef = .bool true := by rw [← Array.getD_eq_getD_getElem?]; exact (need 3 (by kernel_rfl) (by kernel_rfl))
                have e1 : a.tmps[59]?.getD undef = .bool true := by rw [← Array.getD_eq_getD_getElem?]; exact (need 5 (by kernel_rfl) (by kernel_rfl))
                refine op_value (v := .bool true) (wanted_none rfl) ?_ (hKx _ w1 rfl hG (Below.refl _ _))
                simp [execOp, go_sem, asBool, e0, e1]
              case o7 =>
                intro a w1 Kx hG need old hsz fresh hKx
                have e0 : a.tmps[60]?.getD undef = .bool true := by rw [← Array.getD_eq_getD_getElem?]; exact (need 6 (by kernel_rfl) (by kernel_rfl))
                refine op_value (v := .bool true) (wanted_none rfl) ?_ (hKx _ w1 rfl hG (Below.refl _ _))
                simp [execOp, go_sem, e0]
              case o8 =>
                intro a w1 Kx hG need old hsz fresh hKx
                have e0 : a.tmps[2]?.getD undef = .pointer (some ⟨P, 0, none⟩) := by rw [← Array.getD_eq_getD_getElem?]; exact old 2 (by kernel_rfl)
                have j0 := (HKV.out w1 hG).2.1
                refine op_value (v := .agg #[.slice (some ⟨B, o, none⟩) t.length c]) (wanted_of (j := 7) rfl (need 7 (by kernel_rfl) (by kernel_rfl))) ?_ (hKx _ w1 rfl hG (Below.refl _ _))
                simp [execOp, go_sem, e0, j0]
              case o9 =>
                intro a w1 Kx hG need old hsz fresh hKx
                have e0 : a.tmps[7]?.getD undef = .int .i64 (jx : Nat) := by rw [← Array.getD_eq_getD_getElem?]; exact old 7 (by kernel_rfl)
                refine op_value (v := .int .i64 (jx : Nat)) (wanted_of (j := 7) rfl (need 7 (by kernel_rfl) (by kernel_rfl))) ?_ (hKx _ w1 rfl hG (Below.refl _ _))
                simp [execOp, go_sem, e0]
              case o10 =>
                intro a w1 Kx hG need old hsz fresh hKx
                have e0 : a.tmps[62]?.getD undef = .agg #[.slice (some ⟨B, o, none⟩) t.length c] := by rw [← Array.getD_eq_getD_getElem?]; exact (need 8 (by kernel_rfl) (by kernel_rfl))
                have e1 : a.tmps[63]?.getD undef = .int .i64 (jx : Nat) := by rw [← Array.getD_eq_getD_getElem?]; exact (need 9 (by kernel_rfl) (by kernel_rfl))
                refine op_call (wanted_of (j := 7) rfl (need 7 (by kernel_rfl) (by kernel_rfl))) (f := 21) (args := #[.agg #[.slice (some ⟨B, o, none⟩) t.length c], .int .i64 (jx : Nat)]) ?run ((HN1.out w1 (HKV.out w1 hG).2.2).mono ?post)
                case run => simp [go_sem, e0, e1]
                case post =>
                  rintro e w2 ⟨rfl, hb2⟩
                  exact ⟨_, rfl, hKx _ w2 rfl (hG.trans (hb2.mono hG.size)) hb2⟩
              case o11 =>
                intro a w1 Kx hG need old hsz fresh hKx
                have e0 : a.tmps[2]?.getD undef = .pointer (some ⟨P, 0, none⟩) := by rw [← Array.getD_eq_getD_getElem?]; exact old 2 (by kernel_rfl)
                have j0 := (HKV.out w1 hG).2.1
                refine op_value (v := .agg #[.slice (some ⟨B, o, none⟩) t.length c]) (wanted_of (j := 7) rfl (need 7 (by kernel_rfl) (by kernel_rfl))) ?_ (hKx _ w1 rfl hG (Below.refl _ _))
                simp [execOp, go_sem, e0, j0]
              case o12 =>
                intro a w1 Kx hG need old hsz fresh hKx
                have e0 : a.tmps[7]?.getD undef = .int .i64 (jx : Nat) := by rw [← Array.getD_eq_getD_getElem?]; exact old 7 (by kernel_rfl)
                refine op_value (v := .int .i64 (jx : Nat)) (wanted_of (j := 7) rfl (need 7 (by kernel_rfl) (by kernel_rfl))) ?_ (hKx _ w1 rfl hG (Below.refl _ _))
                simp [execOp, go_sem, e0]
              case o13 =>
                intro a w1 Kx hG need old hsz fresh hKx
                have e0 : a.tmps[65]?.getD undef = .agg #[.slice (some ⟨B, o, none⟩) t.length c] := by rw [← Array.getD_eq_getD_getElem?]; exact (need 11 (by kernel_rfl) (by kernel_rfl))
                have e1 : a.tmps[66]?.getD undef = .int .i64 (jx : Nat) := by rw [← Array.getD_eq_getD_getElem?]; exact (need 12 (by kernel_rfl) (by kernel_rfl))
                refine op_call (wanted_of (j := 7) rfl (need 7 (by kernel_rfl) (by kernel_rfl))) (f := 22) (args := #[.agg #[.slice (some ⟨B, o, none⟩) t.length c], .int .i64 (jx : Nat)]) ?run ((HN2.out w1 (HKV.out w1 hG).2.2).mono ?post)
                case run => simp [go_sem, e0, e1]
                case post =>
                  rintro e w2 ⟨rfl, hb2⟩
                  exact ⟨_, rfl, hKx _ w2 rfl (hG.trans (hb2.mono hG.size)) hb2⟩
              case o14 =>
                intro a w1 Kx hG need old hsz fresh hKx
                have e0 : a.tmps[64]?.getD undef = .int .i64 (NN : Nat) := by rw [← Array.getD_eq_getD_getElem?]; exact (need 10 (by kernel_rfl) (by kernel_rfl))
                have e1 : a.tmps[67]?.getD undef = .int .i64 (NN : Nat) := by rw [← Array.getD_eq_getD_getElem?]; exact (need 13 (by kernel_rfl) (by kernel_rfl))
                refine op_value (v := .bool false) (wanted_of (j := 7) rfl (need 7 (by kernel_rfl) (by kernel_rfl))) ?_ (hKx _ w1 rfl hG (Below.refl _ _))
                simp [execOp, go_sem, e0, e1]
              case o15 =>
                intro a w1 Kx hG need old hsz fresh hKx
                have e0 : a.tmps[61]?.getD undef = .bool true := by rw [← Array.getD_eq_getD_getElem?]; exact (need 7 (by kernel_rfl) (by kernel_rfl))
                have e1 : a.tmps[68]?.getD undef = .bool false := by rw [← Array.getD_eq_getD_getElem?]; exact (need 14 (by kernel_rfl) (by kernel_rfl))
                refine op_value (v := .bool false) (wanted_none rfl) ?_ (hKx _ w1 rfl hG (Below.refl _ _))
                simp [execOp, go_sem, asBool, e0, e1]
            case hend =>
              intro a w6 hG hde hsz hφ hold
              obtain rfl := act_puts [(54, .pointer (some ⟨p, 0, none⟩)), (55, .int .i64 1), (56, .bool true), (57, .bool true), (58, .int .i64 (jx : Nat)), (59, .bool true), (60, .bool true), (61, .bool true), (62, .agg #[.slice (some ⟨B, o, none⟩) t.length c]), (63, .int .i64 (jx : Nat)), (64, .int .i64 (NN : Nat)), (65, .agg #[.slice (some ⟨B, o, none⟩) t.length c]), (66, .int .i64 (jx : Nat)), (67, .int .i64 (NN : Nat)), (68, .bool false), (69, .bool false)] [54, 55, 56, 57, 58, 59, 60, 61, 62, 63, 64, 65, 66, 67, 68, 69] rfl (by kernel_rfl) (by kernel_rfl) hde hsz (List.forall_mem_cons.2 ⟨(show a.tmps.getD 54 undef = .pointer (some ⟨p, 0, none⟩) from (hφ 0 (by kernel_rfl))), (List.forall_mem_cons.2 ⟨(show a.tmps.getD 55 undef = .int .i64 1 from (hφ 1 (by kernel_rfl))), (List.forall_mem_cons.2 ⟨(show a.tmps.getD 56 undef = .bool true from (hφ 2 (by kernel_rfl))), (List.forall_mem_cons.2 ⟨(show a.tmps.getD 57 undef = .bool true from (hφ 3 (by kernel_rfl))), (List.forall_mem_cons.2 ⟨(show a.tmps.getD 58 undef = .int .i64 (jx : Nat) from (hφ 4 (by kernel_rfl))), (List.forall_mem_cons.2 ⟨(show a.tmps.getD 59 undef = .bool true from (hφ 5 (by kernel_rfl))), (List.forall_mem_cons.2 ⟨(show a.tmps.getD 60 undef = .bool true from (hφ 6 (by kernel_rfl))), (List.forall_mem_cons.2 ⟨(show a.tmps.getD 61 undef = .bool true from (hφ 7 (by kernel_rfl))), (List.forall_mem_cons.2 ⟨(show a.tmps.getD 62 undef = .agg #[.slice (some ⟨B, o, none⟩) t.length c] from (hφ 8 (by kernel_rfl))), (List.forall_mem_cons.2 ⟨(show a.tmps.getD 63 undef = .int .i64 (jx : Nat) from (hφ 9 (by kernel_rfl))), (List.forall_mem_cons.2 ⟨(show a.tmps.getD 64 undef = .int .i64 (NN : Nat) from (hφ 10 (by kernel_rfl))), (List.forall_mem_cons.2 ⟨(show a.tmps.getD 65 undef = .agg #[.slice (some ⟨B, o, none⟩) t.length c] from (hφ 11 (by kernel_rfl))), (List.forall_mem_cons.2 ⟨(show a.tmps.getD 66 undef = .int .i64 (jx : Nat) from (hφ 12 (by kernel_rfl))), (List.forall_mem_cons.2 ⟨(show a.tmps.getD 67 undef = .int .i64 (NN : Nat) from (hφ 13 (by kernel_rfl))), (List.forall_mem_cons.2 ⟨(show a.tmps.getD 68 undef = .bool false from (hφ 14 (by kernel_rfl))), (List.forall_mem_cons.2 ⟨(show a.tmps.getD 69 undef = .bool false from (hφ 15 (by kernel_rfl))), (fun _ h => absurd h (by simp))⟩)⟩)⟩)⟩)⟩)⟩)⟩)⟩)⟩)⟩)⟩)⟩)⟩)⟩)⟩)⟩) hold
              clear hφ hold hsz hde
              simp only [putAll]
              go_frame
              go_wp2_with fail
              go_roundw
              case rel => exact ⟨jx + 1, by omega, by go_num, by rw [HNT.out]; first | rfl | simp, by rw [HST.out]; simp, Lib.hid (HBW.out.trans (hG.mono HBW.out.size))⟩
              case measure => simp [RowKit.intOf]; omega
        have b1 : (nk == 1) = false := by simpa using k1
        by_cases hj0 : jx = 0
        · have b5 : decide ((0 : Int) < (jx : Int)) = false := decide_eq_false (by omega)
          have b5' : decide (0 < jx) = false := decide_eq_false (by omega)
          have HJP : Hid (jx = 0) := Lib.hid hj0
          clear hj0
          by_cases k2 : nk = 2
          · subst k2
            clear k0 k1 hlb
            go_upto_region 12 with (fail)
            refine region_st (fun j v w' => match j with | 0 => v = .pointer (some ⟨p, 0, none⟩) | 1 => v = .int .i64 2 | 2 => v = .bool true | 3 => v = .bool true | 4 => v = .int .i64 (jx : Nat) | 5 => v = .bool false | 6 => v = .bool false | 7 => v = .bool false | 8 => v = undef | 9 => v = undef | 10 => v = undef | 11 => v = undef | 12 => v = undef | 13 => v = undef | 14 => v = undef | 15 => v = .bool false | _ => True) (fun _ w' => Below V.heap.size V w') (fun w1 w2 => Below w1.heap.size w1 w2) (by kernel_rfl) (by kernel_rfl) (by kernel_rfl) ?hR ?hG ?hops ?hend
            case hR =>
              intro j v w1 w2 hv hb
              match j, hv with
              | 0, hv => exact hv
              | 1, hv => exact hv
              | 2, hv => exact hv
              | 3, hv => exact hv
              | 4, hv => exact hv
              | 5, hv => exact hv
              | 6, hv => exact hv
              | 7, hv => exact hv
              | 8, hv => exact hv
              | 9, hv => exact hv
              | 10, hv => exact hv
              | 11, hv => exact hv
              | 12, hv => exact hv
              | 13, hv => exact hv
              | 14, hv => exact hv
              | 15, hv => exact hv
              | _ + 16, _ => exact trivial
            case hG => exact (Below.refl _ _).drew
            case hops =>
              refine OpsOkS.cons ?o0 (OpsOkS.cons ?o1 (OpsOkS.cons ?o2 (OpsOkS.cons ?o3 (OpsOkS.cons ?o4 (OpsOkS.cons ?o5 (OpsOkS.cons ?o6 (OpsOkS.cons ?o7 (OpsOkS.cons ?o8 (OpsOkS.cons ?o9 (OpsOkS.cons ?o10 (OpsOkS.cons ?o11 (OpsOkS.cons ?o12 (OpsOkS.cons ?o13 (OpsOkS.cons ?o14 (OpsOkS.cons ?o15 OpsOkS.nil)))))))))))))))
              case o0 =>
                intro a w1 Kx hG need old hsz fresh hKx
                have e0 : a.tmps[8]?.getD undef = .pointer (some ⟨p, 0, none⟩) := by rw [← Array.getD_eq_getD_getElem?]; exact old 8 (by kernel_rfl)
                refine op_value (v := .pointer (some ⟨p, 0, none⟩)) (wanted_none rfl) ?_ (hKx _ w1 rfl hG (Below.refl _ _))
                simp [execOp, go_sem, e0]
              case o1 =>
                intro a w1 Kx hG need old hsz fresh hKx
                have e0 : a.tmps[54]?.getD undef = .pointer (some ⟨p, 0, none⟩) := by rw [← Array.getD_eq_getD_getElem?]; exact (need 0 (by kernel_rfl) (by kernel_rfl))
                have k0 := (HKV.out w1 hG).1.cells.1
                refine op_value (v := .int .i64 2) (wanted_none rfl) ?_ (hKx _ w1 rfl hG (Below.refl _ _))
                simp [execOp, go_sem, e0, k0]
              case o2 =>
                intro a w1 Kx hG need old hsz fresh hKx
                have e0 : a.tmps[55]?.getD undef = .int .i64 2 := by rw [← Array.getD_eq_getD_getElem?]; exact (need 1 (by kernel_rfl) (by kernel_rfl))
                refine op_value (v := .bool true) (wanted_none rfl) ?_ (hKx _ w1 rfl hG (Below.refl _ _))
                simp [execOp, go_sem, e0] <;> exact HKZ.out
              case o3 =>
                intro a w1 Kx hG need old hsz fresh hKx
                have e0 : a.tmps[56]?.getD undef = .bool true := by rw [← Array.getD_eq_getD_getElem?]; exact (need 2 (by kernel_rfl) (by kernel_rfl))
                refine op_value (v := .bool true) (wanted_none rfl) ?_ (hKx _ w1 rfl hG (Below.refl _ _))
                simp [execOp, go_sem, e0]
              case o4 =>
                intro a w1 Kx hG need old hsz fresh hKx
                have e0 : a.tmps[7]?.getD undef = .int .i64 (jx : Nat) := by rw [← Array.getD_eq_getD_getElem?]; exact old 7 (by kernel_rfl)
                refine op_value (v := .int .i64 (jx : Nat)) (wanted_of (j := 3) rfl (need 3 (by kernel_rfl) (by kernel_rfl))) ?_ (hKx _ w1 rfl hG (Below.refl _ _))
                simp [execOp, go_sem, e0]
              case o5 =>
                intro a w1 Kx hG need old hsz fresh hKx
                have e0 : a.tmps[58]?.getD undef = .int .i64 (jx : Nat) := by rw [← Array.getD_eq_getD_getElem?]; exact (need 4 (by kernel_rfl) (by kernel_rfl))
                refine op_value (v := .bool false) (wanted_of (j := 3) rfl (need 3 (by kernel_rfl) (by kernel_rfl))) ?_ (hKx _ w1 rfl hG (Below.refl _ _))
                simp [execOp, go_sem, e0] <;> exact HJP.out
              case o6 =>
                intro a w1 Kx hG need old hsz fresh hKx
                have e0 : a.tmps[57]?.getD undef = .bool true := by rw [← Array.getD_eq_getD_getElem?]; exact (need 3 (by kernel_rfl) (by kernel_rfl))
                have e1 : a.tmps[59]?.getD undef = .bool false := by rw [← Array.getD_eq_getD_getElem?]; exact (need 5 (by kernel_rfl) (by kernel_rfl))
                refine op_value (v := .bool false) (wanted_none rfl) ?_ (hKx _ w1 rfl hG (Below.refl _ _))
                simp [execOp, go_sem, asBool, e0, e1]
              case o7 =>
                intro a w1 Kx hG need old hsz fresh hKx
                have e0 : a.tmps[60]?.getD undef = .bool false := by rw [← Array.getD_eq_getD_getElem?]; exact (need 6 (by kernel_rfl) (by kernel_rfl))
                refine op_value (v := .bool false) (wanted_none rfl) ?_ (hKx _ w1 rfl hG (Below.refl _ _))
                simp [execOp, go_sem, e0]
              case o8 =>
                intro a w1 Kx hG need old hsz fresh hKx
                exact skip_op (j := 7) rfl (need 7 (by kernel_rfl) (by kernel_rfl)) (by decide) (hKx undef w1 rfl hG (Below.refl _ _))
              case o9 =>
                intro a w1 Kx hG need old hsz fresh hKx
                exact skip_op (j := 7) rfl (need 7 (by kernel_rfl) (by kernel_rfl)) (by decide) (hKx undef w1 rfl hG (Below.refl _ _))
              case o10 =>
                intro a w1 Kx hG need old hsz fresh hKx
                exact skip_op (j := 7) rfl (need 7 (by kernel_rfl) (by kernel_rfl)) (by decide) (hKx undef w1 rfl hG (Below.refl _ _))
              case o11 =>
                intro a w1 Kx hG need old hsz fresh hKx
                exact skip_op (j := 7) rfl (need 7 (by kernel_rfl) (by kernel_rfl)) (by decide) (hKx undef w1 rfl hG (Below.refl _ _))
              case o12 =>
                intro a w1 Kx hG need old hsz fresh hKx
                exact skip_op (j := 7) rfl (need 7 (by kernel_rfl) (by kernel_rfl)) (by decide) (hKx undef w1 rfl hG (Below.refl _ _))
              case o13 =>
                intro a w1 Kx hG need old hsz fresh hKx
                exact skip_op (j := 7) rfl (need 7 (by kernel_rfl) (by kernel_rfl)) (by decide) (hKx undef w1 rfl hG (Below.refl _ _))
              case o14 =>
                intro a w1 Kx hG need old hsz fresh hKx
                exact skip_op (j := 7) rfl (need 7 (by kernel_rfl) (by kernel_rfl)) (by decide) (hKx undef w1 rfl hG (Below.refl _ _))
              case o15 =>
                intro a w1 Kx hG need old hsz fresh hKx
                have e0 : a.tmps[61]?.getD undef = .bool false := by rw [← Array.getD_eq_getD_getElem?]; exact (need 7 (by kernel_rfl) (by kernel_rfl))
                refine op_value (v := .bool false) (wanted_none rfl) ?_ (hKx _ w1 rfl hG (Below.refl _ _))
                simp [execOp, go_sem, asBool, e0]
            case hend =>
              intro a w6 hG hde hsz hφ hold
              obtain rfl := act_puts [(54, .pointer (some ⟨p, 0, none⟩)), (55, .int .i64 2), (56, .bool true), (57, .bool true), (58, .int .i64 (jx : Nat)), (59, .bool false), (60, .bool false), (61, .bool false), (62, undef), (63, undef), (64, undef), (65, undef), (66, undef), (67, undef), (68, undef), (69, .bool false)] [54, 55, 56, 57, 58, 59, 60, 61, 62, 63, 64, 65, 66, 67, 68, 69] rfl (by kernel_rfl) (by kernel_rfl) hde hsz (List.forall_mem_cons.2 ⟨(show a.tmps.getD 54 undef = .pointer (some ⟨p, 0, none⟩) from (hφ 0 (by kernel_rfl))), (List.forall_mem_cons.2 ⟨(show a.tmps.getD 55 undef = .int .i64 2 from (hφ 1 (by kernel_rfl))), (List.forall_mem_cons.2 ⟨(show a.tmps.getD 56 undef = .bool true from (hφ 2 (by kernel_rfl))), (List.forall_mem_cons.2 ⟨(show a.tmps.getD 57 undef = .bool true from (hφ 3 (by kernel_rfl))), (List.forall_mem_cons.2 ⟨(show a.tmps.getD 58 undef = .int .i64 (jx : Nat) from (hφ 4 (by kernel_rfl))), (List.forall_mem_cons.2 ⟨(show a.tmps.getD 59 undef = .bool false from (hφ 5 (by kernel_rfl))), (List.forall_mem_cons.2 ⟨(show a.tmps.getD 60 undef = .bool false from (hφ 6 (by kernel_rfl))), (List.forall_mem_cons.2 ⟨(show a.tmps.getD 61 undef = .bool false from (hφ 7 (by kernel_rfl))), (List.forall_mem_cons.2 ⟨(show a.tmps.getD 62 undef = undef from (hφ 8 (by kernel_rfl))), (List.forall_mem_cons.2 ⟨(show a.tmps.getD 63 undef = undef from (hφ 9 (by kernel_rfl))), (List.forall_mem_cons.2 ⟨(show a.tmps.getD 64 undef = undef from (hφ 10 (by kernel_rfl))), (List.forall_mem_cons.2 ⟨(show a.tmps.getD 65 undef = undef from (hφ 11 (by kernel_rfl))), (List.forall_mem_cons.2 ⟨(show a.tmps.getD 66 undef = undef from (hφ 12 (by kernel_rfl))), (List.forall_mem_cons.2 ⟨(show a.tmps.getD 67 undef = undef from (hφ 13 (by kernel_rfl))), (List.forall_mem_cons.2 ⟨(show a.tmps.getD 68 undef = undef from (hφ 14 (by kernel_rfl))), (List.forall_mem_cons.2 ⟨(show a.tmps.getD 69 undef = .bool false from (hφ 15 (by kernel_rfl))), (fun _ h => absurd h (by simp))⟩)⟩)⟩)⟩)⟩)⟩)⟩)⟩)⟩)⟩)⟩)⟩)⟩)⟩)⟩)⟩) hold
              clear hφ hold hsz hde
              simp only [putAll]
              go_frame
              go_wp2_with fail
              go_roundw
              case rel => exact ⟨jx + 1, by omega, by go_num, by rw [HNT.out]; first | rfl | simp, by rw [HST.out]; simp [HJP.out], Lib.hid (HBW.out.trans (hG.mono HBW.out.size))⟩
              case measure => simp [RowKit.intOf]; omega
          · have b2 : (nk == 2) = false := by simpa using k2
            have HK1 := Lib.hid k1
            have HK2 := Lib.hid k2
            clear k0 k1 k2 hlb
            go_upto_region 12 with (fail)
            refine region_st (fun j v w' => match j with | 0 => v = .pointer (some ⟨p, 0, none⟩) | 1 => v = .int .i64 nk | 2 => v = .bool true | 3 => v = .bool true | 4 => v = .int .i64 (jx : Nat) | 5 => v = .bool false | 6 => v = .bool false | 7 => v = .bool false | 8 => v = undef | 9 => v = undef | 10 => v = undef | 11 => v = undef | 12 => v = undef | 13 => v = undef | 14 => v = undef | 15 => v = .bool false | _ => True) (fun _ w' => Below V.heap.size V w') (fun w1 w2 => Below w1.heap.size w1 w2) (by kernel_rfl) (by kernel_rfl) (by kernel_rfl) ?hR ?hG ?hops ?hend
            case hR =>
              intro j v w1 w2 hv hb
              match j, hv with
              | 0, hv => exact hv
              | 1, hv => exact hv
              | 2, hv => exact hv
              | 3, hv => exact hv
              | 4, hv => exact hv
              | 5, hv => exact hv
              | 6, hv => exact hv
              | 7, hv => exact hv
              | 8, hv => exact hv
              | 9, hv => exact hv
              | 10, hv => exact hv
              | 11, hv => exact hv
              | 12, hv => exact hv
              | 13, hv => exact hv
              | 14, hv => exact hv
              | 15, hv => exact hv
              | _ + 16, _ => exact trivial
            case hG => exact (Below.refl _ _).drew
            case hops =>
              refine OpsOkS.cons ?o0 (OpsOkS.cons ?o1 (OpsOkS.cons ?o2 (OpsOkS.cons ?o3 (OpsOkS.cons ?o4 (OpsOkS.cons ?o5 (OpsOkS.cons ?o6 (OpsOkS.cons ?o7 (OpsOkS.cons ?o8 (OpsOkS.cons ?o9 (OpsOkS.cons ?o10 (OpsOkS.cons ?o11 (OpsOkS.cons ?o12 (OpsOkS.cons ?o13 (OpsOkS.cons ?o14 (OpsOkS.cons ?o15 OpsOkS.nil)))))))))))))))
              case o0 =>
                intro a w1 Kx hG need old hsz fresh hKx
                have e0 : a.tmps[8]?.getD undef = .pointer (some ⟨p, 0, none⟩) := by rw [← Array.getD_eq_getD_getElem?]; exact old 8 (by kernel_rfl)
                refine op_value (v := .pointer (some ⟨p, 0, none⟩)) (wanted_none rfl) ?_ (hKx _ w1 rfl hG (Below.refl _ _))
                simp [execOp, go_sem, e0]
              case o1 =>
                intro a w1 Kx hG need old hsz fresh hKx
                have e0 : a.tmps[54]?.getD undef = .pointer (some ⟨p, 0, none⟩) := by rw [← Array.getD_eq_getD_getElem?]; exact (need 0 (by kernel_rfl) (by kernel_rfl))
                have k0 := (HKV.out w1 hG).1.cells.1
                refine op_value (v := .int .i64 nk) (wanted_none rfl) ?_ (hKx _ w1 rfl hG (Below.refl _ _))
                simp [execOp, go_sem, e0, k0]
              case o2 =>
                intro a w1 Kx hG need old hsz fresh hKx
                have e0 : a.tmps[55]?.getD undef = .int .i64 nk := by rw [← Array.getD_eq_getD_getElem?]; exact (need 1 (by kernel_rfl) (by kernel_rfl))
                refine op_value (v := .bool true) (wanted_none rfl) ?_ (hKx _ w1 rfl hG (Below.refl _ _))
                simp [execOp, go_sem, e0] <;> exact HKZ.out
              case o3 =>
                intro a w1 Kx hG need old hsz fresh hKx
                have e0 : a.tmps[56]?.getD undef = .bool true := by rw [← Array.getD_eq_getD_getElem?]; exact (need 2 (by kernel_rfl) (by kernel_rfl))
                refine op_value (v := .bool true) (wanted_none rfl) ?_ (hKx _ w1 rfl hG (Below.refl _ _))
                simp [execOp, go_sem, e0]
              case o4 =>
                intro a w1 Kx hG need old hsz fresh hKx
                have e0 : a.tmps[7]?.getD undef = .int .i64 (jx : Nat) := by rw [← Array.getD_eq_getD_getElem?]; exact old 7 (by kernel_rfl)
                refine op_value (v := .int .i64 (jx : Nat)) (wanted_of (j := 3) rfl (need 3 (by kernel_rfl) (by kernel_rfl))) ?_ (hKx _ w1 rfl hG (Below.refl _ _))
                simp [execOp, go_sem, e0]
              case o5 =>
                intro a w1 Kx hG need old hsz fresh hKx
                have e0 : a.tmps[58]?.getD undef = .int .i64 (jx : Nat) := by rw [← Array.getD_eq_getD_getElem?]; exact (need 4 (by kernel_rfl) (by kernel_rfl))
                refine op_value (v := .bool false) (wanted_of (j := 3) rfl (need 3 (by kernel_rfl) (by kernel_rfl))) ?_ (hKx _ w1 rfl hG (Below.refl _ _))
                simp [execOp, go_sem, e0] <;> exact HJP.out
              case o6 =>
                intro a w1 Kx hG need old hsz fresh hKx
                have e0 : a.tmps[57]?.getD undef = .bool true := by rw [← Array.getD_eq_getD_getElem?]; exact (need 3 (by kernel_rfl) (by kernel_rfl))
                have e1 : a.tmps[59]?.getD undef = .bool false := by rw [← Array.getD_eq_getD_getElem?]; exact (need 5 (by kernel_rfl) (by kernel_rfl))
                refine op_value (v := .bool false) (wanted_none rfl) ?_ (hKx _ w1 rfl hG (Below.refl _ _))
                simp [execOp, go_sem, asBool, e0, e1]
              case o7 =>
                intro a w1 Kx hG need old hsz fresh hKx
                have e0 : a.tmps[60]?.getD undef = .bool false := by rw [← Array.getD_eq_getD_getElem?]; exact (need 6 (by kernel_rfl) (by kernel_rfl))
                refine op_value (v := .bool false) (wanted_none rfl) ?_ (hKx _ w1 rfl hG (Below.refl _ _))
                simp [execOp, go_sem, e0]
              case o8 =>
                intro a w1 Kx hG need old hsz fresh hKx
                exact skip_op (j := 7) rfl (need 7 (by kernel_rfl) (by kernel_rfl)) (by decide) (hKx undef w1 rfl hG (Below.refl _ _))
              case o9 =>
                intro a w1 Kx hG need old hsz fresh hKx
                exact skip_op (j := 7) rfl (need 7 (by kernel_rfl) (by kernel_rfl)) (by decide) (hKx undef w1 rfl hG (Below.refl _ _))
              case o10 =>
                intro a w1 Kx hG need old hsz fresh hKx
                exact skip_op (j := 7) rfl (need 7 (by kernel_rfl) (by kernel_rfl)) (by decide) (hKx undef w1 rfl hG (Below.refl _ _))
              case o11 =>
                intro a w1 Kx hG need old hsz fresh hKx
                exact skip_op (j := 7) rfl (need 7 (by kernel_rfl) (by kernel_rfl)) (by decide) (hKx undef w1 rfl hG (Below.refl _ _))
              case o12 =>
                intro a w1 Kx hG need old hsz fresh hKx
                exact skip_op (j := 7) rfl (need 7 (by kernel_rfl) (by kernel_rfl)) (by decide) (hKx undef w1 rfl hG (Below.refl _ _))
              case o13 =>
                intro a w1 Kx hG need old hsz fresh hKx
                exact skip_op (j := 7) rfl (need 7 (by kernel_rfl) (by kernel_rfl)) (by decide) (hKx undef w1 rfl hG (Below.refl _ _))
              case o14 =>
                intro a w1 Kx hG need old hsz fresh hKx
                exact skip_op (j := 7) rfl (need 7 (by kernel_rfl) (by kernel_rfl)) (by decide) (hKx undef w1 rfl hG (Below.refl _ _))
              case o15 =>
                intro a w1 Kx hG need old hsz fresh hKx
                have e0 : a.tmps[61]?.getD undef = .bool false := by rw [← Array.getD_eq_getD_getElem?]; exact (need 7 (by kernel_rfl) (by kernel_rfl))
                refine op_value (v := .bool false) (wanted_none rfl) ?_ (hKx _ w1 rfl hG (Below.refl _ _))
                simp [execOp, go_sem, asBool, e0]
            case hend =>
              intro a w6 hG hde hsz hφ hold
              obtain rfl := act_puts [(54, .pointer (some ⟨p, 0, none⟩)), (55, .int .i64 nk), (56, .bool true), (57, .bool true), (58, .int .i64 (jx : Nat)), (59, .bool false), (60, .bool false), (61, .bool false), (62, undef), (63, undef), (64, undef), (65, undef), (66, undef), (67, undef), (68, undef), (69, .bool false)] [54, 55, 56, 57, 58, 59, 60, 61, 62, 63, 64, 65, 66, 67, 68, 69] rfl (by kernel_rfl) (by kernel_rfl) hde hsz (List.forall_mem_cons.2 ⟨(show a.tmps.getD 54 undef = .pointer (some ⟨p, 0, none⟩) from (hφ 0 (by kernel_rfl))), (List.forall_mem_cons.2 ⟨(show a.tmps.getD 55 undef = .int .i64 nk from (hφ 1 (by kernel_rfl))), (List.forall_mem_cons.2 ⟨(show a.tmps.getD 56 undef = .bool true from (hφ 2 (by kernel_rfl))), (List.forall_mem_cons.2 ⟨(show a.tmps.getD 57 undef = .bool true from (hφ 3 (by kernel_rfl))), (List.forall_mem_cons.2 ⟨(show a.tmps.getD 58 undef = .int .i64 (jx : Nat) from (hφ 4 (by kernel_rfl))), (List.forall_mem_cons.2 ⟨(show a.tmps.getD 59 undef = .bool false from (hφ 5 (by kernel_rfl))), (List.forall_mem_cons.2 ⟨(show a.tmps.getD 60 undef = .bool false from (hφ 6 (by kernel_rfl))), (List.forall_mem_cons.2 ⟨(show a.tmps.getD 61 undef = .bool false from (hφ 7 (by kernel_rfl))), (List.forall_mem_cons.2 ⟨(show a.tmps.getD 62 undef = undef from (hφ 8 (by kernel_rfl))), (List.forall_mem_cons.2 ⟨(show a.tmps.getD 63 undef = undef from (hφ 9 (by kernel_rfl))), (List.forall_mem_cons.2 ⟨(show a.tmps.getD 64 undef = undef from (hφ 10 (by kernel_rfl))), (List.forall_mem_cons.2 ⟨(show a.tmps.getD 65 undef = undef from (hφ 11 (by kernel_rfl))), (List.forall_mem_cons.2 ⟨(show a.tmps.getD 66 undef = undef from (hφ 12 (by kernel_rfl))), (List.forall_mem_cons.2 ⟨(show a.tmps.getD 67 undef = undef from (hφ 13 (by kernel_rfl))), (List.forall_mem_cons.2 ⟨(show a.tmps.getD 68 undef = undef from (hφ 14 (by kernel_rfl))), (List.forall_mem_cons.2 ⟨(show a.tmps.getD 69 undef = .bool false from (hφ 15 (by kernel_rfl))), (fun _ h => absurd h (by simp))⟩)⟩)⟩)⟩)⟩)⟩)⟩)⟩)⟩)⟩)⟩)⟩)⟩)⟩)⟩)⟩) hold
              clear hφ hold hsz hde
              simp only [putAll]
              go_frame
              go_wp2_with fail
              go_roundw
              case rel => exact ⟨jx + 1, by omega, by go_num, by rw [HNT.out]; first | rfl | simp, by rw [HST.out]; simp [HK1.out, HK2.out], Lib.hid (HBW.out.trans (hG.mono HBW.out.size))⟩
              case measure => simp [RowKit.intOf]; omega
        · have b5 : decide ((0 : Int) < (jx : Int)) = true := decide_eq_true (by omega)
          have b5' : decide (0 < jx) = true := decide_eq_true (by omega)
          have HJP : Hid (0 < jx) := Lib.hid (by omega)
          clear hj0
          by_cases k2 : nk = 2
          · subst k2
            have hw3 : IntKind.i64.wrap (S6 + 1) = S6 + 1 := i64w_idE _ (by omega)
            clear k0 k1 hlb
            go_upto_region 12 with (fail)
            refine region_st (fun j v w' => match j with | 0 => v = .pointer (some ⟨p, 0, none⟩) | 1 => v = .int .i64 2 | 2 => v = .bool true | 3 => v = .bool true | 4 => v = .int .i64 (jx : Nat) | 5 => v = .bool true | 6 => v = .bool true | 7 => v = .bool true | 8 => v = .agg #[.slice (some ⟨B, o, none⟩) t.length c] | 9 => v = .int .i64 (jx : Nat) | 10 => v = .int .i64 (NN : Nat) | 11 => v = .agg #[.slice (some ⟨B, o, none⟩) t.length c] | 12 => v = .int .i64 (jx : Nat) | 13 => v = .int .i64 (NN : Nat) | 14 => v = .bool false | 15 => v = .bool false | _ => True) (fun _ w' => Below V.heap.size V w') (fun w1 w2 => Below w1.heap.size w1 w2) (by kernel_rfl) (by kernel_rfl) (by kernel_rfl) ?hR ?hG ?hops ?hend
            case hR =>
              intro j v w1 w2 hv hb
              match j, hv with
              | 0, hv => exact hv
              | 1, hv => exact hv
              | 2, hv => exact hv
              | 3, hv => exact hv
              | 4, hv => exact hv
              | 5, hv => exact hv
              | 6, hv => exact hv
              | 7, hv => exact hv
              | 8, hv => exact hv
              | 9, hv => exact hv
              | 10, hv => exact hv
              | 11, hv => exact hv
              | 12, hv => exact hv
              | 13, hv => exact hv
              | 14, hv => exact hv
              | 15, hv => exact hv
              | _ + 16, _ => exact trivial
            case hG => exact (Below.refl _ _).drew
            case hops =>
              refine OpsOkS.cons ?o0 (OpsOkS.cons ?o1 (OpsOkS.cons ?o2 (OpsOkS.cons ?o3 (OpsOkS.cons ?o4 (OpsOkS.cons ?o5 (OpsOkS.cons ?o6 (OpsOkS.cons ?o7 (OpsOkS.cons ?o8 (OpsOkS.cons ?o9 (OpsOkS.cons ?o10 (OpsOkS.cons ?o11 (OpsOkS.cons ?o12 (OpsOkS.cons ?o13 (OpsOkS.cons ?o14 (OpsOkS.cons ?o15 OpsOkS.nil)))))))))))))))
              case o0 =>
                intro a w1 Kx hG need old hsz fresh hKx
                have e0 : a.tmps[8]?.getD undef = .pointer (some ⟨p, 0, none⟩) := by rw [← Array.getD_eq_getD_getElem?]; exact old 8 (by kernel_rfl)
                refine op_value (v := .pointer (some ⟨p, 0, none⟩)) (wanted_none rfl) ?_ (hKx _ w1 rfl hG (Below.refl _ _))
                simp [execOp, go_sem, e0]
              case o1 =>
                intro a w1 Kx hG need old hsz fresh hKx
                have e0 : a.tmps[54]?.getD undef = .pointer (some ⟨p, 0, none⟩) := by rw [← Array.getD_eq_getD_getElem?]; exact (need 0 (by kernel_rfl) (by kernel_rfl))
                have k0 := (HKV.out w1 hG).1.cells.1
                refine op_value (v := .int .i64 2) (wanted_none rfl) ?_ (hKx _ w1 rfl hG (Below.refl _ _))
                simp [execOp, go_sem, e0, k0]
              case o2 =>
                intro a w1 Kx hG need old hsz fresh hKx
                have e0 : a.tmps[55]?.getD undef = .int .i64 2 := by rw [← Array.getD_eq_getD_getElem?]; exact (need 1 (by kernel_rfl) (by kernel_rfl))
                refine op_value (v := .bool true) (wanted_none rfl) ?_ (hKx _ w1 rfl hG (Below.refl _ _))
                simp [execOp, go_sem, e0] <;> exact HKZ.out
              case o3 =>
                intro a w1 Kx hG need old hsz fresh hKx
                have e0 : a.tmps[56]?.getD undef = .bool true := by rw [← Array.getD_eq_getD_getElem?]; exact (need 2 (by kernel_rfl) (by kernel_rfl))
                refine op_value (v := .bool true) (wanted_none rfl) ?_ (hKx _ w1 rfl hG (Below.refl _ _))
                simp [execOp, go_sem, e0]
              case o4 =>
                intro a w1 Kx hG need old hsz fresh hKx
                have e0 : a.tmps[7]?.getD undef = .int .i64 (jx : Nat) := by rw [← Array.getD_eq_getD_getElem?]; exact old 7 (by kernel_rfl)
                refine op_value (v := .int .i64 (jx : Nat)) (wanted_of (j := 3) rfl (need 3 (by kernel_rfl) (by kernel_rfl))) ?_ (hKx _ w1 rfl hG (Below.refl _ _))
                simp [execOp, go_sem, e0]
              case o5 =>
                intro a w1 Kx hG need old hsz fresh hKx
                have e0 : a.tmps[58]?.getD undef = .int .i64 (jx : Nat) := by rw [← Array.getD_eq_getD_getElem?]; exact (need 4 (by kernel_rfl) (by kernel_rfl))
                refine op_value (v := .bool true) (wanted_of (j := 3) rfl (need 3 (by kernel_rfl) (by kernel_rfl))) ?_ (hKx _ w1 rfl hG (Below.refl _ _))
                simp [execOp, go_sem, e0] <;> exact HJP.out
              case o6 =>
                intro a w1 Kx hG need old hsz fresh hKx
                have e0 : a.tmps[57]?.getD undef = .bool true := by rw [← Array.getD_eq_getD_getElem?]; exact (need 3 (by kernel_rfl) (by kernel_rfl))
                have e1 : a.tmps[59]?.getD undef = .bool true := by rw [← Array.getD_eq_getD_getElem?]; exact (need 5 (by kernel_rfl) (by kernel_rfl))
                refine op_value (v := .bool true) (wanted_none rfl) ?_ (hKx _ w1 rfl hG (Below.refl _ _))
                simp [execOp, go_sem, asBool, e0, e1]
              case o7 =>
                intro a w1 Kx hG need old hsz fresh hKx
                have e0 : a.tmps[60]?.getD undef = .bool true := by rw [← Array.getD_eq_getD_getElem?]; exact (need 6 (by kernel_rfl) (by kernel_rfl))
                refine op_value (v := .bool true) (wanted_none rfl) ?_ (hKx _ w1 rfl hG (Below.refl _ _))
                simp [execOp, go_sem, e0]
              case o8 =>
                intro a w1 Kx hG need old hsz fresh hKx
                have e0 : a.tmps[2]?.getD undef = .pointer (some ⟨P, 0, none⟩) := by rw [← Array.getD_eq_getD_getElem?]; exact old 2 (by kernel_rfl)
                have j0 := (HKV.out w1 hG).2.1
                refine op_value (v := .agg #[.slice (some ⟨B, o, none⟩) t.length c]) (wanted_of (j := 7) rfl (need 7 (by kernel_rfl) (by kernel_rfl))) ?_ (hKx _ w1 rfl hG (Below.refl _ _))
                simp [execOp, go_sem, e0, j0]
              case o9 =>
                intro a w1 Kx hG need old hsz fresh hKx
                have e0 : a.tmps[7]?.getD undef = .int .i64 (jx : Nat) := by rw [← Array.getD_eq_getD_getElem?]; exact old 7 (by kernel_rfl)
                refine op_value (v := .int .i64 (jx : Nat)) (wanted_of (j := 7) rfl (need 7 (by kernel_rfl) (by kernel_rfl))) ?_ (hKx _ w1 rfl hG (Below.refl _ _))
                simp [execOp, go_sem, e0]
              case o10 =>
                intro a w1 Kx hG need old hsz fresh hKx
                have e0 : a.tmps[62]?.getD undef = .agg #[.slice (some ⟨B, o, none⟩) t.length c] := by rw [← Array.getD_eq_getD_getElem?]; exact (need 8 (by kernel_rfl) (by kernel_rfl))
                have e1 : a.tmps[63]?.getD undef = .int .i64 (jx : Nat) := by rw [← Array.getD_eq_getD_getElem?]; exact (need 9 (by kernel_rfl) (by kernel_rfl))
                refine op_call (wanted_of (j := 7) rfl (need 7 (by kernel_rfl) (by kernel_rfl))) (f := 21) (args := #[.agg #[.slice (some ⟨B, o, none⟩) t.length c], .int .i64 (jx : Nat)]) ?run ((HN1.out w1 (HKV.out w1 hG).2.2).mono ?post)
                case run => simp [go_sem, e0, e1]
                case post =>
                  rintro e w2 ⟨rfl, hb2⟩
                  exact ⟨_, rfl, hKx _ w2 rfl (hG.trans (hb2.mono hG.size)) hb2⟩
              case o11 =>
                intro a w1 Kx hG need old hsz fresh hKx
                have e0 : a.tmps[2]?.getD undef = .pointer (some ⟨P, 0, none⟩) := by rw [← Array.getD_eq_getD_getElem?]; exact old 2 (by kernel_rfl)
                have j0 := (HKV.out w1 hG).2.1
                refine op_value (v := .agg #[.slice (some ⟨B, o, none⟩) t.length c]) (wanted_of (j := 7) rfl (need 7 (by kernel_rfl) (by kernel_rfl))) ?_ (hKx _ w1 rfl hG (Below.refl _ _))
                simp [execOp, go_sem, e0, j0]
              case o12 =>
                intro a w1 Kx hG need old hsz fresh hKx
                have e0 : a.tmps[7]?.getD undef = .int .i64 (jx : Nat) := by rw [← Array.getD_eq_getD_getElem?]; exact old 7 (by kernel_rfl)
                refine op_value (v := .int .i64 (jx : Nat)) (wanted_of (j := 7) rfl (need 7 (by kernel_rfl) (by kernel_rfl))) ?_ (hKx _ w1 rfl hG (Below.refl _ _))
                simp [execOp, go_sem, e0]
              case o13 =>
                intro a w1 Kx hG need old hsz fresh hKx
                have e0 : a.tmps[65]?.getD undef = .agg #[.slice (some ⟨B, o, none⟩) t.length c] := by rw [← Array.getD_eq_getD_getElem?]; exact (need 11 (by kernel_rfl) (by kernel_rfl))
                have e1 : a.tmps[66]?.getD undef = .int .i64 (jx : Nat) := by rw [← Array.getD_eq_getD_getElem?]; exact (need 12 (by kernel_rfl) (by kernel_rfl))
                refine op_call (wanted_of (j := 7) rfl (need 7 (by kernel_rfl) (by kernel_rfl))) (f := 22) (args := #[.agg #[.slice (some ⟨B, o, none⟩) t.length c], .int .i64 (jx : Nat)]) ?run ((HN2.out w1 (HKV.out w1 hG).2.2).mono ?post)
                case run => simp [go_sem, e0, e1]
                case post =>
                  rintro e w2 ⟨rfl, hb2⟩
                  exact ⟨_, rfl, hKx _ w2 rfl (hG.trans (hb2.mono hG.size)) hb2⟩
              case o14 =>
                intro a w1 Kx hG need old hsz fresh hKx
                have e0 : a.tmps[64]?.getD undef = .int .i64 (NN : Nat) := by rw [← Array.getD_eq_getD_getElem?]; exact (need 10 (by kernel_rfl) (by kernel_rfl))
                have e1 : a.tmps[67]?.getD undef = .int .i64 (NN : Nat) := by rw [← Array.getD_eq_getD_getElem?]; exact (need 13 (by kernel_rfl) (by kernel_rfl))
                refine op_value (v := .bool false) (wanted_of (j := 7) rfl (need 7 (by kernel_rfl) (by kernel_rfl))) ?_ (hKx _ w1 rfl hG (Below.refl _ _))
                simp [execOp, go_sem, e0, e1]
              case o15 =>
                intro a w1 Kx hG need old hsz fresh hKx
                have e0 : a.tmps[61]?.getD undef = .bool true := by rw [← Array.getD_eq_getD_getElem?]; exact (need 7 (by kernel_rfl) (by kernel_rfl))
                have e1 : a.tmps[68]?.getD undef = .bool false := by rw [← Array.getD_eq_getD_getElem?]; exact (need 14 (by kernel_rfl) (by kernel_rfl))
                refine op_value (v := .bool false) (wanted_none rfl) ?_ (hKx _ w1 rfl hG (Below.refl _ _))
                simp [execOp, go_sem, asBool, e0, e1]
            case hend =>
              intro a w6 hG hde hsz hφ hold
              obtain rfl := act_puts [(54, .pointer (some ⟨p, 0, none⟩)), (55, .int .i64 2), (56, .bool true), (57, .bool true), (58, .int .i64 (jx : Nat)), (59, .bool true), (60, .bool true), (61, .bool true), (62, .agg #[.slice (some ⟨B, o, none⟩) t.length c]), (63, .int .i64 (jx : Nat)), (64, .int .i64 (NN : Nat)), (65, .agg #[.slice (some ⟨B, o, none⟩) t.length c]), (66, .int .i64 (jx : Nat)), (67, .int .i64 (NN : Nat)), (68, .bool false), (69, .bool false)] [54, 55, 56, 57, 58, 59, 60, 61, 62, 63, 64, 65, 66, 67, 68, 69] rfl (by kernel_rfl) (by kernel_rfl) hde hsz (List.forall_mem_cons.2 ⟨(show a.tmps.getD 54 undef = .pointer (some ⟨p, 0, none⟩) from (hφ 0 (by kernel_rfl))), (List.forall_mem_cons.2 ⟨(show a.tmps.getD 55 undef = .int .i64 2 from (hφ 1 (by kernel_rfl))), (List.forall_mem_cons.2 ⟨(show a.tmps.getD 56 undef = .bool true from (hφ 2 (by kernel_rfl))), (List.forall_mem_cons.2 ⟨(show a.tmps.getD 57 undef = .bool true from (hφ 3 (by kernel_rfl))), (List.forall_mem_cons.2 ⟨(show a.tmps.getD 58 undef = .int .i64 (jx : Nat) from (hφ 4 (by kernel_rfl))), (List.forall_mem_cons.2 ⟨(show a.tmps.getD 59 undef = .bool true from (hφ 5 (by kernel_rfl))), (List.forall_mem_cons.2 ⟨(show a.tmps.getD 60 undef = .bool true from (hφ 6 (by kernel_rfl))), (List.forall_mem_cons.2 ⟨(show a.tmps.getD 61 undef = .bool true from (hφ 7 (by kernel_rfl))), (List.forall_mem_cons.2 ⟨(show a.tmps.getD 62 undef = .agg #[.slice (some ⟨B, o, none⟩) t.length c] from (hφ 8 (by kernel_rfl))), (List.forall_mem_cons.2 ⟨(show a.tmps.getD 63 undef = .int .i64 (jx : Nat) from (hφ 9 (by kernel_rfl))), (List.forall_mem_cons.2 ⟨(show a.tmps.getD 64 undef = .int .i64 (NN : Nat) from (hφ 10 (by kernel_rfl))), (List.forall_mem_cons.2 ⟨(show a.tmps.getD 65 undef = .agg #[.slice (some ⟨B, o, none⟩) t.length c] from (hφ 11 (by kernel_rfl))), (List.forall_mem_cons.2 ⟨(show a.tmps.getD 66 undef = .int .i64 (jx : Nat) from (hφ 12 (by kernel_rfl))), (List.forall_mem_cons.2 ⟨(show a.tmps.getD 67 undef = .int .i64 (NN : Nat) from (hφ 13 (by kernel_rfl))), (List.forall_mem_cons.2 ⟨(show a.tmps.getD 68 undef = .bool false from (hφ 14 (by kernel_rfl))), (List.forall_mem_cons.2 ⟨(show a.tmps.getD 69 undef = .bool false from (hφ 15 (by kernel_rfl))), (fun _ h => absurd h (by simp))⟩)⟩)⟩)⟩)⟩)⟩)⟩)⟩)⟩)⟩)⟩)⟩)⟩)⟩)⟩)⟩) hold
              clear hφ hold hsz hde
              simp only [putAll]
              go_frame
              go_wp2_with fail
              go_roundw
              case rel => exact ⟨jx + 1, by omega, by go_num, by rw [HNT.out]; first | rfl | simp, by rw [HST.out]; simp [HJP.out], Lib.hid (HBW.out.trans (hG.mono HBW.out.size))⟩
              case measure => simp [RowKit.intOf]; omega
          · have b2 : (nk == 2) = false := by simpa using k2
            have HK1 := Lib.hid k1
            have HK2 := Lib.hid k2
            clear k0 k1 k2 hlb
            go_upto_region 12 with (fail)
            refine region_st (fun j v w' => match j with | 0 => v = .pointer (some ⟨p, 0, none⟩) | 1 => v = .int .i64 nk | 2 => v = .bool true | 3 => v = .bool true | 4 => v = .int .i64 (jx : Nat) | 5 => v = .bool true | 6 => v = .bool true | 7 => v = .bool true | 8 => v = .agg #[.slice (some ⟨B, o, none⟩) t.length c] | 9 => v = .int .i64 (jx : Nat) | 10 => v = .int .i64 (NN : Nat) | 11 => v = .agg #[.slice (some ⟨B, o, none⟩) t.length c] | 12 => v = .int .i64 (jx : Nat) | 13 => v = .int .i64 (NN : Nat) | 14 => v = .bool false | 15 => v = .bool false | _ => True) (fun _ w' => Below V.heap.size V w') (fun w1 w2 => Below w1.heap.size w1 w2) (by kernel_rfl) (by kernel_rfl) (by kernel_rfl) ?hR ?hG ?hops ?hend
            case hR =>
              intro j v w1 w2 hv hb
              match j, hv with
              | 0, hv => exact hv
              | 1, hv => exact hv
              | 2, hv => exact hv
              | 3, hv => exact hv
              | 4, hv => exact hv
              | 5, hv => exact hv
              | 6, hv => exact hv
              | 7, hv => exact hv
              | 8, hv => exact hv
              | 9, hv => exact hv
              | 10, hv => exact hv
              | 11, hv => exact hv
              | 12, hv => exact hv
              | 13, hv => exact hv
              | 14, hv => exact hv
              | 15, hv => exact hv
              | _ + 16, _ => exact trivial
            case hG => exact (Below.refl _ _).drew
            case hops =>
              refine OpsOkS.cons ?o0 (OpsOkS.cons ?o1 (OpsOkS.cons ?o2 (OpsOkS.cons ?o3 (OpsOkS.cons ?o4 (OpsOkS.cons ?o5 (OpsOkS.cons ?o6 (OpsOkS.cons ?o7 (OpsOkS.cons ?o8 (OpsOkS.cons ?o9 (OpsOkS.cons ?o10 (OpsOkS.cons ?o11 (OpsOkS.cons ?o12 (OpsOkS.cons ?o13 (OpsOkS.cons ?o14 (OpsOkS.cons ?o15 OpsOkS.nil)))))))))))))))
              case o0 =>
                intro a w1 Kx hG need old hsz fresh hKx
                have e0 : a.tmps[8]?.getD undef = .pointer (some ⟨p, 0, none⟩) := by rw [← Array.getD_eq_getD_getElem?]; exact old 8 (by kernel_rfl)
                refine op_value (v := .pointer (some ⟨p, 0, none⟩)) (wanted_none rfl) ?_ (hKx _ w1 rfl hG (Below.refl _ _))
                simp [execOp, go_sem, e0]
              case o1 =>
                intro a w1 Kx hG need old hsz fresh hKx
                have e0 : a.tmps[54]?.getD undef = .pointer (some ⟨p, 0, none⟩) := by rw [← Array.getD_eq_getD_getElem?]; exact (need 0 (by kernel_rfl) (by kernel_rfl))
                have k0 := (HKV.out w1 hG).1.cells.1
                refine op_value (v := .int .i64 nk) (wanted_none rfl) ?_ (hKx _ w1 rfl hG (Below.refl _ _))
                simp [execOp, go_sem, e0, k0]
              case o2 =>
                intro a w1 Kx hG need old hsz fresh hKx
                have e0 : a.tmps[55]?.getD undef = .int .i64 nk := by rw [← Array.getD_eq_getD_getElem?]; exact (need 1 (by kernel_rfl) (by kernel_rfl))
                refine op_value (v := .bool true) (wanted_none rfl) ?_ (hKx _ w1 rfl hG (Below.refl _ _))
                simp [execOp, go_sem, e0] <;> exact HKZ.out
              case o3 =>
                intro a w1 Kx hG need old hsz fresh hKx
                have e0 : a.tmps[56]?.getD undef = .bool true := by rw [← Array.getD_eq_getD_getElem?]; exact (need 2 (by kernel_rfl) (by kernel_rfl))
                refine op_value (v := .bool true) (wanted_none rfl) ?_ (hKx _ w1 rfl hG (Below.refl _ _))
                simp [execOp, go_sem, e0]
              case o4 =>
                intro a w1 Kx hG need old hsz fresh hKx
                have e0 : a.tmps[7]?.getD undef = .int .i64 (jx : Nat) := by rw [← Array.getD_eq_getD_getElem?]; exact old 7 (by kernel_rfl)
                refine op_value (v := .int .i64 (jx : Nat)) (wanted_of (j := 3) rfl (need 3 (by kernel_rfl) (by kernel_rfl))) ?_ (hKx _ w1 rfl hG (Below.refl _ _))
                simp [execOp, go_sem, e0]
              case o5 =>
                intro a w1 Kx hG need old hsz fresh hKx
                have e0 : a.tmps[58]?.getD undef = .int .i64 (jx : Nat) := by rw [← Array.getD_eq_getD_getElem?]; exact (need 4 (by kernel_rfl) (by kernel_rfl))
                refine op_value (v := .bool true) (wanted_of (j := 3) rfl (need 3 (by kernel_rfl) (by kernel_rfl))) ?_ (hKx _ w1 rfl hG (Below.refl _ _))
                simp [execOp, go_sem, e0] <;> exact HJP.out
              case o6 =>
                intro a w1 Kx hG need old hsz fresh hKx
                have e0 : a.tmps[57]?.getD undef = .bool true := by rw [← Array.getD_eq_getD_getElem?]; exact (need 3 (by kernel_rfl) (by kernel_rfl))
                have e1 : a.tmps[59]?.getD undef = .bool true := by rw [← Array.getD_eq_getD_getElem?]; exact (need 5 (by kernel_rfl) (by kernel_rfl))
                refine op_value (v := .bool true) (wanted_none rfl) ?_ (hKx _ w1 rfl hG (Below.refl _ _))
                simp [execOp, go_sem, asBool, e0, e1]
              case o7 =>
                intro a w1 Kx hG need old hsz fresh hKx
                have e0 : a.tmps[60]?.getD undef = .bool true := by rw [← Array.getD_eq_getD_getElem?]; exact (need 6 (by kernel_rfl) (by kernel_rfl))
                refine op_value (v := .bool true) (wanted_none rfl) ?_ (hKx _ w1 rfl hG (Below.refl _ _))
                simp [execOp, go_sem, e0]
              case o8 =>
                intro a w1 Kx hG need old hsz fresh hKx
                have e0 : a.tmps[2]?.getD undef = .pointer (some ⟨P, 0, none⟩) := by rw [← Array.getD_eq_getD_getElem?]; exact old 2 (by kernel_rfl)
                have j0 := (HKV.out w1 hG).2.1
                refine op_value (v := .agg #[.slice (some ⟨B, o, none⟩) t.length c]) (wanted_of (j := 7) rfl (need 7 (by kernel_rfl) (by kernel_rfl))) ?_ (hKx _ w1 rfl hG (Below.refl _ _))
                simp [execOp, go_sem, e0, j0]
              case o9 =>
                intro a w1 Kx hG need old hsz fresh hKx
                have e0 : a.tmps[7]?.getD undef = .int .i64 (jx : Nat) := by rw [← Array.getD_eq_getD_getElem?]; exact old 7 (by kernel_rfl)
                refine op_value (v := .int .i64 (jx : Nat)) (wanted_of (j := 7) rfl (need 7 (by kernel_rfl) (by kernel_rfl))) ?_ (hKx _ w1 rfl hG (Below.refl _ _))
                simp [execOp, go_sem, e0]
              case o10 =>
                intro a w1 Kx hG need old hsz fresh hKx
                have e0 : a.tmps[62]?.getD undef = .agg #[.slice (some ⟨B, o, none⟩) t.length c] := by rw [← Array.getD_eq_getD_getElem?]; exact (need 8 (by kernel_rfl) (by kernel_rfl))
                have e1 : a.tmps[63]?.getD undef = .int .i64 (jx : Nat) := by rw [← Array.getD_eq_getD_getElem?]; exact (need 9 (by kernel_rfl) (by kernel_rfl))
                refine op_call (wanted_of (j := 7) rfl (need 7 (by kernel_rfl) (by kernel_rfl))) (f := 21) (args := #[.agg #[.slice (some ⟨B, o, none⟩) t.length c], .int .i64 (jx : Nat)]) ?run ((HN1.out w1 (HKV.out w1 hG).2.2).mono ?post)
                case run => simp [go_sem, e0, e1]
                case post =>
                  rintro e w2 ⟨rfl, hb2⟩
                  exact ⟨_, rfl, hKx _ w2 rfl (hG.trans (hb2.mono hG.size)) hb2⟩
              case o11 =>
                intro a w1 Kx hG need old hsz fresh hKx
                have e0 : a.tmps[2]?.getD undef = .pointer (some ⟨P, 0, none⟩) := by rw [← Array.getD_eq_getD_getElem?]; exact old 2 (by kernel_rfl)
                have j0 := (HKV.out w1 hG).2.1
                refine op_value (v := .agg #[.slice (some ⟨B, o, none⟩) t.length c]) (wanted_of (j := 7) rfl (need 7 (by kernel_rfl) (by kernel_rfl))) ?_ (hKx _ w1 rfl hG (Below.refl _ _))
                simp [execOp, go_sem, e0, j0]
              case o12 =>
                intro a w1 Kx hG need old hsz fresh hKx
                have e0 : a.tmps[7]?.getD undef = .int .i64 (jx : Nat) := by rw [← Array.getD_eq_getD_getElem?]; exact old 7 (by kernel_rfl)
                refine op_value (v := .int .i64 (jx : Nat)) (wanted_of (j := 7) rfl (need 7 (by kernel_rfl) (by kernel_rfl))) ?_ (hKx _ w1 rfl hG (Below.refl _ _))
                simp [execOp, go_sem, e0]
              case o13 =>
                intro a w1 Kx hG need old hsz fresh hKx
                have e0 : a.tmps[65]?.getD undef = .agg #[.slice (some ⟨B, o, none⟩) t.length c] := by rw [← Array.getD_eq_getD_getElem?]; exact (need 11 (by kernel_rfl) (by kernel_rfl))
                have e1 : a.tmps[66]?.getD undef = .int .i64 (jx : Nat) := by rw [← Array.getD_eq_getD_getElem?]; exact (need 12 (by kernel_rfl) (by kernel_rfl))
                refine op_call (wanted_of (j := 7) rfl (need 7 (by kernel_rfl) (by kernel_rfl))) (f := 22) (args := #[.agg #[.slice (some ⟨B, o, none⟩) t.length c], .int .i64 (jx : Nat)]) ?run ((HN2.out w1 (HKV.out w1 hG).2.2).mono ?post)
                case run => simp [go_sem, e0, e1]
                case post =>
                  rintro e w2 ⟨rfl, hb2⟩
                  exact ⟨_, rfl, hKx _ w2 rfl (hG.trans (hb2.mono hG.size)) hb2⟩
              case o14 =>
                intro a w1 Kx hG need old hsz fresh hKx
                have e0 : a.tmps[64]?.getD undef = .int .i64 (NN : Nat) := by rw [← Array.getD_eq_getD_getElem?]; exact (need 10 (by kernel_rfl) (by kernel_rfl))
                have e1 : a.tmps[67]?.getD undef = .int .i64 (NN : Nat) := by rw [← Array.getD_eq_getD_getElem?]; exact (need 13 (by kernel_rfl) (by kernel_rfl))
                refine op_value (v := .bool false) (wanted_of (j := 7) rfl (need 7 (by kernel_rfl) (by kernel_rfl))) ?_ (hKx _ w1 rfl hG (Below.refl _ _))
                simp [execOp, go_sem, e0, e1]
              case o15 =>
                intro a w1 Kx hG need old hsz fresh hKx
                have e0 : a.tmps[61]?.getD undef = .bool true := by rw [← Array.getD_eq_getD_getElem?]; exact (need 7 (by kernel_rfl) (by kernel_rfl))
                have e1 : a.tmps[68]?.getD undef = .bool false := by rw [← Array.getD_eq_getD_getElem?]; exact (need 14 (by kernel_rfl) (by kernel_rfl))
                refine op_value (v := .bool false) (wanted_none rfl) ?_ (hKx _ w1 rfl hG (Below.refl _ _))
                simp [execOp, go_sem, asBool, e0, e1]
            case hend =>
              intro a w6 hG hde hsz hφ hold
              obtain rfl := act_puts [(54, .pointer (some ⟨p, 0, none⟩)), (55, .int .i64 nk), (56, .bool true), (57, .bool true), (58, .int .i64 (jx : Nat)), (59, .bool true), (60, .bool true), (61, .bool true), (62, .agg #[.slice (some ⟨B, o, none⟩) t.length c]), (63, .int .i64 (jx : Nat)), (64, .int .i64 (NN : Nat)), (65, .agg #[.slice (some ⟨B, o, none⟩) t.length c]), (66, .int .i64 (jx : Nat)), (67, .int .i64 (NN : Nat)), (68, .bool false), (69, .bool false)] [54, 55, 56, 57, 58, 59, 60, 61, 62, 63, 64, 65, 66, 67, 68, 69] rfl (by kernel_rfl) (by kernel_rfl) hde hsz (List.forall_mem_cons.2 ⟨(show a.tmps.getD 54 undef = .pointer (some ⟨p, 0, none⟩) from (hφ 0 (by kernel_rfl))), (List.forall_mem_cons.2 ⟨(show a.tmps.getD 55 undef = .int .i64 nk from (hφ 1 (by kernel_rfl))), (List.forall_mem_cons.2 ⟨(show a.tmps.getD 56 undef = .bool true from (hφ 2 (by kernel_rfl))), (List.forall_mem_cons.2 ⟨(show a.tmps.getD 57 undef = .bool true from (hφ 3 (by kernel_rfl))), (List.forall_mem_cons.2 ⟨(show a.tmps.getD 58 undef = .int .i64 (jx : Nat) from (hφ 4 (by kernel_rfl))), (List.forall_mem_cons.2 ⟨(show a.tmps.getD 59 undef = .bool true from (hφ 5 (by kernel_rfl))), (List.forall_mem_cons.2 ⟨(show a.tmps.getD 60 undef = .bool true from (hφ 6 (by kernel_rfl))), (List.forall_mem_cons.2 ⟨(show a.tmps.getD 61 undef = .bool true from (hφ 7 (by kernel_rfl))), (List.forall_mem_cons.2 ⟨(show a.tmps.getD 62 undef = .agg #[.slice (some ⟨B, o, none⟩) t.length c] from (hφ 8 (by kernel_rfl))), (List.forall_mem_cons.2 ⟨(show a.tmps.getD 63 undef = .int .i64 (jx : Nat) from (hφ 9 (by kernel_rfl))), (List.forall_mem_cons.2 ⟨(show a.tmps.getD 64 undef = .int .i64 (NN : Nat) from (hφ 10 (by kernel_rfl))), (List.forall_mem_cons.2 ⟨(show a.tmps.getD 65 undef = .agg #[.slice (some ⟨B, o, none⟩) t.length c] from (hφ 11 (by kernel_rfl))), (List.forall_mem_cons.2 ⟨(show a.tmps.getD 66 undef = .int .i64 (jx : Nat) from (hφ 12 (by kernel_rfl))), (List.forall_mem_cons.2 ⟨(show a.tmps.getD 67 undef = .int .i64 (NN : Nat) from (hφ 13 (by kernel_rfl))), (List.forall_mem_cons.2 ⟨(show a.tmps.getD 68 undef = .bool false from (hφ 14 (by kernel_rfl))), (List.forall_mem_cons.2 ⟨(show a.tmps.getD 69 undef = .bool false from (hφ 15 (by kernel_rfl))), (fun _ h => absurd h (by simp))⟩)⟩)⟩)⟩)⟩)⟩)⟩)⟩)⟩)⟩)⟩)⟩)⟩)⟩)⟩)⟩) hold
              clear hφ hold hsz hde
              simp only [putAll]
              go_frame
              go_wp2_with fail
              go_roundw
              case rel => exact ⟨jx + 1, by omega, by go_num, by rw [HNT.out]; first | rfl | simp, by rw [HST.out]; simp [HK1.out, HK2.out], Lib.hid (HBW.out.trans (hG.mono HBW.out.size))⟩
              case measure => simp [RowKit.intOf]; omega
      · have d2 : decide ((jx : Int) < (t.length : Int)) = false := decide_eq_false (by omega)
        have hnn : Hid (sumN (linkT t) jx = (namesT (t.take jx) : Nat)) := Lib.hid (by
          rw [show jx = t.length by omega, List.take_length]
          exact links_names HM.out)
        generalize namesT (t.take jx) = S5 at hnl hnn ⊢
        rw [hnn.out]
        clear hnn hsl
        obtain ⟨I, hI, hI2⟩ := u64_tmod k0 t.length (by omega) (by omega)
        have hIl : I < t.length := hI2
        have hIw : IntKind.i64.wrap (I : Int) = (I : Int) := i64w_idE _ (by omega)
        have hUw : IntKind.u64.wrap (t.length : Int) = (t.length : Int) := by
          have e : IntKind.u64.wrap (t.length : Int) = (t.length : Int) % 18446744073709551616 := by unfold IntKind.wrap; rfl
          rw [e]; omega
        have hn0 : ¬ t.length = 0 := by omega
        have q4 := HPX.out wr HB.out
        go_upto_region 19 with (first
          | (go_at_call 11; (with_reducible refine (HCP.out _ (HTL.out _ HB.out) HLT.out).mono ?_); rintro e w5 ⟨q, cap, ru, rfl, hown, hb5⟩; have HOW := Lib.hid hown; have HB5 := Lib.hid hb5; clear hown hb5)
          | fail)
        obtain ⟨X, hX⟩ : ∃ X, X = w5.alloc (.cells #[.slice q t.length cap] 24) := ⟨_, rfl⟩
        obtain ⟨pu, hpu⟩ : ∃ p, p = w5.heap.size := ⟨_, rfl⟩
        rw [← hX, ← hpu]
        have HXU : Hid (X.heap[pu]? = some (.cells #[.slice q t.length cap] 24 (0, 0))) := Lib.hid (by rw [hX, hpu]; exact heap_alloc_new _ _)
        have HWX : Hid (Below w5.heap.size w5 X) := Lib.hid (by rw [hX]; exact (Below.refl _ _).alloc (Nat.le_refl _) _)
        have HOX : Hid (TOwn X wr.heap.size (.slice q t.length cap) t ru) := Lib.hid (HOW.out.below HWX.out)
        have HBX : Hid (Below wr.heap.size wr X) := Lib.hid (HB5.out.trans (HWX.out.mono HB5.out.size))
        have HBWX : Hid (Below W.heap.size W X) := Lib.hid (HB.out.trans (HBX.out.mono HB.out.size))
        clear hX hpu HOW HB5 HWX
        obtain ⟨g, rfl⟩ : ∃ g, q = some ⟨g, 0, none⟩ := row_where HOX.out.row (by omega)
        obtain ⟨u0, -⟩ := tbox_cell HXU.out
        have q5 := HPX.out X HBWX.out
        have HLX := Lib.hid (HOX.out.lies HLT.out.1 HLT.out.2)
        obtain ⟨B9, o9, e9, -, ⟨-, -, -, -, c4⟩, -⟩ := HLX.out.node hIl
        simp at e9
        obtain ⟨rfl, rfl⟩ := e9
        simp only [Nat.zero_add] at c4
        have HIL := Lib.hid hIl
        have HNN : Hid ((at_ t I).en.length ≤ 10) := Lib.hid (HE10.out I hIl)
        have HCN : Hid (0 < (at_ t I).en.length → mayT (cutT t I) = false) := Lib.hid (cut_not HM.out hIl)
        obtain ⟨⟨RA, RB, rc, rd⟩, hru⟩ : ∃ a, a = ru I := ⟨_, rfl⟩
        rw [← hru] at c4
        have HRU := Lib.hid hru
        obtain ⟨m, hm⟩ : ∃ m, (at_ t I).en.length = m := ⟨_, rfl⟩
        rw [hm] at c4
        have HMM := Lib.hid hm
        clear hru hm
        by_cases hm0 : m = 0
        · subst hm0
          go_wp2_with (first
            | (go_at_call 10; (with_reducible refine (HAW.out _).mono ?_); rintro e w8 ⟨rfl, hb8⟩; replace hb8 := Lib.hid (HBWX.out.trans (hb8.mono HBWX.out.size)))
            | fail)
          go_ret
          exact ⟨rfl, HBA.out.trans (hb8.out.mono HBA.out.size)⟩
        obtain ⟨m1, rfl⟩ : ∃ m1, m = m1 + 1 := ⟨m - 1, by omega⟩
        obtain ⟨gb, hgb⟩ : ∃ gb, RB = some ⟨gb, 0, none⟩ := by
          have h1 := HOX.out.en I hIl
          rw [← HRU.out, ← at_lt hIl] at h1
          have h2 : X.ownsRow wr.heap.size 34 2 (.slice RB (at_ t I).en.length rd) (at_ t I).en.length (ecells (at_ t I).en) := h1
          exact row_where h2 (by have := HMM.out; omega)
        subst hgb
        have HRD : Hid (m1 + 1 ≤ rd) := Lib.hid (by
          have h1 := HOX.out.en I hIl
          rw [← HRU.out, ← at_lt hIl] at h1
          have := h1.lies.2.2.2
          rw [HMM.out] at this
          exact this)
        have bpos : decide ((0 : Int) < ((m1 + 1 : Nat) : Int)) = true := decide_eq_true (by omega)
        have HRX : Hid (∀ w1, Below X.heap.size X w1 → TOwn w1 wr.heap.size (.slice (some ⟨g, 0, none⟩) t.length cap) t ru ∧ w1.heap[pu]? = some (.cells #[.slice (some ⟨g, 0, none⟩) t.length cap] 24 (0, 0)) ∧ w1.cell? ⟨g, I * 5 + 4, none⟩ = some (.slice (some ⟨gb, 0, none⟩) (m1 + 1) rd)) := Lib.hid fun w1 hb => by
          have ho := HOX.out.below hb
          obtain ⟨B9, o9, e9, -, ⟨-, -, -, -, d4⟩, -⟩ := (ho.lies HLT.out.1 HLT.out.2).node HIL.out
          simp at e9
          obtain ⟨rfl, rfl⟩ := e9
          simp only [Nat.zero_add] at d4
          rw [← HRU.out, HMM.out] at d4
          exact ⟨ho, (hb.block pu (lt_size HXU.out)).trans HXU.out, d4⟩
        have HCX : Hid (∀ w1, Below X.heap.size X w1 → w1.cell? ⟨pu, 0, none⟩ = some (.slice (some ⟨g, 0, none⟩) t.length cap) ∧ w1.cell? ⟨g, I * 5 + 4, none⟩ = some (.slice (some ⟨gb, 0, none⟩) (m1 + 1) rd)) := Lib.hid fun w1 hb => ⟨(tbox_cell (HRX.out w1 hb).2.1).1, (HRX.out w1 hb).2.2⟩
        have HWM : Hid (IntKind.i64.wrap (m1 : Int) = (m1 : Int)) := Lib.hid (i64w_idE _ (by have := HNN.out; have := HMM.out; omega))
        go_upto_region 23 with (fail)
        refine region_tail 14 (fun j v w' => match j with | 0 => v = .pointer (some ⟨pu, 0, none⟩) | 1 => v = .slice (some ⟨g, 0, none⟩) t.length cap | 2 => v = .int .i64 (I : Nat) | 3 => v = .pointer (some ⟨pu, 0, none⟩) | 4 => v = .slice (some ⟨g, 0, none⟩) t.length cap | 5 => v = .int .i64 (I : Nat) | 6 => v = .pointer (some ⟨g, I * 5, none⟩) | 7 => v = .pointer (some ⟨g, I * 5 + 4, none⟩) | 8 => v = .slice (some ⟨gb, 0, none⟩) (m1 + 1) rd | 9 => v = .int .i64 ((m1 : Int) + 1) | 10 => v = .int .i64 (m1 : Int) | 11 => v = .slice (some ⟨gb, 0, none⟩) m1 rd | 12 => v = .pointer (some ⟨g, I * 5, none⟩) | 13 => v = .pointer (some ⟨g, I * 5 + 4, none⟩) | _ => True) (fun vs w' => Below X.heap.size X w' ∧ Apart2 [] vs w') (fun w1 w2 => Below w1.heap.size w1 w2) (by kernel_rfl) (by kernel_rfl) (by kernel_rfl) (by kernel_rfl) (by kernel_rfl) (by kernel_rfl) ?hR ?hG ?hops ?hend
        case hR =>
          intro j v w1 w2 hv hb
          match j, hv with
          | 0, hv => exact hv
          | 1, hv => exact hv
          | 2, hv => exact hv
          | 3, hv => exact hv
          | 4, hv => exact hv
          | 5, hv => exact hv
          | 6, hv => exact hv
          | 7, hv => exact hv
          | 8, hv => exact hv
          | 9, hv => exact hv
          | 10, hv => exact hv
          | 11, hv => exact hv
          | 12, hv => exact hv
          | 13, hv => exact hv
          | _ + 14, _ => exact trivial
        case hG => exact ⟨(Below.refl _ _).drew, Apart2.start (fun i hi => by cases hi)⟩
        case hops =>
          refine OpsOkS.cons ?o0 (OpsOkS.cons ?o1 (OpsOkS.cons ?o2 (OpsOkS.cons ?o3 (OpsOkS.cons ?o4 (OpsOkS.cons ?o5 (OpsOkS.cons ?o6 (OpsOkS.cons ?o7 (OpsOkS.cons ?o8 (OpsOkS.cons ?o9 (OpsOkS.cons ?o10 (OpsOkS.cons ?o11 (OpsOkS.cons ?o12 (OpsOkS.cons ?o13 OpsOkS.nil)))))))))))))
          case o0 =>
            intro a w1 Kx hG need old hsz fresh hKx
            have e0 : a.tmps[9]?.getD undef = .pointer (some ⟨pu, 0, none⟩) := by rw [← Array.getD_eq_getD_getElem?]; exact old 9 (by kernel_rfl)
            refine op_value (v := .pointer (some ⟨pu, 0, none⟩)) (wanted_none rfl) ?_ (hKx _ w1 rfl ⟨hG.1, hG.2.keep (by decide) (Nat.le_refl _)⟩ (Below.refl _ _))
            simp [execOp, go_sem, e0]
          case o1 =>
            intro a w1 Kx hG need old hsz fresh hKx
            have e0 : a.tmps[100]?.getD undef = .pointer (some ⟨pu, 0, none⟩) := by rw [← Array.getD_eq_getD_getElem?]; exact (need 0 (by kernel_rfl) (by kernel_rfl))
            have k0 := (HCX.out w1 hG.1).1
            refine op_value (v := .slice (some ⟨g, 0, none⟩) t.length cap) (wanted_none rfl) ?_ (hKx _ w1 rfl ⟨hG.1, hG.2.keep (by decide) (Nat.le_refl _)⟩ (Below.refl _ _))
            simp [execOp, go_sem, e0, k0]
          case o2 =>
            intro a w1 Kx hG need old hsz fresh hKx
            have e0 : a.tmps[1]?.getD undef = .int .i64 (I : Nat) := by rw [← Array.getD_eq_getD_getElem?]; exact old 1 (by kernel_rfl)
            refine op_value (v := .int .i64 (I : Nat)) (wanted_none rfl) ?_ (hKx _ w1 rfl ⟨hG.1, hG.2.keep (by decide) (Nat.le_refl _)⟩ (Below.refl _ _))
            simp [execOp, go_sem, e0]
          case o3 =>
            intro a w1 Kx hG need old hsz fresh hKx
            have e0 : a.tmps[9]?.getD undef = .pointer (some ⟨pu, 0, none⟩) := by rw [← Array.getD_eq_getD_getElem?]; exact old 9 (by kernel_rfl)
            refine op_value (v := .pointer (some ⟨pu, 0, none⟩)) (wanted_none rfl) ?_ (hKx _ w1 rfl ⟨hG.1, hG.2.keep (by decide) (Nat.le_refl _)⟩ (Below.refl _ _))
            simp [execOp, go_sem, e0]
          case o4 =>
            intro a w1 Kx hG need old hsz fresh hKx
            have e0 : a.tmps[103]?.getD undef = .pointer (some ⟨pu, 0, none⟩) := by rw [← Array.getD_eq_getD_getElem?]; exact (need 3 (by kernel_rfl) (by kernel_rfl))
            have k0 := (HCX.out w1 hG.1).1
            refine op_value (v := .slice (some ⟨g, 0, none⟩) t.length cap) (wanted_none rfl) ?_ (hKx _ w1 rfl ⟨hG.1, hG.2.keep (by decide) (Nat.le_refl _)⟩ (Below.refl _ _))
            simp [execOp, go_sem, e0, k0]
          case o5 =>
            intro a w1 Kx hG need old hsz fresh hKx
            have e0 : a.tmps[1]?.getD undef = .int .i64 (I : Nat) := by rw [← Array.getD_eq_getD_getElem?]; exact old 1 (by kernel_rfl)
            refine op_value (v := .int .i64 (I : Nat)) (wanted_none rfl) ?_ (hKx _ w1 rfl ⟨hG.1, hG.2.keep (by decide) (Nat.le_refl _)⟩ (Below.refl _ _))
            simp [execOp, go_sem, e0]
          case o6 =>
            intro a w1 Kx hG need old hsz fresh hKx
            have e0 : a.tmps[104]?.getD undef = .slice (some ⟨g, 0, none⟩) t.length cap := by rw [← Array.getD_eq_getD_getElem?]; exact (need 4 (by kernel_rfl) (by kernel_rfl))
            have e1 : a.tmps[105]?.getD undef = .int .i64 (I : Nat) := by rw [← Array.getD_eq_getD_getElem?]; exact (need 5 (by kernel_rfl) (by kernel_rfl))
            refine op_value (v := .pointer (some ⟨g, I * 5, none⟩)) (wanted_none rfl) ?_ (hKx _ w1 rfl ⟨hG.1, hG.2.keep (by decide) (Nat.le_refl _)⟩ (Below.refl _ _))
            simp [execOp, go_sem, e0, e1, HIL.out]
          case o7 =>
            intro a w1 Kx hG need old hsz fresh hKx
            have e0 : a.tmps[106]?.getD undef = .pointer (some ⟨g, I * 5, none⟩) := by rw [← Array.getD_eq_getD_getElem?]; exact (need 6 (by kernel_rfl) (by kernel_rfl))
            refine op_value (v := .pointer (some ⟨g, I * 5 + 4, none⟩)) (wanted_none rfl) ?_ (hKx _ w1 rfl ⟨hG.1, hG.2.keep (by decide) (Nat.le_refl _)⟩ (Below.refl _ _))
            simp [execOp, go_sem, e0]
          case o8 =>
            intro a w1 Kx hG need old hsz fresh hKx
            have e0 : a.tmps[107]?.getD undef = .pointer (some ⟨g, I * 5 + 4, none⟩) := by rw [← Array.getD_eq_getD_getElem?]; exact (need 7 (by kernel_rfl) (by kernel_rfl))
            have k0 := (HCX.out w1 hG.1).2
            refine op_value (v := .slice (some ⟨gb, 0, none⟩) (m1 + 1) rd) (wanted_none rfl) ?_ (hKx _ w1 rfl ⟨hG.1, hG.2.keep (by decide) (Nat.le_refl _)⟩ (Below.refl _ _))
            simp [execOp, go_sem, e0, k0]
          case o9 =>
            intro a w1 Kx hG need old hsz fresh hKx
            have e0 : a.tmps[10]?.getD undef = .int .i64 ((m1 : Int) + 1) := by rw [← Array.getD_eq_getD_getElem?]; exact old 10 (by kernel_rfl)
            refine op_value (v := .int .i64 ((m1 : Int) + 1)) (wanted_none rfl) ?_ (hKx _ w1 rfl ⟨hG.1, hG.2.keep (by decide) (Nat.le_refl _)⟩ (Below.refl _ _))
            simp [execOp, go_sem, e0]
          case o10 =>
            intro a w1 Kx hG need old hsz fresh hKx
            have e0 : a.tmps[109]?.getD undef = .int .i64 ((m1 : Int) + 1) := by rw [← Array.getD_eq_getD_getElem?]; exact (need 9 (by kernel_rfl) (by kernel_rfl))
            refine op_value (v := .int .i64 (m1 : Int)) (wanted_none rfl) ?_ (hKx _ w1 rfl ⟨hG.1, hG.2.keep (by decide) (Nat.le_refl _)⟩ (Below.refl _ _))
            simp [execOp, go_sem, e0, HWM.out]
          case o11 =>
            intro a w1 Kx hG need old hsz fresh hKx
            have e0 : a.tmps[108]?.getD undef = .slice (some ⟨gb, 0, none⟩) (m1 + 1) rd := by rw [← Array.getD_eq_getD_getElem?]; exact (need 8 (by kernel_rfl) (by kernel_rfl))
            have e1 : a.tmps[110]?.getD undef = .int .i64 (m1 : Int) := by rw [← Array.getD_eq_getD_getElem?]; exact (need 10 (by kernel_rfl) (by kernel_rfl))
            refine op_value (v := .slice (some ⟨gb, 0, none⟩) m1 rd) (wanted_none rfl) ?_ (hKx _ w1 rfl ⟨hG.1, hG.2.keep (by decide) (Nat.le_refl _)⟩ (Below.refl _ _))
            simp [execOp, go_sem, e0, e1]; have := HRD.out; omega
          case o12 =>
            intro a w1 Kx hG need old hsz fresh hKx
            have e0 : a.tmps[101]?.getD undef = .slice (some ⟨g, 0, none⟩) t.length cap := by rw [← Array.getD_eq_getD_getElem?]; exact (need 1 (by kernel_rfl) (by kernel_rfl))
            have e1 : a.tmps[102]?.getD undef = .int .i64 (I : Nat) := by rw [← Array.getD_eq_getD_getElem?]; exact (need 2 (by kernel_rfl) (by kernel_rfl))
            refine op_value (v := .pointer (some ⟨g, I * 5, none⟩)) (wanted_none rfl) ?_ (hKx _ w1 rfl ⟨hG.1, hG.2.keep (by decide) (Nat.le_refl _)⟩ (Below.refl _ _))
            simp [execOp, go_sem, e0, e1, HIL.out]
          case o13 =>
            intro a w1 Kx hG need old hsz fresh hKx
            have e0 : a.tmps[112]?.getD undef = .pointer (some ⟨g, I * 5, none⟩) := by rw [← Array.getD_eq_getD_getElem?]; exact (need 12 (by kernel_rfl) (by kernel_rfl))
            refine op_value (v := .pointer (some ⟨g, I * 5 + 4, none⟩)) (wanted_none rfl) ?_ (hKx _ w1 rfl ⟨hG.1, hG.2.keep (by decide) (Nat.le_refl _)⟩ (Below.refl _ _))
            simp [execOp, go_sem, e0]
        case hend =>
          intro a w6 hG hde hsz hφ hold
          obtain rfl := act_puts [(100, .pointer (some ⟨pu, 0, none⟩)), (101, .slice (some ⟨g, 0, none⟩) t.length cap), (102, .int .i64 (I : Nat)), (103, .pointer (some ⟨pu, 0, none⟩)), (104, .slice (some ⟨g, 0, none⟩) t.length cap), (105, .int .i64 (I : Nat)), (106, .pointer (some ⟨g, I * 5, none⟩)), (107, .pointer (some ⟨g, I * 5 + 4, none⟩)), (108, .slice (some ⟨gb, 0, none⟩) (m1 + 1) rd), (109, .int .i64 ((m1 : Int) + 1)), (110, .int .i64 (m1 : Int)), (111, .slice (some ⟨gb, 0, none⟩) m1 rd), (112, .pointer (some ⟨g, I * 5, none⟩)), (113, .pointer (some ⟨g, I * 5 + 4, none⟩))] [100, 101, 102, 103, 104, 105, 106, 107, 108, 109, 110, 111, 112, 113] rfl (by kernel_rfl) (by kernel_rfl) hde hsz (List.forall_mem_cons.2 ⟨(show a.tmps.getD 100 undef = .pointer (some ⟨pu, 0, none⟩) from (hφ 0 (by decide))), (List.forall_mem_cons.2 ⟨(show a.tmps.getD 101 undef = .slice (some ⟨g, 0, none⟩) t.length cap from (hφ 1 (by decide))), (List.forall_mem_cons.2 ⟨(show a.tmps.getD 102 undef = .int .i64 (I : Nat) from (hφ 2 (by decide))), (List.forall_mem_cons.2 ⟨(show a.tmps.getD 103 undef = .pointer (some ⟨pu, 0, none⟩) from (hφ 3 (by decide))), (List.forall_mem_cons.2 ⟨(show a.tmps.getD 104 undef = .slice (some ⟨g, 0, none⟩) t.length cap from (hφ 4 (by decide))), (List.forall_mem_cons.2 ⟨(show a.tmps.getD 105 undef = .int .i64 (I : Nat) from (hφ 5 (by decide))), (List.forall_mem_cons.2 ⟨(show a.tmps.getD 106 undef = .pointer (some ⟨g, I * 5, none⟩) from (hφ 6 (by decide))), (List.forall_mem_cons.2 ⟨(show a.tmps.getD 107 undef = .pointer (some ⟨g, I * 5 + 4, none⟩) from (hφ 7 (by decide))), (List.forall_mem_cons.2 ⟨(show a.tmps.getD 108 undef = .slice (some ⟨gb, 0, none⟩) (m1 + 1) rd from (hφ 8 (by decide))), (List.forall_mem_cons.2 ⟨(show a.tmps.getD 109 undef = .int .i64 ((m1 : Int) + 1) from (hφ 9 (by decide))), (List.forall_mem_cons.2 ⟨(show a.tmps.getD 110 undef = .int .i64 (m1 : Int) from (hφ 10 (by decide))), (List.forall_mem_cons.2 ⟨(show a.tmps.getD 111 undef = .slice (some ⟨gb, 0, none⟩) m1 rd from (hφ 11 (by decide))), (List.forall_mem_cons.2 ⟨(show a.tmps.getD 112 undef = .pointer (some ⟨g, I * 5, none⟩) from (hφ 12 (by decide))), (List.forall_mem_cons.2 ⟨(show a.tmps.getD 113 undef = .pointer (some ⟨g, I * 5 + 4, none⟩) from (hφ 13 (by decide))), (fun _ h => absurd h (by simp))⟩)⟩)⟩)⟩)⟩)⟩)⟩)⟩)⟩)⟩)⟩)⟩)⟩)⟩) hold
          clear hφ hold hsz hde
          simp only [putAll]
          simp only [List.drop_succ_cons, List.drop_zero]
          obtain ⟨hG, -⟩ := hG
          go_frame
          obtain ⟨h6, h7, h8⟩ := HRX.out w6 hG
          have HG6 := Lib.hid hG
          have hfz : w6.frozen? ⟨g, I * 5 + 4, none⟩ = false := World.ownsRow.frozenAt h6.row (I * 5 + 4)
          refine wpList_store_row 113 111 g (I * 5 + 4) rfl rfl rfl rfl rfl h8 hfz ?_
          have HLI := Lib.hid (cut_lies h6 HIL.out HLT.out (gb := gb) (by rw [← HRU.out]))
          rw [HMM.out, Nat.add_sub_cancel, ← HRU.out] at HLI
          have hne : pu ≠ g := fun e => by
            rcases h6.row.2 with ⟨e1, _⟩ | ⟨g1, cap1, cur, e1, _, hg1, _⟩
            · simp at e1
            simp at e1
            obtain ⟨rfl, rfl⟩ := e1
            rw [← e, h7] at hg1
            simp at hg1
          have hpu : (w6.setCell ⟨g, I * 5 + 4, none⟩ (.slice (some ⟨gb, 0, none⟩) m1 rd)).heap[pu]? = some (.cells #[.slice (some ⟨g, 0, none⟩) t.length cap] 24 (0, 0)) := (Below.heap_setCell _ _ _ _ hne).trans h7
          have HBV : Hid (Below W.heap.size W (w6.setCell ⟨g, I * 5 + 4, none⟩ (.slice (some ⟨gb, 0, none⟩) m1 rd))) := Lib.hid ((HBWX.out.trans (hG.mono HBWX.out.size)).setCell (by
            have h9 := h6.row.lt g rfl
            have := HB.out.size
            show W.heap.size ≤ g
            omega) _)
          generalize w6.setCell ⟨g, I * 5 + 4, none⟩ (.slice (some ⟨gb, 0, none⟩) m1 rd) = V at HLI hpu HBV ⊢
          obtain ⟨u0, -⟩ := tbox_cell hpu
          have HCF : Hid (mayT (cutT t I) = false) := Lib.hid (HCN.out (by rw [HMM.out]; omega))
          have HLC2 : Hid (LightT (cutT t I)) := Lib.hid (cut_light HIL.out HLT.out)
          have HMV : Hid (Calls Tryd.prog 14 #[.agg #[.slice (some ⟨g, 0, none⟩) t.length cap]] V fun x w' => x = .returned (.bool false) ∧ Below V.heap.size V w') := Lib.hid (by
            have h1 := HMX.out _ _ _ _ V HLI.out HLC2.out
            rw [HCF.out, show (cutT t I).length = t.length by unfold cutT; simp] at h1
            exact h1)
          clear hG h6 h7 h8 hfz hpu hne
          go_wp2_with (first
            | (go_at_call 14; (with_reducible refine HMV.out.mono ?_); rintro e w7 ⟨rfl, hb7⟩; replace hb7 := Lib.hid (HBV.out.trans (hb7.mono HBV.out.size)))
            | (go_at_call 10; (with_reducible refine (HAW.out _).mono ?_); rintro e w8 ⟨rfl, hb8⟩; replace hb8 := Lib.hid (hb7.out.trans (hb8.mono hb7.out.size)))
            | fail)
          go_ret
          exact ⟨rfl, HBA.out.trans (hb8.out.mono HBA.out.size)⟩
end Go.Proofs.YtfboilbmehcgoaaDoor
