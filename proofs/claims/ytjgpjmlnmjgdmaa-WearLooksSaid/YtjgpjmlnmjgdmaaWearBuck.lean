/- The reference's counts: Buckets; two rows of ints held against each other (Ints). -/
import Derived.Lib.AppendZeros
import Derived.Maps.AppendAt
import Derived.Laws.Rows
import Derived.Deep.OwnRows
import Derived.Test.YtjgpjmlnmjgdmaaWearRef
namespace Go.Proofs.Ytjgpjmlnmjgdmaa
open Go.RowKit

/-- How many have each count, from lo on. -/
def cntL (zs : List (Int × Bool)) (lo : Int) (n : Nat) : List Int := (List.range n).map fun (k : Nat) => ((countP' zs (lo + (k : Int)) : Nat) : Int)
theorem cntL_length (zs : List (Int × Bool)) (lo : Int) (n : Nat) : (cntL zs lo n).length = n := by simp [cntL]
theorem cntL_get (zs : List (Int × Bool)) (lo : Int) (n k : Nat) (h : k < (cntL zs lo n).length) : (cntL zs lo n)[k] = ((countP' zs (lo + (k : Int)) : Nat) : Int) := by simp [cntL]
theorem countP'_snoc (zs : List (Int × Bool)) (x : Int) (y : Bool) (m : Int) : countP' (zs ++ [(x, y)]) m = countP' zs m + if y = true ∧ x = m then 1 else 0 := by
  unfold countP'
  rw [List.countP_append]
  congr 1
  cases y <;> by_cases h : x = m <;> simp [h]
theorem cntL_off (zs : List (Int × Bool)) (lo x : Int) (n : Nat) : cntL (zs ++ [(x, false)]) lo n = cntL zs lo n := by
  unfold cntL
  simp only [countP'_snoc]
  simp
theorem cntL_on (zs : List (Int × Bool)) (lo : Int) (n k : Nat) : cntL (zs ++ [(lo + (k : Int), true)]) lo n = (cntL zs lo n).set k (((countP' zs (lo + (k : Int)) : Nat) : Int) + 1) := by
  apply List.ext_getElem
  · simp [cntL]
  · intro i h1 h2
    rw [cntL_get, List.getElem_set, countP'_snoc]
    by_cases hi : k = i
    · subst hi; simp
    · rw [if_neg hi, cntL_get, if_neg (by omega)]; simp
theorem count_le (zs : List (Int × Bool)) (m : Int) : countP' zs m ≤ zs.length := List.countP_le_length
theorem cntL_zero (lo : Int) (n : Nat) : cntL [] lo n = List.replicate n 0 := by
  apply List.ext_getElem
  · simp [cntL]
  · intro i h1 h2
    rw [cntL_get]; simp [countP']
theorem info_int : (Try.prog.info? 3).map (fun i => (i.zero, i.size, i.bytes)) = some (some (.int .i64 0), 1, 8) := by kernel_rfl
theorem made_ints (n : Nat) : madeCells #[Value.int .i64 0] n = ((List.replicate n (0 : Int)).map (Value.int .i64)).toArray := by
  apply Array.ext
  · simp [madeCells]
  · intro i h1 h2
    simp [madeCells, Nat.mod_one]
theorem make_ints (n : Nat) (h : n ≤ 1000000) (w : World) : (Instr.makeSlice 22 (.int .i64 n) (.int .i64 n)).run Try.prog w = .ok (.slice (some ⟨w.heap.size, 0, none⟩) n n) (w.alloc (.cells (madeCells #[Value.int .i64 0] n) 3)) :=
  run_make_row' 22 3 (.int .i64 0) 8 Try.underlying22 info_int rfl .i64 .i64 n (by omega) (by omega) w
theorem in_range {zs : List (Int × Bool)} {x : Int} (hx : (x, true) ∈ zs) (h : apartP zs ≤ 1000) : ∃ k : Nat, x = loP zs + (k : Int) ∧ (k : Int) ≤ apartP zs := by
  have e := (ends_some hx).2.2 x hx
  have ha : apartP zs = hiP zs - loP zs := by
    unfold apartP at h ⊢
    split
    · rfl
    · next h1 => rw [if_neg h1] at h; omega
  exact ⟨(x - loP zs).toNat, by omega, by omega⟩
/-- What Buckets tells: a row of its own, or none. -/
def BuckPost (zs : List (Int × Bool)) (w : World) (e : Ending) (w' : World) : Prop :=
  ∃ A, e = .returned (.slice A (bucketsP zs).length (bucketsP zs).length) ∧ IA w' A (bucketsP zs) ∧ (∀ ad, A = some ad → w.heap.size ≤ ad.block) ∧ Below w.heap.size w w'
theorem row_cell {w : World} {g : Nat} {l : List Int} {t : TypeId} (h : w.heap[g]? = some (.cells (l.map (Value.int .i64)).toArray t (0, 0))) (k : Nat) (hk : k < l.length) : w.cell? ⟨g, k, none⟩ = some (.int .i64 l[k]) := by
  simp [World.cell?, h, hk]
theorem row_set {w : World} {g : Nat} {l : List Int} {t : TypeId} (h : w.heap[g]? = some (.cells (l.map (Value.int .i64)).toArray t (0, 0))) (k : Nat) (v : Int) : (w.setCell ⟨g, k, none⟩ (.int .i64 v)).heap[g]? = some (.cells ((l.set k v).map (Value.int .i64)).toArray t (0, 0)) := by
  rw [heap_setCell_same w g k _ t _ h]
  simp [List.map_set]
theorem row_frozen {w : World} {p : Nat} {cs : Array Value} {t : TypeId} (h : w.heap[p]? = some (.cells cs t (0, 0))) (j : Nat) : w.frozen? ⟨p, j, none⟩ = false := by
  simp [World.frozen?, h]
theorem row_arr {w : World} {g : Nat} {l : List Int} {t : TypeId} (h : w.heap[g]? = some (.cells (l.map (Value.int .i64)).toArray t (0, 0))) : IA w (some ⟨g, 0, none⟩) l := fun _ =>
  ⟨g, 0, rfl, (Array.getElem?_eq_some_iff.1 h).1, fun j hj => by rw [Nat.zero_add]; exact row_cell h j hj⟩
set_option maxRecDepth 100000 in
set_option maxHeartbeats 4000000 in
theorem buckr_any (A A' : Option Addr) (c c' : Nat) (l : List Int) (b : List Bool) (w : World) (hl : l.length ≤ 1000000) (hb : b.length ≤ 1000000) (hA : IA w A l) (hA' : BA w A' b) (hw : ∀ x ∈ l, (Lit.int .i64 x).wf = true) :
    Calls Try.prog 21 #[.slice A l.length c, .slice A' b.length c'] w (BuckPost (l.zip b) w) := by
  have HA := Lib.hid hA
  have HA' := Lib.hid hA'
  have HW := Lib.hid hw
  have HC := Lib.hid (coldr_any A A' c c' l b w hl hb hA hA')
  clear hA hA' hw
  by_cases hc : coldP (l.zip b) < 0
  · have HZ := Lib.hid (show bucketsP (l.zip b) = [] from if_pos (.inl hc))
    go_enter Try.func21, Try.ntmps21
    go_wp2_with (go_at_call 14; refine HC.out.mono ?_; rintro e w1 ⟨rfl, hb1⟩)
    go_ret
    refine ⟨none, ?_, ?_, fun ad e => (by cases e), hb1⟩ <;> rw [HZ.out]
    · rfl
    · exact fun h => absurd h (by simp)
  by_cases ha : 1000 < apartP (l.zip b)
  · have HZ := Lib.hid (show bucketsP (l.zip b) = [] from if_pos (.inr ha))
    go_enter Try.func21, Try.ntmps21
    go_wp2_with (first
      | (go_at_call 14; refine HC.out.mono ?_; rintro e w1 ⟨rfl, hb1⟩; have HB1 := Lib.hid hb1; clear hb1)
      | (go_at_call 12; refine (apartr_any A A' c c' l b w1 hl hb (HA.out.below HB1.out) (HA'.out.below HB1.out) HW.out).mono ?_; rintro e w2 ⟨rfl, hb2⟩))
    go_ret
    refine ⟨none, ?_, ?_, fun ad e => (by cases e), HB1.out.trans (hb2.mono HB1.out.size)⟩ <;> rw [HZ.out]
    · rfl
    · exact fun h => absurd h (by simp)
  obtain ⟨n, hn⟩ : ∃ n : Nat, n = (apartP (l.zip b) + 1).toNat := ⟨_, rfl⟩
  have HZ : Hid (bucketsP (l.zip b) = cntL (l.zip b) (loP (l.zip b)) n) := by
    rw [hn]; exact if_neg (fun h => h.elim hc ha)
  have h0 := apart_nonneg (l.zip b)
  have hn1 : 1 ≤ n := by omega
  have hn2 : n ≤ 1001 := by omega
  have hap : apartP (l.zip b) = (n : Int) - 1 := by omega
  have HIN := Lib.hid (fun x (hx : (x, true) ∈ l.zip b) => (in_range hx (by omega : apartP (l.zip b) ≤ 1000)))
  rw [hap] at HIN
  have HAP := Lib.hid hap
  have hrg := ends_range l b HW.out
  have hc' : ¬ (coldP (l.zip b) < 0) := hc
  have ha' : ¬ (1000 < (n : Int) - 1) := by omega
  have hmk := fun w => make_ints n (by omega) w
  clear hn h0 hap hc ha
  go_enter Try.func21, Try.ntmps21
  go_wp2_with (go_at_call 14; refine HC.out.mono ?_; rintro e w1 ⟨rfl, hb1⟩; have HB1 := Lib.hid hb1; clear hb1)
  refine (apartr_any A A' c c' l b w1 hl hb (HA.out.below HB1.out) (HA'.out.below HB1.out) HW.out).mono ?_
  rintro e w2 ⟨rfl, hb2⟩
  have HB2 := Lib.hid (HB1.out.trans (hb2.mono HB1.out.size))
  rw [HAP.out]
  clear hb2
  go_wp2_with fail
  refine (endsr_any A A' c c' l b w2 hl hb (HA.out.below HB2.out) (HA'.out.below HB2.out)).mono ?_
  rintro e w3 ⟨rfl, hb3⟩
  have HB3 := Lib.hid (HB2.out.trans (hb3.mono HB2.out.size))
  clear hb3
  go_wp2_with fail
  refine (apartr_any A A' c c' l b w3 hl hb (HA.out.below HB3.out) (HA'.out.below HB3.out) HW.out).mono ?_
  rintro e w4 ⟨rfl, hb4⟩
  have HB4 := Lib.hid (HB3.out.trans (hb4.mono HB3.out.size))
  rw [HAP.out]
  clear hb4
  have HX0 := Lib.hid (heap_alloc_new w4 (.cells (madeCells #[Value.int .i64 0] n) 3))
  have HB5 := Lib.hid (HB4.out.alloc HB4.out.size (.cells (madeCells #[Value.int .i64 0] n) 3))
  have HS5 := Lib.hid HB4.out.size
  have HE2 := Lib.hid (made_ints n)
  rcases Nat.lt_or_ge b.length l.length with hlb | hlb
  all_goals
    go_wp2_with fail
    obtain ⟨g, hg⟩ : ∃ g, g = w4.heap.size := ⟨_, rfl⟩
    have HG := Lib.hid hg
    rw [HE2.out] at HX0 HB5 ⊢
    rw [← hg] at HX0 HS5 ⊢
    generalize w4.alloc (.cells ((List.replicate n (0 : Int)).map (Value.int .i64)).toArray 3) = w5 at HX0 HB5 ⊢
    clear hg hmk
    generalize loP (l.zip b) = lo at HZ HIN hrg ⊢
    have hlo := hrg.1
    go_loopw [35] (fun v35 wr => ∃ j : Nat, j ≤ min l.length b.length ∧ v35 = .int .i64 j ∧ wr.heap[g]? = some (.cells ((cntL ((l.zip b).take j) lo n).map (Value.int .i64)).toArray 3 (0, 0)) ∧ Below w.heap.size w wr) (fun v35 _ => min l.length b.length - (intOf v35).toNat)
    case atStart => exact ⟨0, Nat.zero_le _, rfl, by rw [List.take_zero, cntL_zero]; exact HX0.out, HB5.out⟩
    case round =>
      obtain ⟨j, hj, rfl, hx, hB⟩ := hrel
      have HX := Lib.hid hx
      have HB := Lib.hid hB
      clear hB hx
      by_cases hj1 : j < min l.length b.length
      · have hjl : j < l.length := by omega
        have hjb : j < b.length := by omega
        obtain ⟨G, o, rfl, hG, hc⟩ := HA.out (by omega)
        obtain ⟨G', o', rfl, hG', hc'⟩ := HA'.out (by omega)
        have k1 := (HB.out.cell (p := ⟨G, o + j, none⟩) hG).trans (hc j hjl)
        have k2 := (HB.out.cell (p := ⟨G', o' + j, none⟩) hG').trans (hc' j hjb)
        have HT := Lib.hid (take_zip hjl hjb)
        have hmem : (l[j], b[j]) ∈ l.zip b := by
          have : (l.zip b)[j]'(by simp; omega) = (l[j], b[j]) := by simp
          exact this ▸ List.getElem_mem _
        clear hc hc' hj1
        generalize l[j] = x at k1 HT hmem
        generalize b[j] = y at k2 HT hmem
        cases y with
        | false =>
          clear hmem
          go_wp2_with fail
          go_roundw
          case rel => exact ⟨j + 1, by omega, by go_num, by rw [HT.out, cntL_off]; exact HX.out, HB.out⟩
          case measure => simp [intOf]; omega
        | true =>
          obtain ⟨k, rfl, hk⟩ := HIN.out x hmem
          clear hmem
          have hkn : k < n := by omega
          have hkl : k < (cntL ((l.zip b).take j) lo n).length := by rw [cntL_length]; exact hkn
          have q0 := row_cell HX.out k hkl
          have q1 := row_frozen HX.out k
          rw [cntL_get] at q0
          have hv := count_le ((l.zip b).take j) (lo + (k : Int))
          have hv2 : ((l.zip b).take j).length ≤ 1000000 := by simp; omega
          have HXN := Lib.hid (row_set HX.out k ((countP' ((l.zip b).take j) (lo + (k : Int)) : Nat) + 1))
          have HXM : Hid (cntL ((l.zip b).take (j + 1)) lo n = (cntL ((l.zip b).take j) lo n).set k ((countP' ((l.zip b).take j) (lo + (k : Int)) : Nat) + 1)) := by
            rw [HT.out]; exact cntL_on _ _ _ _
          generalize countP' ((l.zip b).take j) (lo + (k : Int)) = v at q0 hv HXN HXM
          have hv3 : v ≤ 1000000 := by omega
          have ek : (lo + (k : Int) - lo).toNat = k := by omega
          have q2 : wr.cell? ⟨g, (lo + (k : Int) - lo).toNat, none⟩ = some (.int .i64 (v : Int)) := by rw [ek]; exact q0
          have q3 : wr.frozen? ⟨g, (lo + (k : Int) - lo).toNat, none⟩ = false := by rw [ek]; exact q1
          have HXK := Lib.hid ek
          clear hv hv2 HT q0 q1 ek
          go_wp2_with fail
          go_roundw
          case rel => exact ⟨j + 1, by omega, by go_num, by rw [HXM.out, HXK.out]; exact HXN.out, HB.out.setCell (p := ⟨g, _, none⟩) HS5.out _⟩
          case measure => simp [intOf]; omega
      · obtain rfl : j = min l.length b.length := by omega
        have hz : (l.zip b).take (min l.length b.length) = l.zip b := List.take_of_length_le (by simp)
        rw [hz] at HX
        go_wp2_with fail
        go_ret
        refine ⟨some ⟨g, 0, none⟩, ?_, ?_, fun ad e => (by cases e; exact HS5.out), HB.out⟩ <;> rw [HZ.out]
        · rw [cntL_length]; rfl
        · exact row_arr HX.out
set_option maxRecDepth 100000 in
set_option maxHeartbeats 1000000 in
/-- The same ints, wherever they lie. -/
theorem ints_any (A A' : Option Addr) (c c' : Nat) (l : List Int) (w : World) (hl : l.length ≤ 1000000) (hA : IA w A l) (hA' : IA w A' l) :
    Calls Try.prog 19 #[.slice A l.length c, .slice A' l.length c'] w fun e w' => e = .returned (.bool true) ∧ Below w.heap.size w w' := by
  have HA := Lib.hid hA
  have HA' := Lib.hid hA'
  clear hA hA'
  go_enter Try.func19, Try.ntmps19
  go_wp2_with fail
  go_loopw [13] (fun v wr => ∃ j : Nat, j ≤ l.length ∧ v = .int .i64 j ∧ Below w.heap.size w wr) (fun v _ => l.length - (intOf v).toNat)
  case atStart => exact ⟨0, Nat.zero_le _, rfl, Below.refl _ _⟩
  case round =>
    obtain ⟨j, hj, rfl, hB⟩ := hrel
    have HB := Lib.hid hB
    clear hB
    by_cases hj1 : j < l.length
    · obtain ⟨G, o, rfl, hG, hc⟩ := HA.out (by omega)
      obtain ⟨G', o', rfl, hG', hc'⟩ := HA'.out (by omega)
      have k1 := (HB.out.cell (p := ⟨G, o + j, none⟩) hG).trans (hc j hj1)
      have k2 := (HB.out.cell (p := ⟨G', o' + j, none⟩) hG').trans (hc' j hj1)
      clear hc hc'
      generalize l[j] = x at k1 k2
      go_wp2_with fail
      go_quiet (fail)
      go_wp2_with fail
      go_roundw
      case rel => exact ⟨j + 1, by omega, by go_num, drewN_below HB.out _⟩
      case measure => simp [intOf]; omega
    · obtain rfl : j = l.length := by omega
      go_wp2_with fail
      go_ret
      exact ⟨rfl, HB.out⟩
end Go.Proofs.Ytjgpjmlnmjgdmaa
