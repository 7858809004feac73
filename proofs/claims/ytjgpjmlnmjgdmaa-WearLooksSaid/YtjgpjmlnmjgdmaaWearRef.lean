/- The reference's counts: Ends, Apart, seek, Coldest, Hottest, Due. -/
import Derived.WalkKit
import Derived.WalkSpells
import Derived.WalkLawsBesides
import Derived.IntWalk
import Derived.Lib.Hide
import Derived.Outline
import Derived.Deep.QuietTactic
import Derived.BigQuiet
import Derived.Below
import Derived.Test.YtjgpjmlnmjgdmaaProg
import Derived.Test.YtjgpjmlnmjgdmaaWearMath
namespace Go.Proofs.Ytjgpjmlnmjgdmaa
open Go.RowKit

theorem ret_int {k : IntKind} {a b : Int} (h : a = b) : Ending.returned (.int k a) = .returned (.int k b) := by rw [h]
theorem ret_bool {a b : Bool} (h : a = b) : Ending.returned (.bool a) = .returned (.bool b) := by rw [h]
/-- At A of w this list lies. -/
def Arr {α : Type} (enc : α → Value) (w : World) (A : Option Addr) (l : List α) : Prop :=
  0 < l.length → ∃ B o, A = some ⟨B, o, none⟩ ∧ B < w.heap.size ∧ ∀ j (h : j < l.length), w.cell? ⟨B, o + j, none⟩ = some (enc l[j])
theorem Arr.below {α : Type} {enc : α → Value} {w w' : World} {A : Option Addr} {l : List α} (h : Arr enc w A l) (hb : Below w.heap.size w w') : Arr enc w' A l := fun hn => by
  obtain ⟨B, o, e, hB, hc⟩ := h hn
  exact ⟨B, o, e, Nat.lt_of_lt_of_le hB hb.size, fun j hj => (hb.cell (p := ⟨B, o + j, none⟩) hB).trans (hc j hj)⟩
theorem wf_le {x : Int} (h : (Lit.int .i64 x).wf = true) : -9223372036854775808 ≤ x ∧ x ≤ 9223372036854775807 := by
  have h0 : IntKind.min .i64 = -9223372036854775808 := by decide
  have h1 : IntKind.max .i64 = 9223372036854775807 := by decide
  simpa [Lit.wf, h0, h1] using h
abbrev IA := Arr (Value.int .i64)
abbrev BA := Arr Value.bool
theorem drewN_below {B : Nat} {w w' : World} (h : Below B w w') (n : Nat) : Below B w (w'.drewN n) := ⟨h.os, h.tape, h.output, h.size, h.block⟩
theorem take_zip {l : List Int} {b : List Bool} {j : Nat} (h1 : j < l.length) (h2 : j < b.length) : (l.zip b).take (j + 1) = (l.zip b).take j ++ [(l[j], b[j])] := by
  rw [List.take_succ_eq_append_getElem (by simp; omega)]
  simp
theorem endsP_two (zs : List (Int × Bool)) (x : Int) (b : Bool) : endsP (zs ++ [(x, b)]) = if b = true then some (match endsP zs with | none => (x, x) | some q => (min q.1 x, max q.2 x)) else endsP zs := endsP_snoc zs (x, b)
theorem ends_range (l : List Int) (b : List Bool) (hw : ∀ x ∈ l, (Lit.int .i64 x).wf = true) : (-9223372036854775808 ≤ loP (l.zip b) ∧ loP (l.zip b) ≤ 9223372036854775807) ∧ -9223372036854775808 ≤ hiP (l.zip b) ∧ hiP (l.zip b) ≤ 9223372036854775807 := by
  rcases ends_fold (l.zip b) with ⟨h1, _⟩ | ⟨lo, hi, _, h2⟩
  · have := ends_none h1
    rw [this.1, this.2]; decide
  · have e := ends_of h2
    rw [e.1, e.2]
    exact ⟨wf_le (hw lo (List.of_mem_zip h2.1).1), wf_le (hw hi (List.of_mem_zip h2.2.1).1)⟩
set_option maxRecDepth 100000 in
set_option maxHeartbeats 4000000 in
theorem endsr_any (A A' : Option Addr) (c c' : Nat) (l : List Int) (b : List Bool) (w : World) (hl : l.length ≤ 1000000) (hb : b.length ≤ 1000000) (hA : IA w A l) (hA' : BA w A' b) :
    Calls Try.prog 10 #[.slice A l.length c, .slice A' b.length c'] w fun e w' => e = .returned (.tuple #[.int .i64 (loP (l.zip b)), .int .i64 (hiP (l.zip b))]) ∧ Below w.heap.size w w' := by
  have HA := Lib.hid hA
  have HA' := Lib.hid hA'
  clear hA hA'
  go_enter Try.func10, Try.ntmps10
  rcases Nat.lt_or_ge b.length l.length with hlb | hlb
  all_goals
    go_wp2_with fail
    go_loopw [6, 7, 8, 15] (fun v6 v7 v8 v15 wr => ∃ j : Nat, j ≤ min l.length b.length ∧ v15 = .int .i64 j ∧ v6 = .int .i64 (loP ((l.zip b).take j)) ∧ v7 = .int .i64 (hiP ((l.zip b).take j)) ∧ v8 = .bool (endsP ((l.zip b).take j)).isSome ∧ Below w.heap.size w wr) (fun _ _ _ v15 _ => min l.length b.length - (intOf v15).toNat)
    case atStart => exact ⟨0, Nat.zero_le _, rfl, rfl, rfl, rfl, Below.refl _ _⟩
    case round =>
      obtain ⟨j, hj, rfl, rfl, rfl, rfl, hB⟩ := hrel
      have HB := Lib.hid hB
      clear hB
      by_cases hj1 : j < min l.length b.length
      · have hjl : j < l.length := by omega
        have hjb : j < b.length := by omega
        obtain ⟨G, o, rfl, hG, hc⟩ := HA.out (by omega)
        obtain ⟨G', o', rfl, hG', hc'⟩ := HA'.out (by omega)
        have k1 := (HB.out.cell (p := ⟨G, o + j, none⟩) hG).trans (hc j hjl)
        have k2 := (HB.out.cell (p := ⟨G', o' + j, none⟩) hG').trans (hc' j hjb)
        have HT := Lib.hid (take_zip hjl hjb)
        clear hc hc' hj1
        generalize l[j] = x at k1 HT
        generalize b[j] = y at k2 HT
        cases y with
        | false =>
          go_wp2_with fail
          go_roundw
          case rel =>
            refine ⟨j + 1, by omega, by go_num, ?_⟩
            rw [HT.out]
            unfold loP hiP
            rw [endsP_two]
            exact ⟨rfl, rfl, rfl, HB.out⟩
          case measure => simp [intOf]; omega
        | true =>
          rcases he : endsP ((l.zip b).take j) with _ | ⟨p, q⟩
          · have e1 : loP ((l.zip b).take j) = 0 := by unfold loP; rw [he]; rfl
            have e2 : hiP ((l.zip b).take j) = 0 := by unfold hiP; rw [he]; rfl
            have HE := Lib.hid he
            rw [e1, e2]
            simp only [Option.isSome_none]
            clear he e1 e2
            go_wp2_with fail
            go_quiet (fail)
            go_wp2_with fail
            go_quiet (fail)
            go_wp2_with fail
            go_roundw
            case rel =>
              refine ⟨j + 1, by omega, by go_num, ?_⟩
              rw [HT.out]
              unfold loP hiP
              rw [endsP_two, HE.out]
              exact ⟨by simp, by simp, by simp, by simpa using drewN_below HB.out _⟩
            case measure => simp [intOf]; omega
          · have e1 : loP ((l.zip b).take j) = p := by unfold loP; rw [he]; rfl
            have e2 : hiP ((l.zip b).take j) = q := by unfold hiP; rw [he]; rfl
            have HE := Lib.hid he
            rw [e1, e2]
            simp only [Option.isSome_some]
            clear he e1 e2
            go_wp2_with fail
            go_quiet (fail)
            go_wp2_with fail
            go_roundw
            case rel =>
              refine ⟨j + 1, by omega, by go_num, ?_⟩
              rw [HT.out]
              unfold loP hiP
              rw [endsP_two, HE.out]
              refine ⟨?_, ?_, by simp, drewN_below HB.out _⟩
              · simp only [if_true, Option.map_some, Option.getD_some, Value.int.injEq, true_and]
                rcases Int.lt_or_le x p with h | h
                · rw [if_pos h, Int.min_eq_right (by omega)]
                · rw [if_neg (by omega), Int.min_eq_left h]
              · simp only [if_true, Option.map_some, Option.getD_some, Value.int.injEq, true_and]
                rcases Int.lt_or_le q x with h | h
                · rw [if_pos h, Int.max_eq_right (by omega)]
                · rw [if_neg (by omega), Int.max_eq_left h]
            case measure => simp [intOf]; omega
      · obtain rfl : j = min l.length b.length := by omega
        have hz : (l.zip b).take (min l.length b.length) = l.zip b := List.take_of_length_le (by simp)
        rw [hz]
        go_wp2_with fail
        go_ret2
        exact ⟨rfl, HB.out⟩
set_option maxRecDepth 100000 in
set_option maxHeartbeats 1000000 in
theorem apartr_any (A A' : Option Addr) (c c' : Nat) (l : List Int) (b : List Bool) (w : World) (hl : l.length ≤ 1000000) (hb : b.length ≤ 1000000) (hA : IA w A l) (hA' : BA w A' b) (hw : ∀ x ∈ l, (Lit.int .i64 x).wf = true) :
    Calls Try.prog 12 #[.slice A l.length c, .slice A' b.length c'] w fun e w' => e = .returned (.int .i64 (apartP (l.zip b))) ∧ Below w.heap.size w w' := by
  have HE := Lib.hid (endsr_any A A' c c' l b w hl hb hA hA')
  have hlh := lo_le_hi (l.zip b)
  have hr := ends_range l b hw
  have HP := Lib.hid (show apartP (l.zip b) = if hiP (l.zip b) - loP (l.zip b) ≤ 9223372036854775807 then hiP (l.zip b) - loP (l.zip b) else 9223372036854775807 from rfl)
  clear hA hA' hw
  generalize loP (l.zip b) = lo at HE hlh hr HP
  generalize hiP (l.zip b) = hi at HE hlh hr HP
  by_cases h0 : lo < 0 ∧ 0 ≤ hi
  · by_cases h1 : hi - lo ≤ 9223372036854775807
    all_goals
      have h2 := h0.1
      have h3 := h0.2
      go_enter Try.func12, Try.ntmps12
      go_wp2_with (go_at_call 10; refine HE.out.mono ?_; rintro e w1 ⟨rfl, hb1⟩)
      all_goals
        go_ret
        refine ⟨ret_int ?_, hb1⟩
        rw [HP.out]
        split <;> first | omega | (unfold wrap64 at *; omega)
  · go_enter Try.func12, Try.ntmps12
    go_wp2_with (go_at_call 10; refine HE.out.mono ?_; rintro e w1 ⟨rfl, hb1⟩)
    all_goals
      go_ret
      refine ⟨ret_int ?_, hb1⟩
      rw [HP.out]
      split <;> first | omega | (unfold wrap64 at *; omega)
theorem seekFrom_app (n : Int) (a c : List (Int × Bool)) (k : Nat) (h : seekFrom n k a ≠ -1) : seekFrom n k (a ++ c) = seekFrom n k a := by
  induction a generalizing k with
  | nil => exact absurd rfl h
  | cons p r ih =>
    simp only [List.cons_append, seekFrom] at h ⊢
    split
    · rfl
    · next hp => rw [if_neg hp] at h; exact ih (k + 1) h
theorem seek_found {zs : List (Int × Bool)} {n : Int} {j : Nat} (h : seekP (zs.take (j + 1)) n = (j : Int)) : seekP zs n = (j : Int) := by
  have := seekFrom_app n (zs.take (j + 1)) (zs.drop (j + 1)) 0 (by show seekP _ _ ≠ -1; rw [h]; omega)
  rw [List.take_append_drop] at this
  exact this.trans h
set_option maxRecDepth 100000 in
set_option maxHeartbeats 4000000 in
theorem seekr_any (A A' : Option Addr) (c c' : Nat) (l : List Int) (b : List Bool) (n : Int) (w : World) (hl : l.length ≤ 1000000) (hb : b.length ≤ 1000000) (hA : IA w A l) (hA' : BA w A' b) :
    Calls Try.prog 28 #[.slice A l.length c, .slice A' b.length c', .int .i64 n] w fun e w' => e = .returned (.int .i64 (seekP (l.zip b) n)) ∧ Below w.heap.size w w' := by
  have HA := Lib.hid hA
  have HA' := Lib.hid hA'
  clear hA hA'
  go_enter Try.func28, Try.ntmps28
  rcases Nat.lt_or_ge b.length l.length with hlb | hlb
  all_goals
    go_wp2_with fail
    go_loopw [13] (fun v13 wr => ∃ j : Nat, j ≤ min l.length b.length ∧ v13 = .int .i64 j ∧ seekP ((l.zip b).take j) n = -1 ∧ Below w.heap.size w wr) (fun v13 _ => min l.length b.length - (intOf v13).toNat)
    case atStart => exact ⟨0, Nat.zero_le _, rfl, rfl, Below.refl _ _⟩
    case round =>
      obtain ⟨j, hj, rfl, hs, hB⟩ := hrel
      have HB := Lib.hid hB
      have HS := Lib.hid hs
      clear hB hs
      by_cases hj1 : j < min l.length b.length
      · have hjl : j < l.length := by omega
        have hjb : j < b.length := by omega
        obtain ⟨G, o, rfl, hG, hc⟩ := HA.out (by omega)
        obtain ⟨G', o', rfl, hG', hc'⟩ := HA'.out (by omega)
        have k1 := (HB.out.cell (p := ⟨G, o + j, none⟩) hG).trans (hc j hjl)
        have k2 := (HB.out.cell (p := ⟨G', o' + j, none⟩) hG').trans (hc' j hjb)
        have HT := Lib.hid (show seekP ((l.zip b).take (j + 1)) n = if b[j] = true ∧ l[j] = n then (j : Int) else -1 by
          rw [take_zip hjl hjb]
          unfold seekP
          rw [seekFrom_snoc, if_pos (show seekFrom n 0 _ = -1 from HS.out)]
          have : ((l.zip b).take j).length = j := by simp; omega
          rw [this, Nat.zero_add])
        clear hc hc' hj1
        generalize l[j] = x at k1 HT
        generalize b[j] = y at k2 HT
        cases y with
        | false =>
          go_wp2_with fail
          go_roundw
          case rel => exact ⟨j + 1, by omega, by go_num, HT.out.trans (if_neg fun h => by cases h.1), HB.out⟩
          case measure => simp [intOf]; omega
        | true =>
          by_cases hx : x = n
          · subst hx
            go_wp2_with fail
            go_ret
            exact ⟨ret_int (seek_found (HT.out.trans (if_pos (by simp)))).symm, HB.out⟩
          · have hx' : (x == n) = false := by simpa using hx
            go_wp2_with fail
            go_roundw
            case rel => exact ⟨j + 1, by omega, by go_num, HT.out.trans (if_neg fun h => hx h.2), HB.out⟩
            case measure => simp [intOf]; omega
      · obtain rfl : j = min l.length b.length := by omega
        have hz : (l.zip b).take (min l.length b.length) = l.zip b := List.take_of_length_le (by simp)
        rw [hz] at HS
        go_wp2_with fail
        go_ret
        exact ⟨ret_int HS.out.symm, HB.out⟩
section
variable (A A' : Option Addr) (c c' : Nat) (l : List Int) (b : List Bool) (w : World) (hl : l.length ≤ 1000000) (hb : b.length ≤ 1000000) (hA : IA w A l) (hA' : BA w A' b)
include hl hb hA hA'
set_option maxRecDepth 100000 in
theorem coldr_any : Calls Try.prog 14 #[.slice A l.length c, .slice A' b.length c'] w fun e w' => e = .returned (.int .i64 (coldP (l.zip b))) ∧ Below w.heap.size w w' := by
  have HA := Lib.hid hA
  have HA' := Lib.hid hA'
  have HE := Lib.hid (endsr_any A A' c c' l b w hl hb hA hA')
  clear hA hA'
  go_enter Try.func14, Try.ntmps14
  go_wp2_with (first
    | (go_at_call 10; refine HE.out.mono ?_; rintro e w1 ⟨rfl, h1⟩; have HB1 := Lib.hid h1; clear h1)
    | (go_at_call 28; refine (seekr_any A A' c c' l b (loP (l.zip b)) w1 hl hb (HA.out.below HB1.out) (HA'.out.below HB1.out)).mono ?_; rintro e w2 ⟨rfl, hb2⟩))
  go_ret
  exact ⟨rfl, HB1.out.trans (hb2.mono HB1.out.size)⟩
set_option maxRecDepth 100000 in
theorem hotr_any : Calls Try.prog 16 #[.slice A l.length c, .slice A' b.length c'] w fun e w' => e = .returned (.int .i64 (hotP (l.zip b))) ∧ Below w.heap.size w w' := by
  have HA := Lib.hid hA
  have HA' := Lib.hid hA'
  have HE := Lib.hid (endsr_any A A' c c' l b w hl hb hA hA')
  clear hA hA'
  go_enter Try.func16, Try.ntmps16
  go_wp2_with (first
    | (go_at_call 10; refine HE.out.mono ?_; rintro e w1 ⟨rfl, h1⟩; have HB1 := Lib.hid h1; clear h1)
    | (go_at_call 28; refine (seekr_any A A' c c' l b (hiP (l.zip b)) w1 hl hb (HA.out.below HB1.out) (HA'.out.below HB1.out)).mono ?_; rintro e w2 ⟨rfl, hb2⟩))
  go_ret
  exact ⟨rfl, HB1.out.trans (hb2.mono HB1.out.size)⟩
set_option maxRecDepth 100000 in
theorem duer_any (most : Int) (hw : ∀ x ∈ l, (Lit.int .i64 x).wf = true) : Calls Try.prog 18 #[.slice A l.length c, .slice A' b.length c', .int .i64 most] w fun e w' => e = .returned (.int .i64 (dueP (l.zip b) most)) ∧ Below w.heap.size w w' := by
  have HA := Lib.hid hA
  have HA' := Lib.hid hA'
  have HE := Lib.hid (apartr_any A A' c c' l b w hl hb hA hA' hw)
  have HD := Lib.hid (show dueP (l.zip b) most = if apartP (l.zip b) ≤ most then -1 else coldP (l.zip b) from rfl)
  clear hA hA' hw
  by_cases hd : apartP (l.zip b) ≤ most
  · go_enter Try.func18, Try.ntmps18
    go_wp2_with (go_at_call 12; refine HE.out.mono ?_; rintro e w1 ⟨rfl, h1⟩)
    go_ret
    exact ⟨ret_int (HD.out.trans (if_pos hd)).symm, h1⟩
  · go_enter Try.func18, Try.ntmps18
    go_wp2_with (first
      | (go_at_call 12; refine HE.out.mono ?_; rintro e w1 ⟨rfl, h1⟩; have HB1 := Lib.hid h1; clear h1)
      | (go_at_call 14; refine (coldr_any A A' c c' l b w1 hl hb (HA.out.below HB1.out) (HA'.out.below HB1.out)).mono ?_; rintro e w2 ⟨rfl, hb2⟩))
    go_ret
    exact ⟨ret_int (HD.out.trans (if_neg (by omega))).symm, HB1.out.trans (hb2.mono HB1.out.size)⟩
end
end Go.Proofs.Ytjgpjmlnmjgdmaa
