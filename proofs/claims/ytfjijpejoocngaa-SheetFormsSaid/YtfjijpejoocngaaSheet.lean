/- Package sheet: within, Number, Split, Bytes, May, Parse. -/
import Derived.Test.YtfjijpejoocngaaStep
import Derived.Test.YtfjijpejoocngaaLaws
namespace Go.Proofs.Ytfjijpejoocngaa
open Go.RowKit

theorem within_any (a b c : Int) (w : World) :
    Calls Try.prog 22 #[.int .i64 a, .int .i64 b, .int .i64 c] w fun e w' => e = .returned (.bool (decide (b ≤ a ∧ a ≤ c))) ∧ w = w' := by
  go_enter Try.func22, Try.ntmps22
  go_wp2
  · have h : b ≤ a := by assumption
    go_ret
    exact ⟨ret_bool (by simp [h]), rfl⟩
  · have h : a < b := by assumption
    go_ret
    exact ⟨ret_bool (by simp; omega), rfl⟩
theorem rb_new1 (w : World) (c : UInt8) (t : TypeId) (fr : Nat × Nat) : RB (w.alloc (.cells #[.int .u8 c.toNat] t fr)) (w.heap.size + 1) (some ⟨w.heap.size, 0, none⟩) [c] := fun _ => ⟨_, rfl, by simp, fun j hj => by
  obtain rfl : j = 0 := by simpa using hj
  have := World.cell?_alloc_mark w #[.int .u8 c.toNat] t fr 0
  simpa [Addr.add, ub] using this⟩
def numS (a b : Int) : Int := if (0 ≤ a ∧ a ≤ 11) ∧ 0 ≤ b ∧ b ≤ 4 then 1 + a * 5 + b else 0
theorem numof_any (a b : Int) (w : World) : Calls Try.prog 20 #[.int .i64 a, .int .i64 b] w fun e w' => e = .returned (.int .i64 (numS a b)) ∧ w = w' := by
  by_cases h1 : 0 ≤ a ∧ a ≤ 11 <;> by_cases h2 : 0 ≤ b ∧ b ≤ 4
  all_goals
    have H1 := Lib.hid h1
    have H2 := Lib.hid h2
    go_enter Try.func20, Try.ntmps20
    go_wp2_with (refine (within_any _ _ _ _).mono ?_; rintro e w' ⟨rfl, rfl⟩; first | rw [decide_eq_true H1.out] | rw [decide_eq_false H1.out] | rw [decide_eq_true H2.out] | rw [decide_eq_false H2.out])
    go_ret
    exact ⟨ret_int (by unfold numS; simp only [H1.out, H2.out]; simp), rfl⟩
def splitS (n : Int) : Int × Int := if 1 ≤ n ∧ n ≤ 60 then ((n - 1) / 5, (n - 1) % 5) else (-1, -1)
theorem split_any (n : Int) (w : World) : Calls Try.prog 15 #[.int .i64 n] w fun e w' => e = .returned (.tuple #[.int .i64 (splitS n).1, .int .i64 (splitS n).2]) ∧ w = w' := by
  by_cases h1 : 1 ≤ n ∧ n ≤ 60
  all_goals
    have H1 := Lib.hid h1
    have e1 : splitS n = if 1 ≤ n ∧ n ≤ 60 then ((n - 1) / 5, (n - 1) % 5) else (-1, -1) := rfl
    simp only [h1] at e1
    have E1 := Lib.hid e1
    clear e1
    go_enter Try.func15, Try.ntmps15
    go_wp2_with (refine (within_any _ _ _ _).mono ?_; rintro e w' ⟨rfl, rfl⟩; first | rw [decide_eq_true H1.out] | rw [decide_eq_false H1.out])
    go_ret2
    rw [E1.out]
    exact ⟨by simp, rfl⟩

/-- A sheet's bytes. -/
def sheetL (p s : Nat) (d : List UInt8) : List UInt8 := numL p ++ numL s ++ numL d.length ++ d ++ [90]
/-- A sheet that may be. -/
def MayS (p s : Int) (d : List UInt8) : Prop := (0 ≤ p ∧ p ≤ 60) ∧ (1 ≤ s ∧ s ≤ 1099511627776) ∧ d.length ≤ 2000 ∧ (sheetL p.toNat s.toNat d).length ≤ 2000
instance (p s : Int) (d : List UInt8) : Decidable (MayS p s d) := by unfold MayS; infer_instance
/-- What Bytes tells: the bytes, the error; nothing that was there has turned. -/
def BytesPost (p s : Int) (d : List UInt8) (w : World) (e : Ending) (w' : World) : Prop :=
  ∃ (A : Option Addr) (c : Nat) (L : List UInt8) (er : Int), e = .returned (.tuple #[.slice A L.length c, .int .i64 er]) ∧ Hid (L = if MayS p s d then sheetL p.toNat s.toNat d else []) ∧ er = (if MayS p s d then 0 else 1) ∧ L.length ≤ c ∧ RB w' w'.heap.size A L ∧ (∀ ad, A = some ad → w.heap.size ≤ ad.block) ∧ Below w.heap.size w w'
theorem BytesPost.no {p s : Int} {d : List UInt8} {w w' : World} (h : ¬ MayS p s d) (hb : Below w.heap.size w w') : BytesPost p s d w (.returned (.tuple #[.slice none 0 0, .int .i64 1])) w' :=
  ⟨none, 0, [], 1, rfl, by rw [if_neg h]; rfl, by rw [if_neg h], Nat.le_refl _, .nil, fun _ e => (by cases e), hb⟩
theorem cells3 {w : World} {q : Nat} {a b c : Value} {t : TypeId} (h : w.heap[q]? = some (.cells #[a, b, c] t (0, 0))) : w.cell? ⟨q, 0, none⟩ = some a ∧ w.cell? ⟨q, 1, none⟩ = some b ∧ w.cell? ⟨q, 2, none⟩ = some c := by
  simp [World.cell?, h]
set_option maxRecDepth 100000 in
set_option maxHeartbeats 1000000 in
theorem bytes_any (B : Nat) (p s : Int) (A : Option Addr) (c : Nat) (d : List UInt8) (w : World) (hr : RB w B A d) (hB : B ≤ w.heap.size) :
    Calls Try.prog 11 #[.agg #[.int .i64 p, .int .i64 s, .slice A d.length c]] w (BytesPost p s d w) := by
  obtain ⟨i0, hi, hz0, hz1, hz2⟩ := info_parts info_byte
  by_cases h1 : 0 ≤ p ∧ p ≤ 60
  · by_cases h2 : 1 ≤ s ∧ s ≤ 1099511627776
    · by_cases h3 : d.length ≤ 2000
      · obtain ⟨P, rfl⟩ : ∃ P : Nat, p = (P : Int) := ⟨p.toNat, by omega⟩
        obtain ⟨S, rfl⟩ : ∃ S : Nat, s = (S : Int) := ⟨s.toNat, by omega⟩
        have hP : P ≤ 60 := by omega
        have hS : S ≤ 1099511627776 := by omega
        have H1 := Lib.hid h1
        have H2 := Lib.hid h2
        have eP := Lib.hid (heldW_nat P (by omega))
        have eS := Lib.hid (heldW_nat S (by omega))
        have eD := Lib.hid (heldW_nat d.length (by omega))
        have hr0 := Lib.hid (hr.alloc hB (.cells #[.int .i64 (P : Int), .int .i64 (S : Int), .slice A d.length c] 24))
        clear h1 h2
        go_enter Try.func11, Try.ntmps11
        go_wp2_with (first
          | (go_at_call 22; refine (within_any _ _ _ _).mono ?_; rintro e w' ⟨rfl, rfl⟩; first | rw [decide_eq_true H1.out] | rw [decide_eq_true H2.out])
          | (go_at_call 23; (with_reducible refine (number_made w1.heap.size A1 c1 L1 S w1 HR1.out (Nat.le_refl _) (by omega)).mono ?_); rintro e w2 ⟨A2, c2, L2, rfl, hL2, hc2, hr2, hn2, hb2⟩; have HL2 := Lib.hid (hL2.out.trans (by rw [HL1.out, eS.out])); have HR2 := Lib.hid hr2; have hs2 := hb2.size; have hl2 : L2.length ≤ 12 := (by rw [hL2.out]; have := (numL_len (heldW S) (by have := heldW_le S; omega)).2; simp; omega); have HB2 := Lib.hid (HB1.out.trans (hb2.mono (by omega))); obtain ⟨_, _, k2⟩ := cells3 ((hb2.block w.heap.size (by have := lt_size HST1.out; omega)).trans HST1.out); have hrd2 := Lib.hid (hrd1.out.below hb2 (by omega)); clear hL2 hr2 hn2 hb2 k1)
          | (go_at_call 24; (with_reducible refine (text_own w2.heap.size A2 A c2 c L2 d w2 HR2.out (hrd2.out.mono (by omega)) (Nat.le_refl _) (by omega) (by omega)).mono ?_); rintro e w3 ⟨A3, c3, L3, rfl, hL3, hown3, hb3⟩; have HL3 := Lib.hid (hL3.out.trans (by rw [HL2.out, eD.out])); have hl3 : L3.length ≤ 2018 := (by rw [hL3.out]; have := (numL_len (heldW d.length) (by have := heldW_le d.length; omega)).2; simp; omega); have hs3 := hb3.size; have HB3 := Lib.hid (HB2.out.trans (hb3.mono (by omega))); clear hL3 hb3 k2)
          | (at_builtin; refine wpList_append_bytes _ rfl _ _ _ rfl w2.heap.size 5 i0 _ Try.underlying22 hi hz0 hz1 hz2 rfl _ L3 rfl (hown3.alloc _) (w3.heap.size + 1) _ 1 [90] rfl (rb_new1 w3 90 5 (0, 0)) (by simp; omega) (by simp; omega) ?_; intro p4 cap4 w4 hown4 hg4 _)
          | (go_at_call 23; (with_reducible refine (number_fresh P _ (by omega)).mono ?_); rintro e w1 ⟨A1, c1, L1, rfl, hL1, hc1, hr1, hn1, hb1⟩; have HL1 := Lib.hid hL1.out; have HR1 := Lib.hid hr1; have hs1 : w.heap.size ≤ w1.heap.size := (by have := hb1.size; simp at this; omega); have hl1 : L1.length ≤ 6 := (by rw [hL1.out]; exact (numL_len P (by omega)).2); have HB1 := Lib.hid (((Below.refl w.heap.size w).alloc (Nat.le_refl _) _).trans (hb1.mono (by simp))); have hst1 := (hb1.block w.heap.size (by simp)).trans (heap_alloc_new w _); obtain ⟨_, k1, _⟩ := cells3 hst1; have HST1 := Lib.hid hst1; clear hst1; have hrd1 := Lib.hid ((hr0.out.below hb1 (by simp; omega))); clear hL1 hr1 hn1 hb1)
          | fail)
        all_goals
          have hB4 : Below w.heap.size w w4 := (HB3.out.alloc (by omega) _).grown hg4 (by simp; omega) (fun k e => (by have := (hown3.lt k e).1; omega))
          have hlen : (sheetL (P : Int).toNat (S : Int).toNat d).length = L3.length + 1 := by rw [HL3.out]; unfold sheetL; simp only [Int.toNat_natCast, List.length_append, List.length_singleton]
          go_ret2
        · exact BytesPost.no (fun h => by have := h.2.2.2; omega) hB4
        · have hM : MayS (P : Int) (S : Int) d := ⟨H1.out, H2.out, h3, by omega⟩
          obtain ⟨p4', c4', he, hle⟩ := own_slice hown4
          cases he
          refine ⟨p4, cap4, L3 ++ [90], 0, by simp, ?_, by rw [if_pos hM], hle, .of_own hown4, fun ad e => ?_, hB4⟩
          · rw [if_pos hM, HL3.out]; rfl
          · have := (hown4.lt ad.block (by rw [e]; rfl)).1; omega
      · have H1 := Lib.hid h1
        have H2 := Lib.hid h2
        clear h1 h2
        go_enter Try.func11, Try.ntmps11
        go_wp2_with (go_at_call 22; refine (within_any _ _ _ _).mono ?_; rintro e w' ⟨rfl, rfl⟩; first | rw [decide_eq_true H1.out] | rw [decide_eq_true H2.out])
        go_ret2
        exact BytesPost.no (fun h => h3 h.2.2.1) ((Below.refl _ _).alloc (Nat.le_refl _) _)
    · have H1 := Lib.hid h1
      have H2 := Lib.hid h2
      clear h1 h2
      go_enter Try.func11, Try.ntmps11
      go_wp2_with (go_at_call 22; refine (within_any _ _ _ _).mono ?_; rintro e w' ⟨rfl, rfl⟩; first | rw [decide_eq_true H1.out] | rw [decide_eq_false H2.out])
      go_ret2
      exact BytesPost.no (fun h => H2.out h.2.1) ((Below.refl _ _).alloc (Nat.le_refl _) _)
  · have H1 := Lib.hid h1
    clear h1
    go_enter Try.func11, Try.ntmps11
    go_wp2_with (go_at_call 22; refine (within_any _ _ _ _).mono ?_; rintro e w' ⟨rfl, rfl⟩; rw [decide_eq_false H1.out])
    go_ret2
    exact BytesPost.no (fun h => H1.out h.1) ((Below.refl _ _).alloc (Nat.le_refl _) _)
theorem may_any (B : Nat) (p s : Int) (A : Option Addr) (c : Nat) (d : List UInt8) (w : World) (hr : RB w B A d) (hB : B ≤ w.heap.size) :
    Calls Try.prog 18 #[.agg #[.int .i64 p, .int .i64 s, .slice A d.length c]] w fun e w' => e = .returned (.bool (decide (MayS p s d))) ∧ Below w.heap.size w w' := by
  by_cases hM : MayS p s d
  all_goals
    have HM := Lib.hid hM
    have hr1 := hr.alloc hB (.cells #[.int .i64 p, .int .i64 s, .slice A d.length c] 24)
    clear hM
    go_enter Try.func18, Try.ntmps18
    go_wp2_with (go_at_call 11; refine (bytes_any B p s A c d _ hr1 (by simp; omega)).mono ?_; rintro e w1 ⟨A1, c1, L1, er, rfl, hL, her, _, _, _, hb⟩; (first | rw [if_pos HM.out] at her | rw [if_neg HM.out] at her); subst her; have HB := Lib.hid (((Below.refl w.heap.size w).alloc (Nat.le_refl _) _).trans (hb.mono (by simp))); clear hL hb)
    go_ret
    exact ⟨by simp [HM.out], HB.out⟩
end Go.Proofs.Ytfjijpejoocngaa
