/- Package path: which letters may be, and names: the landed functions' contracts. -/
import Derived.Test.YtohiabkjbieflaaProg
import Derived.Test.YtohiabkjbieflaaShelf
import Derived.Test.YtohiabkjbieflaaPaM
import Derived.WalkKit
import Derived.Lib.Hide
import Derived.LoopTactic
import Derived.Deep.LoopGhost
import Derived.Laws.RangeAny
import Derived.Laws.Runes
import Derived.Laws.Strings3
import Derived.Below
import Derived.WalkMore
import Derived.BigQuiet
namespace Go.Proofs.Ytohiabkjbieflaa
open Go.RowKit Go.Lib

def lsep : ByteArray := ⟨#[46, 95, 45]⟩
theorem lsep_low : ∀ b ∈ lsep.data.toList, b.toNat < 128 := by decide

theorem idx_none : ∀ (l : List UInt8) (c : UInt8), (∀ b ∈ l, b ≠ c) → indexByte l c = -1
  | [], _, _ => rfl
  | b :: l, c, h => by
    have hb : (b == c) = false := by simpa using h b (by simp)
    rw [indexByte, hb, idx_none l c fun x hx => h x (by simp [hx])]
    rfl
theorem idx_none_of (s : ByteArray) (x : Nat) (h1 : 128 ≤ x) (h2 : x < 256) (hs : ∀ b ∈ s.data.toList, b.toNat < 128) : indexByte s.data.toList (x : Int).toNat.toUInt8 = -1 :=
  idx_none _ _ fun b hb e => by
    have h := hs b hb
    rw [e] at h
    simp at h
    omega
/-- A rune that is no byte of ASCII stands nowhere in the three. -/
theorem lsep_next (w : World) (pos : Nat) (ty : TypeId) (h : pos < 3) : (Instr.next (.pointer (some ⟨w.heap.size, 0, none⟩)) true ty).run Try.prog (w.iter lsep pos) = .ok (.tuple #[.bool true, .int .i64 pos, .int .i32 (lsep[pos]'h).toNat]) (w.iter lsep (pos + 1)) :=
  run_next_ascii w lsep pos ty h (lsep_low _ (by rw [Array.mem_toList_iff]; exact Array.getElem_mem (xs := lsep.data) h))
set_option maxRecDepth 100000 in
theorem idx_error (w : World) : Calls Try.prog 41 #[.string lsep, .int .i32 65533] w fun e w' => e = .returned (.int .i64 (-1)) ∧ Below w.heap.size w w' := by
  go_enter Try.func41, Try.ntmps41
  go_wp2_with fail
  go_loopw [5, 6] (fun _ _ w' => ∃ pos, w' = w.iter lsep pos) (fun _ _ w' => 3 - w'.iterPos w.heap.size)
  case atStart => exact ⟨0, rfl⟩
  case round =>
    obtain ⟨pos, rfl⟩ := hrel
    by_cases hp : pos < 3
    · have hnx : ∀ ty, (Instr.next (.pointer (some ⟨w.heap.size, 0, none⟩)) true ty).run Try.prog (w.iter lsep pos) = _ := fun ty => lsep_next w pos ty hp
      have hlow : (((lsep[pos]'hp).toNat : Int) == 65533) = false := by
        have := (lsep[pos]'hp).toNat_lt
        simp
        omega
      go_wp2
      go_roundw
      case rel => exact ⟨pos + 1, rfl⟩
      case measure =>
        simp
        omega
    · have hnx : ∀ ty, (Instr.next (.pointer (some ⟨w.heap.size, 0, none⟩)) true ty).run Try.prog (w.iter lsep pos) = _ := fun ty => run_next_end w lsep pos ty hp
      go_wp2
      go_ret
      exact ⟨rfl, (Below.refl _ _).alloc (Nat.le_refl _) _⟩
set_option maxRecDepth 100000 in
theorem idx_high (r : Int) (h0 : 128 ≤ r) (h1 : r ≤ 2147483647) (w : World) : Calls Try.prog 41 #[.string lsep, .int .i32 r] w fun e w' => e = .returned (.int .i64 (-1)) ∧ Below w.heap.size w w' := by
  by_cases he : r = 65533
  · subst he
    exact idx_error w
  · have e1 : decide (r < 128) = false := by simp; omega
    have e2 : decide (0 ≤ r) = true := by simp; omega
    have e3 : (r == 65533) = false := by simpa using he
    have ne : ¬ (r = 65533) := he
    have n1 : ¬ (r < 128) := by omega
    by_cases hv : Lib.validRune r = true
    · have hv2 : Utf8.valid r = true := by rw [validRune_eq]; exact hv
      obtain ⟨f2, f4, fl⟩ := encode_facts r hv2 h0
      obtain ⟨rs, hrs⟩ : ∃ rs, Utf8.encode r = rs := ⟨_, rfl⟩
      rw [hrs] at f2 f4 fl
      obtain ⟨n, hn⟩ : ∃ n, rs.size = n + 1 := ⟨rs.size - 1, by omega⟩
      have hb : ∃ h : n < rs.size, 128 ≤ (rs[n]'h).toNat := by
        have h := fl (by omega)
        have e : rs.size - 1 = n := by omega
        refine ⟨by omega, ?_⟩
        simpa only [e] using h
      clear fl
      have hn3 : n = 1 ∨ n = 2 ∨ n = 3 := by omega
      have hns : (rs.size : Int) = n + 1 := by omega
      have hcv : ∀ w : World, (convert 21 9 (.int .i32 r)).run Try.prog w = .ok (.string rs) w := fun w => by
        rw [run_convert_int_string w 21 9 .i32 r (by kernel_rfl) Try.underlying9, hrs]
      clear hv2
      go_enter Try.func41, Try.ntmps41
      go_wp2_with (first
        | (go_at_call 43; refine (Try.utf8_ValidRune r _).mono ?_; rintro e w1 ⟨rfl, rfl⟩)
        | fail)
      go_step3
      go_wp2_with fail
      go_loopw [9, 10] (fun v9 v10 w' => v9 = .int .i64 n ∧ v10 = .int .i64 0 ∧ w' = w1) (fun _ _ _ => 0)
      case atStart => exact ⟨rfl, rfl, rfl⟩
      case round =>
        obtain ⟨rfl, rfl, rfl⟩ := hrel
        rcases hn3 with rfl | rfl | rfl
        · obtain ⟨hlt, hb⟩ := hb
          obtain ⟨x, hx⟩ : ∃ x, (rs[1]'hlt).toNat = x := ⟨_, rfl⟩
          have hx2 : x < 256 := by rw [← hx]; exact (rs[1]'hlt).toNat_lt
          rw [hx] at hb
          have hi1 : ∀ w, (Instr.index 9 (.string lsep) (.int .i64 (1 : Nat))).run Try.prog w = .ok (.int .u8 95) w := fun w => by kernel_rfl
          have hi2 : ∀ w, (Instr.index 9 (.string rs) (.int .i64 (1 : Nat))).run Try.prog w = .ok (.int .u8 x) w := fun w => by
            rw [run_index_string w 9 rs .i64 (1 : Nat) Try.underlying9, dif_pos ⟨by omega, by omega⟩, ← hx]
            rfl
          have hlv : ((lsep[1]'(by decide)).toNat : Int) = 95 := by decide
          have hne : (((lsep[1]'(by decide)).toNat : Int) == (x : Int)) = false := by rw [hlv]; simp; omega
          have hne2 : ¬ (((lsep[1]'(by decide)).toNat : Int) = (x : Int)) := by rw [hlv]; omega
          go_wp2_with fail
          go_step3
          go_wp2_with fail
          go_quiet (fail)
          go_wp2_with fail
          have hs1 : ∀ w, (Instr.slice 9 (.string lsep) (some (.int .i64 (IntKind.i64.wrap 2))) none none).run Try.prog w = .ok (.string ⟨#[45]⟩) w := fun w => by kernel_rfl
          have hib : ∀ w, Calls Try.prog 42 #[.string ⟨#[45]⟩, .int .u8 x] w fun e w' => e = .returned (.int .i64 (-1)) ∧ w' = w := fun w => by
            have h := Try.strings_IndexByte ⟨#[45]⟩ (x : Int) w
            rw [idx_none_of _ x hb hx2 (by decide)] at h
            exact h
          go_quiet ((go_at_call 42; refine (hib _).mono ?_; rintro e w2 ⟨rfl, rfl⟩; exact ⟨rfl, _, rfl⟩))
          go_wp2_with fail
          simp +zetaDelta only [Exit.inBlock, Exit.then, Exit.noGoto]
          go_ret
          exact ⟨rfl, ⟨rfl, rfl, rfl, Nat.le_refl _, fun _ _ => rfl⟩⟩
        · obtain ⟨hlt, hb⟩ := hb
          obtain ⟨x, hx⟩ : ∃ x, (rs[2]'hlt).toNat = x := ⟨_, rfl⟩
          have hx2 : x < 256 := by rw [← hx]; exact (rs[2]'hlt).toNat_lt
          rw [hx] at hb
          have hi1 : ∀ w, (Instr.index 9 (.string lsep) (.int .i64 (2 : Nat))).run Try.prog w = .ok (.int .u8 45) w := fun w => by kernel_rfl
          have hi2 : ∀ w, (Instr.index 9 (.string rs) (.int .i64 (2 : Nat))).run Try.prog w = .ok (.int .u8 x) w := fun w => by
            rw [run_index_string w 9 rs .i64 (2 : Nat) Try.underlying9, dif_pos ⟨by omega, by omega⟩, ← hx]
            rfl
          have hlv : ((lsep[2]'(by decide)).toNat : Int) = 45 := by decide
          have hne : (((lsep[2]'(by decide)).toNat : Int) == (x : Int)) = false := by rw [hlv]; simp; omega
          have hne2 : ¬ (((lsep[2]'(by decide)).toNat : Int) = (x : Int)) := by rw [hlv]; omega
          go_wp2_with fail
          go_step3
          go_wp2_with fail
          go_quiet (fail)
          go_wp2_with fail
          have hs1 : ∀ w, (Instr.slice 9 (.string lsep) (some (.int .i64 (IntKind.i64.wrap 3))) none none).run Try.prog w = .ok (.string ⟨#[]⟩) w := fun w => by kernel_rfl
          have hib : ∀ w, Calls Try.prog 42 #[.string ⟨#[]⟩, .int .u8 x] w fun e w' => e = .returned (.int .i64 (-1)) ∧ w' = w := fun w => by
            have h := Try.strings_IndexByte ⟨#[]⟩ (x : Int) w
            rw [idx_none_of _ x hb hx2 (by decide)] at h
            exact h
          go_quiet ((go_at_call 42; refine (hib _).mono ?_; rintro e w2 ⟨rfl, rfl⟩; exact ⟨rfl, _, rfl⟩))
          go_wp2_with fail
          simp +zetaDelta only [Exit.inBlock, Exit.then, Exit.noGoto]
          go_ret
          exact ⟨rfl, ⟨rfl, rfl, rfl, Nat.le_refl _, fun _ _ => rfl⟩⟩
        · go_wp2_with fail
          rw [Exit.noGoto_ret]
          go_ret
          exact ⟨rfl, Below.refl _ _⟩
    · have hv2 : Lib.validRune r = false := by simpa using hv
      go_enter Try.func41, Try.ntmps41
      go_wp2_with (first
        | (go_at_call 43; refine (Try.utf8_ValidRune r _).mono ?_; rintro e w1 ⟨rfl, rfl⟩; rw [hv2])
        | fail)
      go_ret
      exact ⟨rfl, Below.refl _ _⟩
def letrI (r : Int) : Bool := decide (97 ≤ r ∧ r ≤ 122 ∨ 48 ≤ r ∧ r ≤ 57 ∨ r = 46 ∨ r = 95 ∨ r = 45)
theorem lsep_idx : ∀ n : Fin 128, decide (0 ≤ indexByte lsep.data.toList (n.val : Int).toNat.toUInt8) = decide ((n.val : Int) = 46 ∨ (n.val : Int) = 95 ∨ (n.val : Int) = 45) := by decide
theorem contains_low (r : Int) (h0 : 0 ≤ r) (h : r < 128) (w : World) : Calls Try.prog 40 #[.string lsep, .int .i32 r] w fun e w' => e = .returned (.bool (decide (r = 46 ∨ r = 95 ∨ r = 45))) ∧ w = w' := by
  refine (Try.strings_ContainsRune_ascii lsep r w h0 h).mono ?_
  rintro e w' ⟨rfl, rfl⟩
  have e := lsep_idx ⟨r.toNat, by omega⟩
  have e2 : ((r.toNat : Nat) : Int) = r := by omega
  simp only [e2] at e
  rw [e]
  exact ⟨rfl, rfl⟩
theorem contains_any (r : Int) (h0 : 0 ≤ r) (h1 : r ≤ 2147483647) (w : World) : Calls Try.prog 40 #[.string lsep, .int .i32 r] w fun e w' => e = .returned (.bool (decide (r = 46 ∨ r = 95 ∨ r = 45))) ∧ Below w.heap.size w w' := by
  by_cases h : r < 128
  · refine (contains_low r h0 h w).mono ?_
    rintro e w' ⟨rfl, rfl⟩
    exact ⟨rfl, Below.refl _ _⟩
  · have e : decide (r = 46 ∨ r = 95 ∨ r = 45) = false := decide_eq_false (by omega)
    rw [e]
    go_enter Try.func40, Try.ntmps40
    go_wp2_with (first
      | (go_at_call 41; refine (idx_high r (by omega) h1 _).mono ?_; rintro e w1 ⟨rfl, hb⟩)
      | fail)
    go_ret
    exact ⟨rfl, hb⟩

theorem letter_of {R : World → World → Prop} (hR : ∀ w, R w w) (r : Int) (hc : ∀ w, Calls Try.prog 40 #[.string lsep, .int .i32 r] w fun e w' => e = .returned (.bool (decide (r = 46 ∨ r = 95 ∨ r = 45))) ∧ R w w') (w : World) : Calls Try.prog 39 #[.int .i32 r] w fun e w' => e = .returned (.bool (letrI r)) ∧ R w w' := by
  have e5 : (decide (97 ≤ r) && decide (r ≤ 122) || decide (48 ≤ r) && decide (r ≤ 57) || decide (r = 46 ∨ r = 95 ∨ r = 45)) = letrI r := by
    unfold letrI
    rw [Bool.eq_iff_iff]
    simp
    omega
  by_cases a1 : 97 ≤ r <;> by_cases a2 : r ≤ 122 <;> by_cases a3 : 48 ≤ r <;> by_cases a4 : r ≤ 57 <;> first | (exfalso; omega) | skip
  all_goals
    (first | have b1 : decide (97 ≤ r) = true := decide_eq_true a1 | have b1 : decide (97 ≤ r) = false := decide_eq_false a1)
    (first | have b2 : decide (r ≤ 122) = true := decide_eq_true a2 | have b2 : decide (r ≤ 122) = false := decide_eq_false a2)
    (first | have b3 : decide (48 ≤ r) = true := decide_eq_true a3 | have b3 : decide (48 ≤ r) = false := decide_eq_false a3)
    (first | have b4 : decide (r ≤ 57) = true := decide_eq_true a4 | have b4 : decide (r ≤ 57) = false := decide_eq_false a4)
    rw [← e5, b1, b2, b3, b4]
    clear e5
    go_enter Try.func39, Try.ntmps39
    go_wp2_with (first
      | (go_at_call 40; refine (hc _).mono ?_; rintro e w1 ⟨rfl, hb⟩)
      | fail)
    go_ret
    refine ⟨by simp, ?_⟩
    first | exact hR _ | exact hb
theorem letter_any (r : Int) (h0 : 0 ≤ r) (h1 : r ≤ 2147483647) (w : World) : Calls Try.prog 39 #[.int .i32 r] w fun e w' => e = .returned (.bool (letrI r)) ∧ Below w.heap.size w w' := letter_of (R := fun w w' => Below w.heap.size w w') (fun _ => Below.refl _ _) r (contains_any r h0 h1) w
theorem letter_low (r : Int) (h0 : 0 ≤ r) (h1 : r < 128) (w : World) : Calls Try.prog 39 #[.int .i32 r] w fun e w' => e = .returned (.bool (letrI r)) ∧ w = w' := letter_of (R := fun w w' => w = w') (fun _ => rfl) r (contains_low r h0 h1) w
end Go.Proofs.Ytohiabkjbieflaa
