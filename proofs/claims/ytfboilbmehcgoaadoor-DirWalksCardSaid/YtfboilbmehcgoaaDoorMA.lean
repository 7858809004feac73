/- Paths as lists of bytes: which names may be, a text's pieces between slashes, joined again. -/
import Derived.Lib.SplitLaws
import Derived.Test.YtfboilbmehcgoaaDoorProg
import Derived.Test.YtfboilbmehcgoaaDoorShelf
import Derived.WalkKit
import Derived.Lib.Hide
import Derived.LoopTactic
import Derived.Deep.LoopGhost
import Derived.Laws.RangeAny
import Derived.Laws.Runes
import Derived.Laws.Strings3
import Derived.Below
import Derived.WalkMore
import Derived.BigQuiet
import Derived.Deep.OwnRows
import Derived.Laws.Concat
import Derived.Deep.RegionHeld3
import Derived.Deep.Cut
namespace Go.Proofs.YtfboilbmehcgoaaDoor
open Go.Lib

def letB (b : UInt8) : Bool := decide (97 ≤ b.toNat ∧ b.toNat ≤ 122 ∨ 48 ≤ b.toNat ∧ b.toNat ≤ 57 ∨ b.toNat = 46 ∨ b.toNat = 95 ∨ b.toNat = 45)
def mayL (l : List UInt8) : Bool := decide (1 ≤ l.length ∧ l.length ≤ 8 ∧ l ≠ [46] ∧ l ≠ [46, 46]) && l.all letB

def pcs : List UInt8 → List (List UInt8)
  | [] => [[]]
  | b :: l => if b = 47 then [] :: pcs l else (b :: (pcs l).headD []) :: (pcs l).tail

theorem pcs_ne : ∀ l : List UInt8, pcs l ≠ []
  | [] => by simp [pcs]
  | b :: l => by unfold pcs; split <;> simp

theorem pcs_cons (b : UInt8) (l : List UInt8) (h : b ≠ 47) {p : List UInt8} {t : List (List UInt8)} (e : pcs l = p :: t) : pcs (b :: l) = (b :: p) :: t := by
  rw [pcs, if_neg h, e]
  rfl
theorem pcs_slash (l : List UInt8) : pcs (47 :: l) = [] :: pcs l := by rw [pcs, if_pos rfl]

def joinL (l : List (List UInt8)) : List UInt8 := l.flatMap fun n => 47 :: n

theorem joinL_nil : joinL [] = [] := rfl
theorem joinL_cons (a : List UInt8) (l : List (List UInt8)) : joinL (a :: l) = 47 :: a ++ joinL l := by simp [joinL]
theorem joinL_append (a b : List (List UInt8)) : joinL (a ++ b) = joinL a ++ joinL b := by simp [joinL]
theorem joinL_snoc (a : List (List UInt8)) (n : List UInt8) : joinL (a ++ [n]) = joinL a ++ 47 :: n := by simp [joinL]

theorem join_pcs : ∀ l : List UInt8, joinL (pcs l) = 47 :: l
  | [] => rfl
  | b :: l => by
    have ih := join_pcs l
    by_cases h : b = 47
    · subst h
      rw [pcs_slash, joinL_cons, ih]
      rfl
    · cases e : pcs l with
      | nil => exact absurd e (pcs_ne l)
      | cons p t =>
        rw [pcs_cons b l h e, joinL_cons]
        rw [e, joinL_cons] at ih
        simp only [List.cons_append, List.cons.injEq, true_and] at ih ⊢
        exact ih

theorem pcs_plain : ∀ n : List UInt8, 47 ∉ n → pcs n = [n]
  | [], _ => rfl
  | b :: l, h => by
    have hb : b ≠ 47 := fun e => h (by simp [e])
    exact pcs_cons b l hb (pcs_plain l (fun e => h (by simp [e])))

theorem pcs_append : ∀ (a n : List UInt8), 47 ∉ n → pcs (a ++ 47 :: n) = pcs a ++ [n]
  | [], n, h => by rw [List.nil_append, pcs_slash, pcs_plain n h]; rfl
  | b :: l, n, h => by
    have ih := pcs_append l n h
    by_cases hb : b = 47
    · subst hb
      rw [List.cons_append, pcs_slash, pcs_slash, ih]
      rfl
    · cases e : pcs l with
      | nil => exact absurd e (pcs_ne l)
      | cons p t =>
        rw [e] at ih
        rw [List.cons_append, pcs_cons b _ hb (show _ = p :: (t ++ [n]) from ih), pcs_cons b l hb e]
        rfl

theorem split_nil : split [] [47] = [[]] := by decide
theorem split_slash (l : List UInt8) : split (47 :: l) [47] = [] :: split l [47] := by
  have hix : index (47 :: l) [47] = ((0 : Nat) : Int) := by rw [index]; simp [List.isPrefixOf]
  unfold split
  rw [count_cons_eq, Nat.add_comm]
  rw [splitK, hix]
  simp
theorem split_other (b : UInt8) (l : List UInt8) (h : b ≠ 47) {p : List UInt8} {t : List (List UInt8)} (e : split l [47] = p :: t) : split (b :: l) [47] = (b :: p) :: t := by
  have hp : ([47] : List UInt8).isPrefixOf (b :: l) = false := by simp [List.isPrefixOf, Ne.symm h]
  have hix : index (b :: l) [47] = if index l [47] == -1 then -1 else index l [47] + 1 := by rw [index, hp]; simp
  unfold split at e ⊢
  rw [count_cons_ne b 47 l h]
  cases hc : count l [47] with
  | zero =>
    rw [hc, splitK] at e
    rw [splitK]
    cases e
    rfl
  | succ k =>
    rw [hc, splitK] at e
    rw [splitK, hix]
    by_cases hm : index l [47] = -1
    · rw [count_miss hm] at hc; cases hc
    · have hge := index_ge l [47]
      obtain ⟨j, hj⟩ : ∃ j : Nat, index l [47] = j := ⟨(index l [47]).toNat, by omega⟩
      have n1 : ¬ (((j : Nat) : Int) == -1) = true := fun x => by have := beq_iff_eq.1 x; omega
      have n2 : ¬ (((j : Nat) : Int) + 1 == -1) = true := fun x => by have := beq_iff_eq.1 x; omega
      rw [hj, if_neg n1] at e
      rw [hj, if_neg n1, if_neg n2]
      have e1 : (((j : Nat) : Int) + 1).toNat = j + 1 := by omega
      have e2 : ((j : Nat) : Int).toNat = j := by omega
      rw [e2] at e
      rw [e1]
      simp only [Nat.add_zero, List.length_cons, List.length_nil, Nat.zero_add, List.take_succ_cons, List.drop_succ_cons] at e ⊢
      cases e
      rfl

theorem split_pcs : ∀ l : List UInt8, split l [47] = pcs l
  | [] => split_nil
  | b :: l => by
    have ih := split_pcs l
    by_cases h : b = 47
    · subst h
      rw [split_slash, pcs_slash, ih]
    · cases e : pcs l with
      | nil => exact absurd e (pcs_ne l)
      | cons p t => rw [pcs_cons b l h e, split_other b l h (ih.trans e)]

/-- A path's names, if it is one. -/
def splitL (s : List UInt8) : Option (List (List UInt8)) :=
  if 60 < s.length ∨ s.head? ≠ some 47 then none else if s = [47] then some [] else if (pcs s.tail).all mayL then some (pcs s.tail) else none
/-- Names' path (nothing: it is none). -/
def joinP (l : List (List UInt8)) : List UInt8 := if l = [] then [47] else if l.all mayL ∧ (joinL l).length ≤ 60 then joinL l else []

theorem splitL_some {s : List UInt8} {l : List (List UInt8)} (h : splitL s = some l) : s.length ≤ 60 ∧ (s = [47] ∧ l = [] ∨ ∃ t, s = 47 :: t ∧ t ≠ [] ∧ l = pcs t ∧ l.all mayL = true) := by
  unfold splitL at h
  split at h
  · cases h
  · rename_i h0
    have h1 : s.length ≤ 60 := by omega
    have h2 : s.head? = some 47 := by
      by_cases e : s.head? = some 47
      · exact e
      · exact absurd (.inr e) h0
    refine ⟨h1, ?_⟩
    split at h
    · rename_i e
      cases h
      exact .inl ⟨e, rfl⟩
    · rename_i e
      split at h
      · rename_i ha
        cases h
        cases s with
        | nil => cases h2
        | cons b t =>
          cases h2
          exact .inr ⟨t, rfl, fun e2 => e (by rw [e2]), rfl, ha⟩
      · cases h
theorem splitL_all {s : List UInt8} {l : List (List UInt8)} (h : splitL s = some l) : l.all mayL = true := by
  obtain ⟨_, ⟨_, rfl⟩ | ⟨t, _, _, _, ha⟩⟩ := splitL_some h
  · rfl
  · exact ha
theorem joinP_split {s : List UInt8} {l : List (List UInt8)} (h : splitL s = some l) : joinP l = s := by
  obtain ⟨hn, ⟨rfl, rfl⟩ | ⟨t, rfl, _, rfl, ha⟩⟩ := splitL_some h
  · rfl
  · unfold joinP
    rw [if_neg (pcs_ne t), join_pcs, if_pos ⟨ha, hn⟩]

theorem mayL_noslash {n : List UInt8} (h : mayL n = true) : 47 ∉ n := fun hm => by
  unfold mayL at h
  rw [Bool.and_eq_true] at h
  have := List.all_eq_true.1 h.2 47 hm
  revert this
  decide
theorem mayL_ne {n : List UInt8} (h : mayL n = true) : n ≠ [] := fun e => by
  subst e
  revert h
  decide
/-- The path with a name more. -/
def longer (s n : List UInt8) : List UInt8 := if s = [47] then 47 :: n else s ++ 47 :: n
theorem longer_some {s n : List UInt8} {l : List (List UInt8)} (h : splitL s = some l) (hn : mayL n = true) (hl : (longer s n).length ≤ 60) : splitL (longer s n) = some (l ++ [n]) := by
  have hs := mayL_noslash hn
  have hne := mayL_ne hn
  obtain ⟨_, ⟨rfl, rfl⟩ | ⟨t, rfl, ht, rfl, ha⟩⟩ := splitL_some h
  · rw [longer, if_pos rfl] at hl ⊢
    unfold splitL
    rw [if_neg (by simp at hl ⊢; omega), if_neg (by simp [hne]), List.tail_cons, pcs_plain n hs, if_pos (by simp [hn])]
    rfl
  · have e0 : (47 :: t) ≠ [47] := by simpa using ht
    rw [longer, if_neg e0] at hl ⊢
    unfold splitL
    rw [if_neg (by simp at hl ⊢; omega), if_neg (by simp), List.cons_append, List.tail_cons, pcs_append t n hs, if_pos (by rw [List.all_append, ha]; simp [hn])]
theorem splitL_long {s : List UInt8} (h : 60 < s.length) : splitL s = none := by
  unfold splitL
  rw [if_pos (.inl h)]
theorem longer_none {s n : List UInt8} (hs : s = [] ∨ (∃ l, splitL s = some l)) (h0 : 47 ∉ n) (hn : mayL n = false) (h1 : n ≠ []) : splitL (longer s n) = none := by
  by_cases hl : 60 < (longer s n).length
  · exact splitL_long hl
  · rcases hs with rfl | ⟨l, hs⟩
    · rw [longer, if_neg (by simp)] at hl ⊢
      unfold splitL
      rw [if_neg (by simp at hl ⊢; omega), if_neg (by simp [h1]), List.nil_append, List.tail_cons, pcs_plain n h0, if_neg (by simp [hn])]
    · obtain ⟨_, ⟨rfl, rfl⟩ | ⟨t, rfl, ht, rfl, ha⟩⟩ := splitL_some hs
      · rw [longer, if_pos rfl] at hl ⊢
        unfold splitL
        rw [if_neg (by simp at hl ⊢; omega), if_neg (by simp [h1]), List.tail_cons, pcs_plain n h0, if_neg (by simp [hn])]
      · have e0 : (47 :: t) ≠ [47] := by simpa using ht
        rw [longer, if_neg e0] at hl ⊢
        unfold splitL
        rw [if_neg (by simp at hl ⊢; omega), if_neg (by simp), List.cons_append, List.tail_cons, pcs_append t n h0, if_neg (by simp [hn])]
theorem joinP_nil : joinP [] = [47] := rfl
theorem joinP_snoc {l : List (List UInt8)} {n : List UInt8} : (joinL (l ++ [n])).length = (joinL l).length + 1 + n.length := by
  rw [joinL_snoc, List.length_append, List.length_cons]
  omega
end Go.Proofs.YtfboilbmehcgoaaDoor

/- Package path: which letters may be, and names: the landed functions' contracts. -/
namespace Go.Proofs.YtfboilbmehcgoaaDoor
open Go.RowKit Go.Lib

def lsep : ByteArray := ⟨#[46, 95, 45]⟩
theorem lsep_low : ∀ b ∈ lsep.data.toList, b.toNat < 128 := by decide

theorem idx_none : ∀ (l : List UInt8) (c : UInt8), (∀ b ∈ l, b ≠ c) → indexByte l c = -1
  | [], _, _ => rfl
  | b :: l, c, h => by
    have hb : (b == c) = false := by simpa using h b (by simp)
    rw [indexByte, hb, idx_none l c fun x hx => h x (by simp [hx])]
    rfl
theorem idx_none_of (s : ByteArray) (x : Nat) (h1 : 128 ≤ x) (h2 : x < 256) (hs : ∀ b ∈ s.data.toList, b.toNat < 128) : indexByte s.data.toList (x : Int).toNat.toUInt8 = -1 :=
  idx_none _ _ fun b hb e => by
    have h := hs b hb
    rw [e] at h
    simp at h
    omega
/-- A rune that is no byte of ASCII stands nowhere in the three. -/
theorem lsep_next (w : World) (pos : Nat) (ty : TypeId) (h : pos < 3) : (Instr.next (.pointer (some ⟨w.heap.size, 0, none⟩)) true ty).run Tryd.prog (w.iter lsep pos) = .ok (.tuple #[.bool true, .int .i64 pos, .int .i32 (lsep[pos]'h).toNat]) (w.iter lsep (pos + 1)) :=
  run_next_ascii w lsep pos ty h (lsep_low _ (by rw [Array.mem_toList_iff]; exact Array.getElem_mem (xs := lsep.data) h))
set_option maxRecDepth 100000 in
theorem idx_error (w : World) : Calls Tryd.prog 103 #[.string lsep, .int .i32 65533] w fun e w' => e = .returned (.int .i64 (-1)) ∧ Below w.heap.size w w' := by
  go_enter Tryd.func103, Tryd.ntmps103
  go_wp2_with fail
  go_loopw [5, 6] (fun _ _ w' => ∃ pos, w' = w.iter lsep pos) (fun _ _ w' => 3 - w'.iterPos w.heap.size)
  case atStart => exact ⟨0, rfl⟩
  case round =>
    obtain ⟨pos, rfl⟩ := hrel
    by_cases hp : pos < 3
    · have hnx : ∀ ty, (Instr.next (.pointer (some ⟨w.heap.size, 0, none⟩)) true ty).run Tryd.prog (w.iter lsep pos) = _ := fun ty => lsep_next w pos ty hp
      have hlow : (((lsep[pos]'hp).toNat : Int) == 65533) = false := by
        have := (lsep[pos]'hp).toNat_lt
        simp
        omega
      go_wp2
      go_roundw
      case rel => exact ⟨pos + 1, rfl⟩
      case measure =>
        simp
        omega
    · have hnx : ∀ ty, (Instr.next (.pointer (some ⟨w.heap.size, 0, none⟩)) true ty).run Tryd.prog (w.iter lsep pos) = _ := fun ty => run_next_end w lsep pos ty hp
      go_wp2
      go_ret
      exact ⟨rfl, (Below.refl _ _).alloc (Nat.le_refl _) _⟩
set_option maxRecDepth 100000 in
theorem idx_high (r : Int) (h0 : 128 ≤ r) (h1 : r ≤ 2147483647) (w : World) : Calls Tryd.prog 103 #[.string lsep, .int .i32 r] w fun e w' => e = .returned (.int .i64 (-1)) ∧ Below w.heap.size w w' := by
  by_cases he : r = 65533
  · subst he
    exact idx_error w
  · have e1 : decide (r < 128) = false := by simp; omega
    have e2 : decide (0 ≤ r) = true := by simp; omega
    have e3 : (r == 65533) = false := by simpa using he
    have ne : ¬ (r = 65533) := he
    have n1 : ¬ (r < 128) := by omega
    by_cases hv : Lib.validRune r = true
    · have hv2 : Utf8.valid r = true := by rw [validRune_eq]; exact hv
      obtain ⟨f2, f4, fl⟩ := encode_facts r hv2 h0
      obtain ⟨rs, hrs⟩ : ∃ rs, Utf8.encode r = rs := ⟨_, rfl⟩
      rw [hrs] at f2 f4 fl
      obtain ⟨n, hn⟩ : ∃ n, rs.size = n + 1 := ⟨rs.size - 1, by omega⟩
      have hb : ∃ h : n < rs.size, 128 ≤ (rs[n]'h).toNat := by
        have h := fl (by omega)
        have e : rs.size - 1 = n := by omega
        refine ⟨by omega, ?_⟩
        simpa only [e] using h
      clear fl
      have hn3 : n = 1 ∨ n = 2 ∨ n = 3 := by omega
      have hns : (rs.size : Int) = n + 1 := by omega
      have hcv : ∀ w : World, (convert 21 9 (.int .i32 r)).run Tryd.prog w = .ok (.string rs) w := fun w => by
        rw [run_convert_int_string w 21 9 .i32 r (by kernel_rfl) Tryd.underlying9, hrs]
      clear hv2
      go_enter Tryd.func103, Tryd.ntmps103
      go_wp2_with (first
        | (go_at_call 111; refine (Tryd.utf8_ValidRune r _).mono ?_; rintro e w1 ⟨rfl, rfl⟩)
        | fail)
      go_step3
      go_wp2_with fail
      go_loopw [9, 10] (fun v9 v10 w' => v9 = .int .i64 n ∧ v10 = .int .i64 0 ∧ w' = w1) (fun _ _ _ => 0)
      case atStart => exact ⟨rfl, rfl, rfl⟩
      case round =>
        obtain ⟨rfl, rfl, rfl⟩ := hrel
        rcases hn3 with rfl | rfl | rfl
        · obtain ⟨hlt, hb⟩ := hb
          obtain ⟨x, hx⟩ : ∃ x, (rs[1]'hlt).toNat = x := ⟨_, rfl⟩
          have hx2 : x < 256 := by rw [← hx]; exact (rs[1]'hlt).toNat_lt
          rw [hx] at hb
          have hi1 : ∀ w, (Instr.index 9 (.string lsep) (.int .i64 (1 : Nat))).run Tryd.prog w = .ok (.int .u8 95) w := fun w => by kernel_rfl
          have hi2 : ∀ w, (Instr.index 9 (.string rs) (.int .i64 (1 : Nat))).run Tryd.prog w = .ok (.int .u8 x) w := fun w => by
            rw [run_index_string w 9 rs .i64 (1 : Nat) Tryd.underlying9, dif_pos ⟨by omega, by omega⟩, ← hx]
            rfl
          have hlv : ((lsep[1]'(by decide)).toNat : Int) = 95 := by decide
          have hne : (((lsep[1]'(by decide)).toNat : Int) == (x : Int)) = false := by rw [hlv]; simp; omega
          have hne2 : ¬ (((lsep[1]'(by decide)).toNat : Int) = (x : Int)) := by rw [hlv]; omega
          go_wp2_with fail
          go_step3
          go_wp2_with fail
          go_quiet (fail)
          go_wp2_with fail
          have hs1 : ∀ w, (Instr.slice 9 (.string lsep) (some (.int .i64 (IntKind.i64.wrap 2))) none none).run Tryd.prog w = .ok (.string ⟨#[45]⟩) w := fun w => by kernel_rfl
          have hib : ∀ w, Calls Tryd.prog 110 #[.string ⟨#[45]⟩, .int .u8 x] w fun e w' => e = .returned (.int .i64 (-1)) ∧ w' = w := fun w => by
            have h := Tryd.strings_IndexByte ⟨#[45]⟩ (x : Int) w
            rw [idx_none_of _ x hb hx2 (by decide)] at h
            exact h
          go_quiet ((go_at_call 110; refine (hib _).mono ?_; rintro e w2 ⟨rfl, rfl⟩; exact ⟨rfl, _, rfl⟩))
          go_wp2_with fail
          simp +zetaDelta only [Exit.inBlock, Exit.then, Exit.noGoto]
          go_ret
          exact ⟨rfl, ⟨rfl, rfl, rfl, Nat.le_refl _, fun _ _ => rfl⟩⟩
        · obtain ⟨hlt, hb⟩ := hb
          obtain ⟨x, hx⟩ : ∃ x, (rs[2]'hlt).toNat = x := ⟨_, rfl⟩
          have hx2 : x < 256 := by rw [← hx]; exact (rs[2]'hlt).toNat_lt
          rw [hx] at hb
          have hi1 : ∀ w, (Instr.index 9 (.string lsep) (.int .i64 (2 : Nat))).run Tryd.prog w = .ok (.int .u8 45) w := fun w => by kernel_rfl
          have hi2 : ∀ w, (Instr.index 9 (.string rs) (.int .i64 (2 : Nat))).run Tryd.prog w = .ok (.int .u8 x) w := fun w => by
            rw [run_index_string w 9 rs .i64 (2 : Nat) Tryd.underlying9, dif_pos ⟨by omega, by omega⟩, ← hx]
            rfl
          have hlv : ((lsep[2]'(by decide)).toNat : Int) = 45 := by decide
          have hne : (((lsep[2]'(by decide)).toNat : Int) == (x : Int)) = false := by rw [hlv]; simp; omega
          have hne2 : ¬ (((lsep[2]'(by decide)).toNat : Int) = (x : Int)) := by rw [hlv]; omega
          go_wp2_with fail
          go_step3
          go_wp2_with fail
          go_quiet (fail)
          go_wp2_with fail
          have hs1 : ∀ w, (Instr.slice 9 (.string lsep) (some (.int .i64 (IntKind.i64.wrap 3))) none none).run Tryd.prog w = .ok (.string ⟨#[]⟩) w := fun w => by kernel_rfl
          have hib : ∀ w, Calls Tryd.prog 110 #[.string ⟨#[]⟩, .int .u8 x] w fun e w' => e = .returned (.int .i64 (-1)) ∧ w' = w := fun w => by
            have h := Tryd.strings_IndexByte ⟨#[]⟩ (x : Int) w
            rw [idx_none_of _ x hb hx2 (by decide)] at h
            exact h
          go_quiet ((go_at_call 110; refine (hib _).mono ?_; rintro e w2 ⟨rfl, rfl⟩; exact ⟨rfl, _, rfl⟩))
          go_wp2_with fail
          simp +zetaDelta only [Exit.inBlock, Exit.then, Exit.noGoto]
          go_ret
          exact ⟨rfl, ⟨rfl, rfl, rfl, Nat.le_refl _, fun _ _ => rfl⟩⟩
        · go_wp2_with fail
          rw [Exit.noGoto_ret]
          go_ret
          exact ⟨rfl, Below.refl _ _⟩
    · have hv2 : Lib.validRune r = false := by simpa using hv
      go_enter Tryd.func103, Tryd.ntmps103
      go_wp2_with (first
        | (go_at_call 111; refine (Tryd.utf8_ValidRune r _).mono ?_; rintro e w1 ⟨rfl, rfl⟩; rw [hv2])
        | fail)
      go_ret
      exact ⟨rfl, Below.refl _ _⟩
def letrI (r : Int) : Bool := decide (97 ≤ r ∧ r ≤ 122 ∨ 48 ≤ r ∧ r ≤ 57 ∨ r = 46 ∨ r = 95 ∨ r = 45)
theorem lsep_idx : ∀ n : Fin 128, decide (0 ≤ indexByte lsep.data.toList (n.val : Int).toNat.toUInt8) = decide ((n.val : Int) = 46 ∨ (n.val : Int) = 95 ∨ (n.val : Int) = 45) := by decide
theorem contains_low (r : Int) (h0 : 0 ≤ r) (h : r < 128) (w : World) : Calls Tryd.prog 92 #[.string lsep, .int .i32 r] w fun e w' => e = .returned (.bool (decide (r = 46 ∨ r = 95 ∨ r = 45))) ∧ w = w' := by
  refine (Tryd.strings_ContainsRune_ascii lsep r w h0 h).mono ?_
  rintro e w' ⟨rfl, rfl⟩
  have e := lsep_idx ⟨r.toNat, by omega⟩
  have e2 : ((r.toNat : Nat) : Int) = r := by omega
  simp only [e2] at e
  rw [e]
  exact ⟨rfl, rfl⟩
theorem contains_any (r : Int) (h0 : 0 ≤ r) (h1 : r ≤ 2147483647) (w : World) : Calls Tryd.prog 92 #[.string lsep, .int .i32 r] w fun e w' => e = .returned (.bool (decide (r = 46 ∨ r = 95 ∨ r = 45))) ∧ Below w.heap.size w w' := by
  by_cases h : r < 128
  · refine (contains_low r h0 h w).mono ?_
    rintro e w' ⟨rfl, rfl⟩
    exact ⟨rfl, Below.refl _ _⟩
  · have e : decide (r = 46 ∨ r = 95 ∨ r = 45) = false := decide_eq_false (by omega)
    rw [e]
    go_enter Tryd.func92, Tryd.ntmps92
    go_wp2_with (first
      | (go_at_call 103; refine (idx_high r (by omega) h1 _).mono ?_; rintro e w1 ⟨rfl, hb⟩)
      | fail)
    go_ret
    exact ⟨rfl, hb⟩

theorem letter_of {R : World → World → Prop} (hR : ∀ w, R w w) (r : Int) (hc : ∀ w, Calls Tryd.prog 92 #[.string lsep, .int .i32 r] w fun e w' => e = .returned (.bool (decide (r = 46 ∨ r = 95 ∨ r = 45))) ∧ R w w') (w : World) : Calls Tryd.prog 75 #[.int .i32 r] w fun e w' => e = .returned (.bool (letrI r)) ∧ R w w' := by
  have e5 : (decide (97 ≤ r) && decide (r ≤ 122) || decide (48 ≤ r) && decide (r ≤ 57) || decide (r = 46 ∨ r = 95 ∨ r = 45)) = letrI r := by
    unfold letrI
    rw [Bool.eq_iff_iff]
    simp
    omega
  by_cases a1 : 97 ≤ r <;> by_cases a2 : r ≤ 122 <;> by_cases a3 : 48 ≤ r <;> by_cases a4 : r ≤ 57 <;> first | (exfalso; omega) | skip
  all_goals
    (first | have b1 : decide (97 ≤ r) = true := decide_eq_true a1 | have b1 : decide (97 ≤ r) = false := decide_eq_false a1)
    (first | have b2 : decide (r ≤ 122) = true := decide_eq_true a2 | have b2 : decide (r ≤ 122) = false := decide_eq_false a2)
    (first | have b3 : decide (48 ≤ r) = true := decide_eq_true a3 | have b3 : decide (48 ≤ r) = false := decide_eq_false a3)
    (first | have b4 : decide (r ≤ 57) = true := decide_eq_true a4 | have b4 : decide (r ≤ 57) = false := decide_eq_false a4)
    rw [← e5, b1, b2, b3, b4]
    clear e5
    go_enter Tryd.func75, Tryd.ntmps75
    go_wp2_with (first
      | (go_at_call 92; refine (hc _).mono ?_; rintro e w1 ⟨rfl, hb⟩)
      | fail)
    go_ret
    refine ⟨by simp, ?_⟩
    first | exact hR _ | exact hb
theorem letter_any (r : Int) (h0 : 0 ≤ r) (h1 : r ≤ 2147483647) (w : World) : Calls Tryd.prog 75 #[.int .i32 r] w fun e w' => e = .returned (.bool (letrI r)) ∧ Below w.heap.size w w' := letter_of (R := fun w w' => Below w.heap.size w w') (fun _ => Below.refl _ _) r (contains_any r h0 h1) w
theorem letter_low (r : Int) (h0 : 0 ≤ r) (h1 : r < 128) (w : World) : Calls Tryd.prog 75 #[.int .i32 r] w fun e w' => e = .returned (.bool (letrI r)) ∧ w = w' := letter_of (R := fun w w' => w = w') (fun _ => rfl) r (contains_low r h0 h1) w
end Go.Proofs.YtfboilbmehcgoaaDoor

/- Package path: May, by which bytes a name has. -/
namespace Go.Proofs.YtfboilbmehcgoaaDoor
open Go.RowKit Go.Lib

theorem let_of (b : UInt8) : letrI (b.toNat : Int) = letB b := by
  unfold letrI letB
  congr 1
  apply propext
  omega
theorem let_high (r : Int) (h : 128 ≤ r) : letrI r = false := decide_eq_false (by omega)
theorem letB_high (b : UInt8) (h : 128 ≤ b.toNat) : letB b = false := decide_eq_false (by omega)

theorem dot_eq (s : ByteArray) (l : List UInt8) : (s.toList == l) = decide (s.data.toList = l) := by
  rw [Lib.toList_data]
  by_cases h : s.data.toList = l
  · rw [decide_eq_true h]; simp [h]
  · rw [decide_eq_false h]; simpa using h

theorem mayL_short {s : ByteArray} (h : (s.size : Int) < 1) : mayL s.data.toList = false := by
  have hsz : s.size = s.data.toList.length := Lib.size_eq s
  unfold mayL; rw [decide_eq_false (by omega)]; rfl
theorem mayL_long {s : ByteArray} (h : (8 : Int) < s.size) : mayL s.data.toList = false := by
  have hsz : s.size = s.data.toList.length := Lib.size_eq s
  unfold mayL; rw [decide_eq_false (by omega)]; rfl
theorem mayL_all {s : ByteArray} (h1 : ¬ (s.size : Int) < 1) (h2 : ¬ (8 : Int) < s.size) (h3 : s.data.toList ≠ [46]) (h4 : s.data.toList ≠ [46, 46]) : mayL s.data.toList = s.data.toList.all letB := by
  have hsz : s.size = s.data.toList.length := Lib.size_eq s
  unfold mayL
  rw [decide_eq_true ⟨by omega, by omega, h3, h4⟩, Bool.true_and]
theorem all_until {s : ByteArray} {pos : Nat} (h : pos < s.size) (hb : letB (s[pos]'h) = false) : s.data.toList.all letB = false := by
  rw [List.all_eq_false]
  refine ⟨s[pos]'h, ?_, by simp [hb]⟩
  rw [Array.mem_toList_iff]
  exact Array.getElem_mem (xs := s.data) h
theorem all_done {s : ByteArray} (h : ∀ i (hi : i < s.size), letB (s[i]'hi) = true) : s.data.toList.all letB = true := by
  rw [List.all_eq_true]
  intro b hb
  obtain ⟨i, hi, rfl⟩ := List.getElem_of_mem hb
  exact h i (by rw [Array.length_toList] at hi; exact hi)
set_option maxRecDepth 100000 in
theorem may_any (s : ByteArray) (w : World) : Calls Tryd.prog 61 #[.string s] w fun e w' => e = .returned (.bool (mayL s.data.toList)) ∧ Below w.heap.size w w' := by
  by_cases h1 : (s.size : Int) < 1
  · rw [mayL_short h1]
    have d1 : decide ((s.size : Int) < 1) = true := decide_eq_true h1
    go_enter Tryd.func61, Tryd.ntmps61
    go_wp2_with fail
    go_ret
    exact ⟨rfl, Below.refl _ _⟩
  have d1 : decide ((s.size : Int) < 1) = false := decide_eq_false h1
  by_cases h2 : (8 : Int) < s.size
  · rw [mayL_long h2]
    have d2 : decide ((8 : Int) < s.size) = true := decide_eq_true h2
    go_enter Tryd.func61, Tryd.ntmps61
    go_wp2_with fail
    go_ret
    exact ⟨rfl, Below.refl _ _⟩
  have d2 : decide ((8 : Int) < s.size) = false := decide_eq_false h2
  by_cases h3 : s.data.toList = [46]
  · have e : mayL s.data.toList = false := by rw [h3]; rfl
    rw [e]
    have d3 : (s.toList == [46]) = true := by rw [dot_eq]; exact decide_eq_true h3
    clear h3 e
    go_enter Tryd.func61, Tryd.ntmps61
    go_wp2_with fail
    go_ret
    exact ⟨rfl, Below.refl _ _⟩
  have d3 : (s.toList == [46]) = false := by rw [dot_eq]; exact decide_eq_false h3
  by_cases h4 : s.data.toList = [46, 46]
  · have e : mayL s.data.toList = false := by rw [h4]; rfl
    rw [e]
    have d4 : (s.toList == [46, 46]) = true := by rw [dot_eq]; exact decide_eq_true h4
    clear h3 h4 e
    go_enter Tryd.func61, Tryd.ntmps61
    go_wp2_with fail
    go_ret
    exact ⟨rfl, Below.refl _ _⟩
  have d4 : (s.toList == [46, 46]) = false := by rw [dot_eq]; exact decide_eq_false h4
  rw [mayL_all h1 h2 h3 h4]
  have hs8 : s.size ≤ 8 := by omega
  obtain ⟨R, hR⟩ : ∃ R, s.data.toList.all letB = R := ⟨_, rfl⟩
  rw [hR]
  replace hR := Lib.hid hR
  clear h3 h4
  go_enter Tryd.func61, Tryd.ntmps61
  go_wp2_with fail
  go_loopw [4] (fun _ w' => ∃ pos, w' = w.iter s pos ∧ Hid (∀ i (hi : i < s.size), i < pos → letB (s[i]'hi) = true)) (fun _ w' => s.size - w'.iterPos w.heap.size)
  case atStart => exact ⟨0, rfl, Lib.hid fun i _ h => absurd h (Nat.not_lt_zero i)⟩
  case round =>
    obtain ⟨pos, rfl, HL⟩ := hrel
    by_cases hp : pos < s.size
    · by_cases ha : (s[pos]'hp).toNat < 128
      · have hnx : ∀ ty, (Instr.next (.pointer (some ⟨w.heap.size, 0, none⟩)) true ty).run Tryd.prog (w.iter s pos) = _ := fun ty => run_next_ascii w s pos ty hp ha
        have hle := let_of (s[pos]'hp)
        obtain ⟨x, hx⟩ : ∃ x, (s[pos]'hp).toNat = x := ⟨_, rfl⟩
        rw [hx] at hnx hle ha
        replace hle := Lib.hid hle
        clear hx
        cases hb : letB (s[pos]'hp) with
        | true =>
          rw [hb] at hle
          go_wp2_with (first
            | (go_at_call 75; (with_reducible refine (letter_low (x : Int) (by omega) (by omega) _).mono ?_); rintro e w1 ⟨rfl, rfl⟩; rw [hle.out])
            | fail)
          go_roundw
          case rel =>
            refine ⟨pos + 1, rfl, Lib.hid fun i hi hlt => ?_⟩
            by_cases e : i = pos
            · subst e; exact hb
            · exact HL.out i hi (by omega)
          case measure =>
            simp
            omega
        | false =>
          rw [hb] at hle
          have hF : R = false := by rw [← hR.out]; exact all_until hp hb
          subst hF
          go_wp2_with (first
            | (go_at_call 75; (with_reducible refine (letter_low (x : Int) (by omega) (by omega) _).mono ?_); rintro e w1 ⟨rfl, rfl⟩; rw [hle.out])
            | fail)
          go_ret
          exact ⟨rfl, (Below.refl _ _).alloc (Nat.le_refl _) _⟩
      · have hnx : ∀ ty, (Instr.next (.pointer (some ⟨w.heap.size, 0, none⟩)) true ty).run Tryd.prog (w.iter s pos) = _ := fun ty => run_next_any w s pos ty hp
        obtain ⟨hd1, hd2⟩ := decode_high s pos hp (by omega)
        have hd3 := decode_le s pos
        obtain ⟨p, hpd⟩ : ∃ p, Utf8.decode s pos = p := ⟨_, rfl⟩
        rw [hpd] at hnx hd1 hd2 hd3
        have hle := Lib.hid (let_high (p.1 : Int) (by omega))
        have hF : R = false := by rw [← hR.out]; exact all_until hp (letB_high _ (by omega))
        subst hF
        have hb0 : Hid (Below w.heap.size w (w.iter s (pos + p.2))) := Lib.hid ((Below.refl _ _).alloc (Nat.le_refl _) _)
        go_wp2_with (first
          | (go_at_call 75; (with_reducible refine (letter_any _ (by omega) (by omega) _).mono ?_); rintro e w1 ⟨rfl, hb1⟩; rw [hle.out])
          | fail)
        go_ret
        exact ⟨rfl, hb0.out.trans (hb1.mono hb0.out.size)⟩
    · have hnx : ∀ ty, (Instr.next (.pointer (some ⟨w.heap.size, 0, none⟩)) true ty).run Tryd.prog (w.iter s pos) = _ := fun ty => run_next_end w s pos ty hp
      have hT : R = true := by rw [← hR.out]; exact all_done fun i hi => HL.out i hi (by omega)
      subst hT
      go_wp2_with fail
      go_ret
      exact ⟨rfl, (Below.refl _ _).alloc (Nat.le_refl _) _⟩
end Go.Proofs.YtfboilbmehcgoaaDoor

/- Package path: Split, by a text's pieces. -/
namespace Go.Proofs.YtfboilbmehcgoaaDoor
open Go.RowKit Go.Lib

def slash : ByteArray := ⟨#[47]⟩
/-- A text's pieces between slashes. -/
def pieces (s : ByteArray) : List ByteArray := splitB slash 0 (countB s slash) s
theorem pieces_data (s : ByteArray) : (pieces s).map (·.data.toList) = pcs s.data.toList := by
  unfold pieces
  rw [splitB_data, ← split_pcs]
  rfl
theorem pieces_len (s : ByteArray) : (pieces s).length = countB s slash + 1 := splitB_all slash (by decide) 0 _ s rfl

/-- strings.Split at a slash: internal/bytealg.MaxLen is not read. -/
theorem split_slash_any (s : ByteArray) (w : World) (hs : s.size < 4294967281) : Calls Tryd.prog 60 #[.string s, .string slash] w fun e w' =>
    e = .returned (.slice (some ⟨w.heap.size, 0, none⟩) (pieces s).length (pieces s).length) ∧ w' = w.alloc (.cells ((pieces s).map Value.string).toArray 9) := by
  have hle := Lib.countB_le slash (by decide) s.size s (Nat.le_refl _)
  have hlen := pieces_len s
  have c := Any.strings_genSplit_core Tryd.lays221 (by kernel_rfl) s slash 0 (-1) (countB s slash + 1) w hs (by decide) (Nat.zero_le _)
    (fun x c _ => by
      have h := Tryd.strings_Index_one x 47 (w.alloc (.cells c 9))
      rw [← index_one] at h
      exact h) (by
      have h := Tryd.strings_Count_one s 47 w
      rw [show countByte s.data.toList 47 = countB s slash from (count_one 47 s.data.toList).symm] at h
      exact h) (by decide) (by decide) (by rw [if_pos (by decide)]; omega)
  rw [Nat.add_sub_cancel] at c
  have e2 : Lib.cellsOf (pieces s) (countB s slash + 1) = ((pieces s).map Value.string).toArray := by rw [← hlen]; exact Lib.cellsOf_full _
  have c2 : Calls Tryd.prog 74 #[.string s, .string slash, .int .i64 0, .int .i64 (-1)] w fun e w' => e = .returned (.slice (some ⟨w.heap.size, 0, none⟩) (pieces s).length (pieces s).length) ∧ w' = w.alloc (.cells ((pieces s).map Value.string).toArray 9) := by
    rw [← e2, hlen]
    have h3 : (Lib.splitB slash 0 (countB s slash) s).length = countB s slash + 1 := hlen
    rw [h3] at c
    exact c
  clear c e2 hle hlen
  generalize pieces s = L at c2 ⊢
  go_enter Tryd.func60, Tryd.ntmps60
  go_wp2_with (first
    | (go_at_call 74; refine c2.mono ?_; rintro e w1 ⟨rfl, rfl⟩)
    | fail)
  go_ret
  exact ⟨rfl, rfl⟩

/-- Strings lie at an address, in a block of lo or above. -/
def SL (w : World) (lo : Nat) (A : Option Addr) (L : List ByteArray) : Prop := L ≠ [] → ∃ b, A = some ⟨b, 0, none⟩ ∧ lo ≤ b ∧ b < w.heap.size ∧ ∀ j (h : j < L.length), w.cell? ⟨b, j, none⟩ = some (.string L[j])
theorem SL.below {w w' : World} {lo : Nat} {A : Option Addr} {L : List ByteArray} (h : SL w lo A L) (hb : Below w.heap.size w w') : SL w' lo A L := fun hn => by
  obtain ⟨b, e, h1, h2, h3⟩ := h hn
  exact ⟨b, e, h1, Nat.lt_of_lt_of_le h2 hb.size, fun j hj => (hb.cell (p := ⟨b, j, none⟩) h2).trans (h3 j hj)⟩
theorem sl_new (w : World) (L : List ByteArray) (t : TypeId) : SL (w.alloc (.cells (L.map Value.string).toArray t)) w.heap.size (some ⟨w.heap.size, 0, none⟩) L := fun _ =>
  ⟨_, rfl, Nat.le_refl _, by simp, fun j hj => by
    rw [World.cell?_alloc_at _ _ _ _ rfl, List.getElem?_toArray, List.getElem?_map, List.getElem?_eq_getElem hj]
    rfl⟩

def SplitPost (s : ByteArray) (w : World) (e : Ending) (w' : World) : Prop :=
  Below w.heap.size w w' ∧ ((splitL s.data.toList = none ∧ e = .returned (.tuple #[.slice none 0 0, .int .i64 7])) ∨
    ∃ (A : Option Addr) (L : List ByteArray), splitL s.data.toList = some (L.map (·.data.toList)) ∧ e = .returned (.tuple #[.slice A L.length L.length, .int .i64 0]) ∧ SL w' w.heap.size A L)

theorem prefix_slash (l : List UInt8) : Lib.hasPrefix l [47] = decide (l.head? = some 47) := by
  cases l with
  | nil => rfl
  | cons b t =>
    unfold Lib.hasPrefix
    by_cases h : b = 47
    · subst h; simp [List.isPrefixOf]
    · have h2 : ¬ (47 : UInt8) = b := fun e => h e.symm
      simp [List.isPrefixOf, h, h2]

set_option maxRecDepth 100000 in
theorem split_any (s : ByteArray) (w : World) : Calls Tryd.prog 38 #[.string s] w (SplitPost s w) := by
  have hsz : s.size = s.data.toList.length := Lib.size_eq s
  by_cases h1 : (60 : Int) < s.size
  · have hN : splitL s.data.toList = none := splitL_long (by omega)
    have d1 : decide ((60 : Int) < s.size) = true := decide_eq_true h1
    clear hsz
    go_enter Tryd.func38, Tryd.ntmps38
    go_wp2_with fail
    go_ret2
    exact ⟨Below.refl _ _, .inl ⟨hN, rfl⟩⟩
  have d1 : decide ((60 : Int) < s.size) = false := decide_eq_false h1
  have hpre := prefix_slash s.data.toList
  by_cases h2 : s.data.toList.head? = some 47
  rotate_left
  · have hN : splitL s.data.toList = none := by unfold splitL; rw [if_pos (.inr h2)]
    have hp : Lib.hasPrefix s.data.toList [47] = false := by rw [hpre]; exact decide_eq_false h2
    have hc := fun w => Tryd.strings_HasPrefix s slash w
    rw [show slash.data.toList = [47] from rfl, hp] at hc
    clear hsz hpre h2 hp
    replace hN := Lib.hid hN
    go_enter Tryd.func38, Tryd.ntmps38
    go_wp2_with (first
      | (go_at_call 59; refine (hc _).mono ?_; rintro e w1 ⟨rfl, rfl⟩)
      | fail)
    go_ret2
    exact ⟨Below.refl _ _, .inl ⟨hN.out, rfl⟩⟩
  have hp : Lib.hasPrefix s.data.toList [47] = true := by rw [hpre]; exact decide_eq_true h2
  have hc := fun w => Tryd.strings_HasPrefix s slash w
  rw [show slash.data.toList = [47] from rfl, hp] at hc
  by_cases h3 : s.data.toList = [47]
  · have hN : splitL s.data.toList = some [] := by rw [h3]; rfl
    have d3 : (s.toList == [47]) = true := by rw [dot_eq]; exact decide_eq_true h3
    clear hsz hpre h2 hp h3
    replace hN := Lib.hid hN
    go_enter Tryd.func38, Tryd.ntmps38
    go_wp2_with (first
      | (go_at_call 59; refine (hc _).mono ?_; rintro e w1 ⟨rfl, rfl⟩)
      | fail)
    go_ret2
    exact ⟨Below.refl _ _, .inr ⟨none, [], hN.out, rfl, fun h => absurd rfl h⟩⟩
  have d3 : (s.toList == [47]) = false := by rw [dot_eq]; exact decide_eq_false h3
  have hs1 : 1 ≤ s.size := by
    rw [hsz]
    cases e : s.data.toList with
    | nil => rw [e] at h2; cases h2
    | cons => simp
  have hs60 : s.size ≤ 60 := by omega
  have hpd : (pieces (s.extract 1 s.size)).map (·.data.toList) = pcs s.data.toList.tail := by
    rw [pieces_data, Lib.extract_to_end, List.drop_one]
  have hS : splitL s.data.toList = if (pcs s.data.toList.tail).all mayL then some (pcs s.data.toList.tail) else none := by
    unfold splitL
    rw [if_neg (by rw [not_or]; exact ⟨by omega, fun h => h h2⟩), if_neg h3]
  rw [← hpd] at hS
  have hsp := fun w => split_slash_any (s.extract 1 s.size) w (by rw [ByteArray.size_extract]; omega)
  obtain ⟨L, hL⟩ : ∃ L, pieces (s.extract 1 s.size) = L := ⟨_, rfl⟩
  simp only [hL] at hS hsp
  have hLl : L.length ≤ 61 := by
    rw [← hL, pieces_len]
    have := Lib.countB_le slash (by decide) _ (s.extract 1 s.size) (Nat.le_refl _)
    have h4 : (s.extract 1 s.size).size ≤ s.size := by rw [ByteArray.size_extract]; omega
    omega
  clear hsz hpre h2 hp h3 hpd hL
  replace hS := Lib.hid hS
  go_enter Tryd.func38, Tryd.ntmps38
  go_wp2_with (first
    | (go_at_call 59; refine (hc _).mono ?_; rintro e w1 ⟨rfl, rfl⟩)
    | (go_at_call 60; refine (hsp _).mono ?_; rintro e w1 ⟨rfl, rfl⟩)
    | fail)
  obtain ⟨w2, hw2⟩ : ∃ w2, w1.alloc (.cells (L.map Value.string).toArray 9) = w2 := ⟨_, rfl⟩
  have hb2 : Hid (Below w1.heap.size w1 w2) := Lib.hid (by rw [← hw2]; exact (Below.refl _ _).alloc (Nat.le_refl _) _)
  have hsl : Hid (SL w2 w1.heap.size (some ⟨w1.heap.size, 0, none⟩) L) := Lib.hid (by rw [← hw2]; exact sl_new _ _ _)
  rw [hw2]
  clear hw2 hc hsp
  go_loopw [6, 22] (fun _ v22 wx => ∃ k : Nat, v22 = .int .i64 k ∧ k ≤ L.length ∧ Below w2.heap.size w2 wx ∧ Hid (∀ j (h : j < L.length), j < k → mayL (L[j]).data.toList = true)) (fun _ v22 _ => L.length - (RowKit.intOf v22).toNat)
  case atStart => exact ⟨0, rfl, Nat.zero_le _, Below.refl _ _, Lib.hid fun j _ h => absurd h (Nat.not_lt_zero j)⟩
  case round =>
    obtain ⟨k, rfl, hk, hbx, HM⟩ := hrel
    have hb3 : Hid (Below w2.heap.size w2 wr) := Lib.hid hbx
    by_cases hkl : k < L.length
    · have d5 : decide ((k : Int) < (L.length : Int)) = true := decide_eq_true (by omega)
      obtain ⟨b, eb, hb4, hb5, hcell⟩ := hsl.out.below hb3.out (fun e => by subst e; simp at hkl)
      cases eb
      have hck := hcell k hkl
      obtain ⟨nm, hnm⟩ : ∃ nm, L[k] = nm := ⟨_, rfl⟩
      rw [hnm] at hck
      replace hnm := Lib.hid hnm
      clear hcell hbx
      cases hmy : mayL nm.data.toList with
      | true =>
        go_wp2_with (first
          | (go_at_call 61; (with_reducible refine (may_any _ _).mono ?_); rintro e w4 ⟨rfl, hb6⟩; rw [hmy]; replace hb6 := Lib.hid hb6)
          | fail)
        go_roundw
        case rel =>
          refine ⟨k + 1, rfl, by omega, hb3.out.trans (hb6.out.mono hb3.out.size), Lib.hid fun j hj hjk => ?_⟩
          by_cases e : j = k
          · subst e
            rw [hnm.out]
            exact hmy
          · exact HM.out j hj (by omega)
        case measure =>
          simp [RowKit.intOf]
          omega
      | false =>
        go_wp2_with (first
          | (go_at_call 61; (with_reducible refine (may_any _ _).mono ?_); rintro e w4 ⟨rfl, hb6⟩; rw [hmy]; replace hb6 := Lib.hid hb6)
          | fail)
        go_ret2
        refine ⟨hb2.out.trans ((hb3.out.mono hb2.out.size).trans (hb6.out.mono (hb2.out.trans (hb3.out.mono hb2.out.size)).size)), .inl ⟨?_, rfl⟩⟩
        rw [hS.out, if_neg]
        intro hall
        have := List.all_eq_true.1 hall nm.data.toList (List.mem_map.2 ⟨nm, by rw [← hnm.out]; exact List.getElem_mem hkl, rfl⟩)
        rw [hmy] at this
        cases this
    · have d5 : decide ((k : Int) < (L.length : Int)) = false := decide_eq_false (by omega)
      go_wp2_with fail
      go_ret2
      refine ⟨hb2.out.trans (hb3.out.mono hb2.out.size), .inr ⟨_, L, ?_, rfl, hsl.out.below hb3.out⟩⟩
      rw [hS.out, if_pos]
      rw [List.all_eq_true]
      intro x hx
      obtain ⟨nm, hm, rfl⟩ := List.mem_map.1 hx
      obtain ⟨j, hj, rfl⟩ := List.getElem_of_mem hm
      exact HM.out j hj (by omega)
end Go.Proofs.YtfboilbmehcgoaaDoor

/- Package path: Join, by the names' bytes. -/
namespace Go.Proofs.YtfboilbmehcgoaaDoor
open Go.RowKit Go.Lib

def joinB (L : List ByteArray) : ByteArray := ⟨(joinP (L.map (·.data.toList))).toArray⟩
theorem joinB_data (L : List ByteArray) : (joinB L).data.toList = joinP (L.map (·.data.toList)) := by simp [joinB]
theorem byte_ext {a b : ByteArray} (h : a.data.toList = b.data.toList) : a = b := by
  obtain ⟨⟨a⟩⟩ := a
  obtain ⟨⟨b⟩⟩ := b
  simp at h
  rw [h]
theorem app_data (a b : ByteArray) : (a ++ b).data.toList = a.data.toList ++ b.data.toList := by simp

theorem joinB_none {L : List ByteArray} (h0 : L ≠ []) (h : ¬ ((L.map (·.data.toList)).all mayL = true ∧ (joinL (L.map (·.data.toList))).length ≤ 60)) : joinB L = ⟨#[]⟩ := by
  unfold joinB joinP
  rw [if_neg (by simpa using h0), if_neg h]
theorem joinB_bad {L : List ByteArray} {k : Nat} {nm : ByteArray} (hkl : k < L.length) (hnm : L[k] = nm) (hm : mayL nm.data.toList = false) : joinB L = ⟨#[]⟩ := by
  refine joinB_none (fun e => by subst e; simp at hkl) fun ⟨hall, _⟩ => ?_
  have := List.all_eq_true.1 hall nm.data.toList (List.mem_map.2 ⟨nm, by rw [← hnm]; exact List.getElem_mem hkl, rfl⟩)
  rw [hm] at this
  cases this
theorem joinL_step {L : List ByteArray} {k : Nat} {nm x : ByteArray} (hkl : k < L.length) (hnm : L[k] = nm) (hx : x.data.toList = joinL ((L.take k).map (·.data.toList))) : (x ++ (⟨#[47]⟩ ++ nm)).data.toList = joinL ((L.take (k + 1)).map (·.data.toList)) := by
  rw [List.take_add_one, List.getElem?_eq_getElem hkl, hnm, Option.toList_some, List.map_append, List.map_cons, List.map_nil, joinL_snoc, ← hx, app_data, app_data]
  rfl
theorem joinB_long {L : List ByteArray} {k : Nat} {nm x : ByteArray} (hkl : k < L.length) (hnm : L[k] = nm) (hx : x.data.toList = joinL ((L.take k).map (·.data.toList))) (hl : 60 < (x.size : Int) + (1 + nm.size)) : joinB L = ⟨#[]⟩ := by
  refine joinB_none (fun e => by subst e; simp at hkl) fun ⟨_, hlen⟩ => ?_
  have e := joinL_step hkl hnm hx
  have h1 : (joinL (L.map (·.data.toList))).length = (joinL ((L.take (k + 1)).map (·.data.toList))).length + (joinL ((L.drop (k + 1)).map (·.data.toList))).length := by
    rw [← List.length_append, ← joinL_append, ← List.map_append, List.take_append_drop]
  rw [← e, ← Lib.size_eq, ByteArray.size_append, ByteArray.size_append] at h1
  have h2 : (⟨#[47]⟩ : ByteArray).size = 1 := rfl
  omega
theorem joinB_all {L : List ByteArray} {x : ByteArray} (h0 : L ≠ []) (hx : x.data.toList = joinL ((L.take L.length).map (·.data.toList))) (hl : x.size ≤ 60) (hm : ∀ j (h : j < L.length), j < L.length → mayL (L[j]).data.toList = true) : joinB L = x := by
  rw [List.take_length] at hx
  refine byte_ext ?_
  rw [joinB_data]
  unfold joinP
  rw [if_neg (by simpa using h0), if_pos, hx]
  refine ⟨?_, by rw [← hx, ← Lib.size_eq]; exact hl⟩
  rw [List.all_eq_true]
  intro y hy
  obtain ⟨nm, hn, rfl⟩ := List.mem_map.1 hy
  obtain ⟨j, hj, rfl⟩ := List.getElem_of_mem hn
  exact hm j hj hj

set_option maxRecDepth 100000 in
theorem join_any (A : Option Addr) (c lo : Nat) (L : List ByteArray) (w : World) (h : SL w lo A L) (hL : L.length ≤ 1000000) : Calls Tryd.prog 58 #[.slice A L.length c] w fun e w' => e = .returned (.string (joinB L)) ∧ Below w.heap.size w w' := by
  by_cases h0 : L = []
  · subst h0
    go_enter Tryd.func58, Tryd.ntmps58
    go_wp2_with fail
    go_ret
    exact ⟨rfl, Below.refl _ _⟩
  have hn0 : ((L.length : Int) == 0) = false := by
    simpa using h0
  have hn1 : ¬ (L.length : Int) = 0 := by simpa using h0
  have H := Lib.hid h
  clear h
  obtain ⟨J, hJ⟩ : ∃ J, joinB L = J := ⟨_, rfl⟩
  rw [hJ]
  replace hJ := Lib.hid hJ
  replace h0 := Lib.hid h0
  go_enter Tryd.func58, Tryd.ntmps58
  go_wp2_with fail
  go_loopw [3, 5, 11] (fun v3 _ v11 wx => ∃ (k : Nat) (x : ByteArray), v11 = .int .i64 k ∧ v3 = .string x ∧ k ≤ L.length ∧ x.size ≤ 60 ∧ Below w.heap.size w wx ∧ Hid (x.data.toList = joinL ((L.take k).map (·.data.toList)) ∧ ∀ j (h : j < L.length), j < k → mayL (L[j]).data.toList = true)) (fun _ _ v11 _ => L.length - (RowKit.intOf v11).toNat)
  case atStart => exact ⟨0, ⟨#[]⟩, rfl, rfl, Nat.zero_le _, by decide, Below.refl _ _, Lib.hid ⟨rfl, fun j _ h => absurd h (Nat.not_lt_zero j)⟩⟩
  case round =>
    obtain ⟨k, x, rfl, rfl, hk, hx60, hbx, HM⟩ := hrel
    have hb3 : Hid (Below w.heap.size w wr) := Lib.hid hbx
    by_cases hkl : k < L.length
    · have d5 : decide ((k : Int) < (L.length : Int)) = true := decide_eq_true (by omega)
      obtain ⟨b, eb, hb4, hb5, hcell⟩ := H.out.below hb3.out (fun e => by subst e; simp at hkl)
      cases eb
      have hck := hcell k hkl
      obtain ⟨nm, hnm⟩ : ∃ nm, L[k] = nm := ⟨_, rfl⟩
      rw [hnm] at hck
      replace hnm := Lib.hid hnm
      clear hcell hbx
      cases hmy : mayL nm.data.toList with
      | true =>
        have hn8 : nm.size ≤ 8 := by
          by_cases h8 : (8 : Int) < nm.size
          · rw [mayL_long h8] at hmy; cases hmy
          · omega
        by_cases h60 : (60 : Int) < (x.size : Int) + (1 + nm.size)
        · have hJ2 : J = ⟨#[]⟩ := by rw [← hJ.out]; exact joinB_long hkl hnm.out HM.out.1 h60
          subst hJ2
          go_wp2_with (first
            | (go_at_call 61; (with_reducible refine (may_any _ _).mono ?_); rintro e w4 ⟨rfl, hb6⟩; rw [hmy]; replace hb6 := Lib.hid hb6)
            | fail)
          go_ret
          exact ⟨rfl, hb3.out.trans (hb6.out.mono hb3.out.size)⟩
        · have hsz := Lib.hid (show (x ++ (⟨#[47]⟩ ++ nm)).size ≤ 60 by
            rw [ByteArray.size_append, ByteArray.size_append]
            have h2 : (⟨#[47]⟩ : ByteArray).size = 1 := rfl
            omega)
          go_wp2_with (first
            | (go_at_call 61; (with_reducible refine (may_any _ _).mono ?_); rintro e w4 ⟨rfl, hb6⟩; rw [hmy]; replace hb6 := Lib.hid hb6)
            | fail)
          go_roundw
          case rel =>
            refine ⟨k + 1, _, rfl, rfl, by omega, hsz.out, hb3.out.trans (hb6.out.mono hb3.out.size), Lib.hid ⟨joinL_step hkl hnm.out HM.out.1, fun j hj hjk => ?_⟩⟩
            by_cases e : j = k
            · subst e
              rw [hnm.out]
              exact hmy
            · exact HM.out.2 j hj (by omega)
          case measure =>
            simp [RowKit.intOf]
            omega
      | false =>
        have hJ2 : J = ⟨#[]⟩ := by rw [← hJ.out]; exact joinB_bad hkl hnm.out hmy
        subst hJ2
        go_wp2_with (first
          | (go_at_call 61; (with_reducible refine (may_any _ _).mono ?_); rintro e w4 ⟨rfl, hb6⟩; rw [hmy]; replace hb6 := Lib.hid hb6)
          | fail)
        go_ret
        exact ⟨rfl, hb3.out.trans (hb6.out.mono hb3.out.size)⟩
    · have d5 : decide ((k : Int) < (L.length : Int)) = false := decide_eq_false (by omega)
      go_wp2_with fail
      have hke : k = L.length := by omega
      subst hke
      have hJ2 : J = x := by rw [← hJ.out]; exact joinB_all h0.out HM.out.1 hx60 HM.out.2
      go_ret
      exact ⟨by rw [hJ2]; rfl, hb3.out⟩
end Go.Proofs.YtfboilbmehcgoaaDoor

/- Package path: Last. -/
namespace Go.Proofs.YtfboilbmehcgoaaDoor
open Go.RowKit Go.Lib

def Split2 (s : ByteArray) (w : World) (e : Ending) (w' : World) : Prop :=
  ∃ (A : Option Addr) (L : List ByteArray) (r : Int), e = .returned (.tuple #[.slice A L.length L.length, .int .i64 r]) ∧ Below w.heap.size w w' ∧ L.length ≤ 61 ∧ SL w' w.heap.size A L ∧ (r = 7 ∧ L = [] ∧ A = none ∧ splitL s.data.toList = none ∨ r = 0 ∧ splitL s.data.toList = some (L.map (·.data.toList)))
theorem pcs_length : ∀ l : List UInt8, (pcs l).length ≤ l.length + 1
  | [] => by simp [pcs]
  | b :: l => by
    have ih := pcs_length l
    by_cases h : b = 47
    · subst h
      rw [pcs_slash]
      simp
      omega
    · cases e : pcs l with
      | nil => exact absurd e (pcs_ne l)
      | cons p t =>
        rw [pcs_cons b l h e]
        rw [e] at ih
        simp at ih ⊢
        omega
theorem split_two (s : ByteArray) (w : World) : Calls Tryd.prog 38 #[.string s] w (Split2 s w) := by
  refine (split_any s w).mono ?_
  rintro e w' ⟨hb, ⟨hN, rfl⟩ | ⟨A, L, hS, rfl, hsl⟩⟩
  · exact ⟨none, [], 7, rfl, hb, by simp, fun h => absurd rfl h, .inl ⟨rfl, rfl, rfl, hN⟩⟩
  · refine ⟨A, L, 0, rfl, hb, ?_, hsl, .inr ⟨rfl, hS⟩⟩
    have hl : (L.map (·.data.toList)).length = L.length := by simp
    obtain ⟨h60, ⟨_, e⟩ | ⟨t, e1, _, e2, _⟩⟩ := splitL_some hS
    · rw [e] at hl
      simp at hl
      omega
    · have := pcs_length t
      rw [← e2, hl] at this
      rw [e1] at h60
      simp at h60
      omega

def LastPost (s : ByteArray) (w : World) (e : Ending) (w' : World) : Prop :=
  ∃ (x y : ByteArray) (r : Int), e = .returned (.tuple #[.string x, .string y, .int .i64 r]) ∧ Below w.heap.size w w' ∧ (r = 7 ∧ splitL s.data.toList = none ∨ r = 18 ∧ splitL s.data.toList = some [] ∨ r = 0 ∧ ∃ L, x = joinB L ∧ splitL s.data.toList = some ((L ++ [y]).map (·.data.toList)))

theorem sl_less {w : World} {lo : Nat} {A : Option Addr} {L : List ByteArray} {y : ByteArray} (h : SL w lo A (L ++ [y])) : SL w lo A L := fun _ => by
  obtain ⟨b, e, h1, h2, h3⟩ := h (by simp)
  refine ⟨b, e, h1, h2, fun j hj => ?_⟩
  have := h3 j (by simp; omega)
  rw [List.getElem_append_left hj] at this
  exact this

set_option maxRecDepth 100000 in
theorem last_any (s : ByteArray) (w : World) : Calls Tryd.prog 40 #[.string s] w (LastPost s w) := by
  have hsp := split_two s
  go_enter Tryd.func40, Tryd.ntmps40
  go_upto_region 2 with (first
    | (go_at_call 38; (with_reducible refine (hsp _).mono ?_); rintro e w1 ⟨A, L, r, rfl, hb1, hl61, hsl, hcase⟩; replace hcase := Lib.hid hcase; replace hsl := Lib.hid hsl; replace hb1 := Lib.hid hb1)
    | fail)
  rcases hcase.out with ⟨rfl, rfl, rfl, hN⟩ | ⟨rfl, hS⟩
  · clear hsp
    go_wp2_with fail
    refine bodyPost_ret (by simp [results, Tryd.results40, go_sem]; try rfl) rfl ?_
    exact ⟨_, _, _, rfl, hb1.out, .inl ⟨rfl, hN⟩⟩
  · by_cases h0 : L = []
    · subst h0
      clear hsp
      replace hS := Lib.hid hS
      go_wp2_with fail
      refine bodyPost_ret (by simp [results, Tryd.results40, go_sem]; try rfl) rfl ?_
      exact ⟨_, _, _, rfl, hb1.out, .inr (.inl ⟨rfl, hS.out⟩)⟩
    · obtain ⟨M, y, hLy⟩ : ∃ M y, L = M ++ [y] := ⟨L.dropLast, L.getLast h0, (List.dropLast_concat_getLast h0).symm⟩
      subst hLy
      have hS2 := Lib.hid hS
      clear hsp hcase hS h0
      have hlM : (M ++ [y]).length = M.length + 1 := by simp
      rw [hlM] at hl61
      simp only [hlM]
      obtain ⟨b, rfl, hb2, hb3, hcell⟩ := hsl.out (by simp)
      have hcy : w1.cell? ⟨b, M.length, none⟩ = some (.string y) := by
        have := hcell M.length (by simp)
        simpa using this
      have hslM : Hid (SL w1 w.heap.size (some ⟨b, 0, none⟩) M) := Lib.hid (sl_less hsl.out)
      clear hcell hlM
      have hn0 : ¬ ((M.length : Int) + 1 = 0) := by omega
      have i0 : (0 : Int) ≤ (M.length : Int) := by omega
      have i1 : (M.length : Int) ≤ (M.length : Int) + 1 := by omega
      have i2 : (M.length : Int) < (M.length : Int) + 1 := by omega
      go_upto_region 7 with fail
      have hS0 : Hid (∀ V, Below w1.heap.size w1 V → V.cell? ⟨b, M.length, none⟩ = some (.string y)) := Lib.hid fun V hV => (hV.cell (p := ⟨b, M.length, none⟩) hb3).trans hcy
      go_region_held3 (fun V => V.cell? ⟨b, M.length, none⟩ = some (.string y))
        (first | assumption | (refine hS0.out _ ?_; (repeat (first | exact Below.refl _ _ | refine Below.drew ?_)); done))
        (first
          | (go_at_call 58; refine (join_any _ _ w.heap.size M _ (hslM.out.below (Below.refl _ _).drew) (by omega)).mono ?_; rintro e w2 ⟨rfl, hb4⟩; have hb5 : Below w1.heap.size w1 w2 := (Below.refl _ _).drew.trans hb4; have hcy2 : w2.cell? ⟨b, M.length, none⟩ = some (.string y) := hS0.out _ hb5; replace hb5 := Lib.hid hb5; clear hb4)
          | fail)
      all_goals
        go_wp2_with fail
        refine bodyPost_ret (by simp [results, Tryd.results40, go_sem]; try rfl) rfl ?_
        exact ⟨_, _, _, rfl, hb1.out.trans (hb5.out.mono hb1.out.size), .inr (.inr ⟨rfl, M, rfl, hS2.out⟩)⟩
end Go.Proofs.YtfboilbmehcgoaaDoor
