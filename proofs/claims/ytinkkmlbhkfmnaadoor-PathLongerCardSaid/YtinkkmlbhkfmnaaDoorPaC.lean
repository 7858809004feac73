/- Package path: Split, by a text's pieces. -/
import Derived.Test.YtinkkmlbhkfmnaaDoorPaB
import Derived.Deep.OwnRows
namespace Go.Proofs.YtinkkmlbhkfmnaaDoor
open Go.RowKit Go.Lib

def slash : ByteArray := ⟨#[47]⟩
/-- A text's pieces between slashes. -/
def pieces (s : ByteArray) : List ByteArray := splitB slash 0 (countB s slash) s
theorem pieces_data (s : ByteArray) : (pieces s).map (·.data.toList) = pcs s.data.toList := by
  unfold pieces
  rw [splitB_data, ← split_pcs]
  rfl
theorem pieces_len (s : ByteArray) : (pieces s).length = countB s slash + 1 := splitB_all slash (by decide) 0 _ s rfl

/-- strings.Split at a slash: internal/bytealg.MaxLen is not read. -/
theorem split_slash_any (s : ByteArray) (w : World) (hs : s.size < 4294967281) : Calls Tryd.prog 13 #[.string s, .string slash] w fun e w' =>
    e = .returned (.slice (some ⟨w.heap.size, 0, none⟩) (pieces s).length (pieces s).length) ∧ w' = w.alloc (.cells ((pieces s).map Value.string).toArray 9) := by
  have hle := Lib.countB_le slash (by decide) s.size s (Nat.le_refl _)
  have hlen := pieces_len s
  have c := Any.strings_genSplit_core Tryd.lays221 (by kernel_rfl) s slash 0 (-1) (countB s slash + 1) w hs (by decide) (Nat.zero_le _)
    (fun x c _ => by
      have h := Tryd.strings_Index_one x 47 (w.alloc (.cells c 9))
      rw [← index_one] at h
      exact h) (by
      have h := Tryd.strings_Count_one s 47 w
      rw [show countByte s.data.toList 47 = countB s slash from (count_one 47 s.data.toList).symm] at h
      exact h) (by decide) (by decide) (by rw [if_pos (by decide)]; omega)
  rw [Nat.add_sub_cancel] at c
  have e2 : Lib.cellsOf (pieces s) (countB s slash + 1) = ((pieces s).map Value.string).toArray := by rw [← hlen]; exact Lib.cellsOf_full _
  have c2 : Calls Tryd.prog 16 #[.string s, .string slash, .int .i64 0, .int .i64 (-1)] w fun e w' => e = .returned (.slice (some ⟨w.heap.size, 0, none⟩) (pieces s).length (pieces s).length) ∧ w' = w.alloc (.cells ((pieces s).map Value.string).toArray 9) := by
    rw [← e2, hlen]
    have h3 : (Lib.splitB slash 0 (countB s slash) s).length = countB s slash + 1 := hlen
    rw [h3] at c
    exact c
  clear c e2 hle hlen
  generalize pieces s = L at c2 ⊢
  go_enter Tryd.func13, Tryd.ntmps13
  go_wp2_with (first
    | (go_at_call 16; refine c2.mono ?_; rintro e w1 ⟨rfl, rfl⟩)
    | fail)
  go_ret
  exact ⟨rfl, rfl⟩

/-- Strings lie at an address, in a block of lo or above. -/
def SL (w : World) (lo : Nat) (A : Option Addr) (L : List ByteArray) : Prop := L ≠ [] → ∃ b, A = some ⟨b, 0, none⟩ ∧ lo ≤ b ∧ b < w.heap.size ∧ ∀ j (h : j < L.length), w.cell? ⟨b, j, none⟩ = some (.string L[j])
theorem SL.below {w w' : World} {lo : Nat} {A : Option Addr} {L : List ByteArray} (h : SL w lo A L) (hb : Below w.heap.size w w') : SL w' lo A L := fun hn => by
  obtain ⟨b, e, h1, h2, h3⟩ := h hn
  exact ⟨b, e, h1, Nat.lt_of_lt_of_le h2 hb.size, fun j hj => (hb.cell (p := ⟨b, j, none⟩) h2).trans (h3 j hj)⟩
theorem sl_new (w : World) (L : List ByteArray) (t : TypeId) : SL (w.alloc (.cells (L.map Value.string).toArray t)) w.heap.size (some ⟨w.heap.size, 0, none⟩) L := fun _ =>
  ⟨_, rfl, Nat.le_refl _, by simp, fun j hj => by
    rw [World.cell?_alloc_at _ _ _ _ rfl, List.getElem?_toArray, List.getElem?_map, List.getElem?_eq_getElem hj]
    rfl⟩

def SplitPost (s : ByteArray) (w : World) (e : Ending) (w' : World) : Prop :=
  Below w.heap.size w w' ∧ ((splitL s.data.toList = none ∧ e = .returned (.tuple #[.slice none 0 0, .int .i64 7])) ∨
    ∃ (A : Option Addr) (L : List ByteArray), splitL s.data.toList = some (L.map (·.data.toList)) ∧ e = .returned (.tuple #[.slice A L.length L.length, .int .i64 0]) ∧ SL w' w.heap.size A L)

theorem prefix_slash (l : List UInt8) : Lib.hasPrefix l [47] = decide (l.head? = some 47) := by
  cases l with
  | nil => rfl
  | cons b t =>
    unfold Lib.hasPrefix
    by_cases h : b = 47
    · subst h; simp [List.isPrefixOf]
    · have h2 : ¬ (47 : UInt8) = b := fun e => h e.symm
      simp [List.isPrefixOf, h, h2]

set_option maxRecDepth 100000 in
theorem split_any (s : ByteArray) (w : World) : Calls Tryd.prog 7 #[.string s] w (SplitPost s w) := by
  have hsz : s.size = s.data.toList.length := Lib.size_eq s
  by_cases h1 : (60 : Int) < s.size
  · have hN : splitL s.data.toList = none := splitL_long (by omega)
    have d1 : decide ((60 : Int) < s.size) = true := decide_eq_true h1
    clear hsz
    go_enter Tryd.func7, Tryd.ntmps7
    go_wp2_with fail
    go_ret2
    exact ⟨Below.refl _ _, .inl ⟨hN, rfl⟩⟩
  have d1 : decide ((60 : Int) < s.size) = false := decide_eq_false h1
  have hpre := prefix_slash s.data.toList
  by_cases h2 : s.data.toList.head? = some 47
  rotate_left
  · have hN : splitL s.data.toList = none := by unfold splitL; rw [if_pos (.inr h2)]
    have hp : Lib.hasPrefix s.data.toList [47] = false := by rw [hpre]; exact decide_eq_false h2
    have hc := fun w => Tryd.strings_HasPrefix s slash w
    rw [show slash.data.toList = [47] from rfl, hp] at hc
    clear hsz hpre h2 hp
    replace hN := Lib.hid hN
    go_enter Tryd.func7, Tryd.ntmps7
    go_wp2_with (first
      | (go_at_call 12; refine (hc _).mono ?_; rintro e w1 ⟨rfl, rfl⟩)
      | fail)
    go_ret2
    exact ⟨Below.refl _ _, .inl ⟨hN.out, rfl⟩⟩
  have hp : Lib.hasPrefix s.data.toList [47] = true := by rw [hpre]; exact decide_eq_true h2
  have hc := fun w => Tryd.strings_HasPrefix s slash w
  rw [show slash.data.toList = [47] from rfl, hp] at hc
  by_cases h3 : s.data.toList = [47]
  · have hN : splitL s.data.toList = some [] := by rw [h3]; rfl
    have d3 : (s.toList == [47]) = true := by rw [dot_eq]; exact decide_eq_true h3
    clear hsz hpre h2 hp h3
    replace hN := Lib.hid hN
    go_enter Tryd.func7, Tryd.ntmps7
    go_wp2_with (first
      | (go_at_call 12; refine (hc _).mono ?_; rintro e w1 ⟨rfl, rfl⟩)
      | fail)
    go_ret2
    exact ⟨Below.refl _ _, .inr ⟨none, [], hN.out, rfl, fun h => absurd rfl h⟩⟩
  have d3 : (s.toList == [47]) = false := by rw [dot_eq]; exact decide_eq_false h3
  have hs1 : 1 ≤ s.size := by
    rw [hsz]
    cases e : s.data.toList with
    | nil => rw [e] at h2; cases h2
    | cons => simp
  have hs60 : s.size ≤ 60 := by omega
  have hpd : (pieces (s.extract 1 s.size)).map (·.data.toList) = pcs s.data.toList.tail := by
    rw [pieces_data, Lib.extract_to_end, List.drop_one]
  have hS : splitL s.data.toList = if (pcs s.data.toList.tail).all mayL then some (pcs s.data.toList.tail) else none := by
    unfold splitL
    rw [if_neg (by rw [not_or]; exact ⟨by omega, fun h => h h2⟩), if_neg h3]
  rw [← hpd] at hS
  have hsp := fun w => split_slash_any (s.extract 1 s.size) w (by rw [ByteArray.size_extract]; omega)
  obtain ⟨L, hL⟩ : ∃ L, pieces (s.extract 1 s.size) = L := ⟨_, rfl⟩
  simp only [hL] at hS hsp
  have hLl : L.length ≤ 61 := by
    rw [← hL, pieces_len]
    have := Lib.countB_le slash (by decide) _ (s.extract 1 s.size) (Nat.le_refl _)
    have h4 : (s.extract 1 s.size).size ≤ s.size := by rw [ByteArray.size_extract]; omega
    omega
  clear hsz hpre h2 hp h3 hpd hL
  replace hS := Lib.hid hS
  go_enter Tryd.func7, Tryd.ntmps7
  go_wp2_with (first
    | (go_at_call 12; refine (hc _).mono ?_; rintro e w1 ⟨rfl, rfl⟩)
    | (go_at_call 13; refine (hsp _).mono ?_; rintro e w1 ⟨rfl, rfl⟩)
    | fail)
  obtain ⟨w2, hw2⟩ : ∃ w2, w1.alloc (.cells (L.map Value.string).toArray 9) = w2 := ⟨_, rfl⟩
  have hb2 : Hid (Below w1.heap.size w1 w2) := Lib.hid (by rw [← hw2]; exact (Below.refl _ _).alloc (Nat.le_refl _) _)
  have hsl : Hid (SL w2 w1.heap.size (some ⟨w1.heap.size, 0, none⟩) L) := Lib.hid (by rw [← hw2]; exact sl_new _ _ _)
  rw [hw2]
  clear hw2 hc hsp
  go_loopw [6, 22] (fun _ v22 wx => ∃ k : Nat, v22 = .int .i64 k ∧ k ≤ L.length ∧ Below w2.heap.size w2 wx ∧ Hid (∀ j (h : j < L.length), j < k → mayL (L[j]).data.toList = true)) (fun _ v22 _ => L.length - (RowKit.intOf v22).toNat)
  case atStart => exact ⟨0, rfl, Nat.zero_le _, Below.refl _ _, Lib.hid fun j _ h => absurd h (Nat.not_lt_zero j)⟩
  case round =>
    obtain ⟨k, rfl, hk, hbx, HM⟩ := hrel
    have hb3 : Hid (Below w2.heap.size w2 wr) := Lib.hid hbx
    by_cases hkl : k < L.length
    · have d5 : decide ((k : Int) < (L.length : Int)) = true := decide_eq_true (by omega)
      obtain ⟨b, eb, hb4, hb5, hcell⟩ := hsl.out.below hb3.out (fun e => by subst e; simp at hkl)
      cases eb
      have hck := hcell k hkl
      obtain ⟨nm, hnm⟩ : ∃ nm, L[k] = nm := ⟨_, rfl⟩
      rw [hnm] at hck
      replace hnm := Lib.hid hnm
      clear hcell hbx
      cases hmy : mayL nm.data.toList with
      | true =>
        go_wp2_with (first
          | (go_at_call 8; (with_reducible refine (may_any _ _).mono ?_); rintro e w4 ⟨rfl, hb6⟩; rw [hmy]; replace hb6 := Lib.hid hb6)
          | fail)
        go_roundw
        case rel =>
          refine ⟨k + 1, rfl, by omega, hb3.out.trans (hb6.out.mono hb3.out.size), Lib.hid fun j hj hjk => ?_⟩
          by_cases e : j = k
          · subst e
            rw [hnm.out]
            exact hmy
          · exact HM.out j hj (by omega)
        case measure =>
          simp [RowKit.intOf]
          omega
      | false =>
        go_wp2_with (first
          | (go_at_call 8; (with_reducible refine (may_any _ _).mono ?_); rintro e w4 ⟨rfl, hb6⟩; rw [hmy]; replace hb6 := Lib.hid hb6)
          | fail)
        go_ret2
        refine ⟨hb2.out.trans ((hb3.out.mono hb2.out.size).trans (hb6.out.mono (hb2.out.trans (hb3.out.mono hb2.out.size)).size)), .inl ⟨?_, rfl⟩⟩
        rw [hS.out, if_neg]
        intro hall
        have := List.all_eq_true.1 hall nm.data.toList (List.mem_map.2 ⟨nm, by rw [← hnm.out]; exact List.getElem_mem hkl, rfl⟩)
        rw [hmy] at this
        cases this
    · have d5 : decide ((k : Int) < (L.length : Int)) = false := decide_eq_false (by omega)
      go_wp2_with fail
      go_ret2
      refine ⟨hb2.out.trans (hb3.out.mono hb2.out.size), .inr ⟨_, L, ?_, rfl, hsl.out.below hb3.out⟩⟩
      rw [hS.out, if_pos]
      rw [List.all_eq_true]
      intro x hx
      obtain ⟨nm, hm, rfl⟩ := List.mem_map.1 hx
      obtain ⟨j, hj, rfl⟩ := List.getElem_of_mem hm
      exact HM.out j hj (by omega)
end Go.Proofs.YtinkkmlbhkfmnaaDoor
