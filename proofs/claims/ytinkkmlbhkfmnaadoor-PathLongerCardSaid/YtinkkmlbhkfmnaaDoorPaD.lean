/- Package path: Join, by the names' bytes. -/
import Derived.Test.YtinkkmlbhkfmnaaDoorPaC
import Derived.Laws.Concat
namespace Go.Proofs.YtinkkmlbhkfmnaaDoor
open Go.RowKit Go.Lib

def joinB (L : List ByteArray) : ByteArray := ⟨(joinP (L.map (·.data.toList))).toArray⟩
theorem joinB_data (L : List ByteArray) : (joinB L).data.toList = joinP (L.map (·.data.toList)) := by simp [joinB]
theorem byte_ext {a b : ByteArray} (h : a.data.toList = b.data.toList) : a = b := by
  obtain ⟨⟨a⟩⟩ := a
  obtain ⟨⟨b⟩⟩ := b
  simp at h
  rw [h]
theorem app_data (a b : ByteArray) : (a ++ b).data.toList = a.data.toList ++ b.data.toList := by simp

theorem joinB_none {L : List ByteArray} (h0 : L ≠ []) (h : ¬ ((L.map (·.data.toList)).all mayL = true ∧ (joinL (L.map (·.data.toList))).length ≤ 60)) : joinB L = ⟨#[]⟩ := by
  unfold joinB joinP
  rw [if_neg (by simpa using h0), if_neg h]
theorem joinB_bad {L : List ByteArray} {k : Nat} {nm : ByteArray} (hkl : k < L.length) (hnm : L[k] = nm) (hm : mayL nm.data.toList = false) : joinB L = ⟨#[]⟩ := by
  refine joinB_none (fun e => by subst e; simp at hkl) fun ⟨hall, _⟩ => ?_
  have := List.all_eq_true.1 hall nm.data.toList (List.mem_map.2 ⟨nm, by rw [← hnm]; exact List.getElem_mem hkl, rfl⟩)
  rw [hm] at this
  cases this
theorem joinL_step {L : List ByteArray} {k : Nat} {nm x : ByteArray} (hkl : k < L.length) (hnm : L[k] = nm) (hx : x.data.toList = joinL ((L.take k).map (·.data.toList))) : (x ++ (⟨#[47]⟩ ++ nm)).data.toList = joinL ((L.take (k + 1)).map (·.data.toList)) := by
  rw [List.take_add_one, List.getElem?_eq_getElem hkl, hnm, Option.toList_some, List.map_append, List.map_cons, List.map_nil, joinL_snoc, ← hx, app_data, app_data]
  rfl
theorem joinB_long {L : List ByteArray} {k : Nat} {nm x : ByteArray} (hkl : k < L.length) (hnm : L[k] = nm) (hx : x.data.toList = joinL ((L.take k).map (·.data.toList))) (hl : 60 < (x.size : Int) + (1 + nm.size)) : joinB L = ⟨#[]⟩ := by
  refine joinB_none (fun e => by subst e; simp at hkl) fun ⟨_, hlen⟩ => ?_
  have e := joinL_step hkl hnm hx
  have h1 : (joinL (L.map (·.data.toList))).length = (joinL ((L.take (k + 1)).map (·.data.toList))).length + (joinL ((L.drop (k + 1)).map (·.data.toList))).length := by
    rw [← List.length_append, ← joinL_append, ← List.map_append, List.take_append_drop]
  rw [← e, ← Lib.size_eq, ByteArray.size_append, ByteArray.size_append] at h1
  have h2 : (⟨#[47]⟩ : ByteArray).size = 1 := rfl
  omega
theorem joinB_all {L : List ByteArray} {x : ByteArray} (h0 : L ≠ []) (hx : x.data.toList = joinL ((L.take L.length).map (·.data.toList))) (hl : x.size ≤ 60) (hm : ∀ j (h : j < L.length), j < L.length → mayL (L[j]).data.toList = true) : joinB L = x := by
  rw [List.take_length] at hx
  refine byte_ext ?_
  rw [joinB_data]
  unfold joinP
  rw [if_neg (by simpa using h0), if_pos, hx]
  refine ⟨?_, by rw [← hx, ← Lib.size_eq]; exact hl⟩
  rw [List.all_eq_true]
  intro y hy
  obtain ⟨nm, hn, rfl⟩ := List.mem_map.1 hy
  obtain ⟨j, hj, rfl⟩ := List.getElem_of_mem hn
  exact hm j hj hj

set_option maxRecDepth 100000 in
theorem join_any (A : Option Addr) (c lo : Nat) (L : List ByteArray) (w : World) (h : SL w lo A L) (hL : L.length ≤ 1000000) : Calls Tryd.prog 9 #[.slice A L.length c] w fun e w' => e = .returned (.string (joinB L)) ∧ Below w.heap.size w w' := by
  by_cases h0 : L = []
  · subst h0
    go_enter Tryd.func9, Tryd.ntmps9
    go_wp2_with fail
    go_ret
    exact ⟨rfl, Below.refl _ _⟩
  have hn0 : ((L.length : Int) == 0) = false := by
    simpa using h0
  have hn1 : ¬ (L.length : Int) = 0 := by simpa using h0
  have H := Lib.hid h
  clear h
  obtain ⟨J, hJ⟩ : ∃ J, joinB L = J := ⟨_, rfl⟩
  rw [hJ]
  replace hJ := Lib.hid hJ
  replace h0 := Lib.hid h0
  go_enter Tryd.func9, Tryd.ntmps9
  go_wp2_with fail
  go_loopw [3, 5, 11] (fun v3 _ v11 wx => ∃ (k : Nat) (x : ByteArray), v11 = .int .i64 k ∧ v3 = .string x ∧ k ≤ L.length ∧ x.size ≤ 60 ∧ Below w.heap.size w wx ∧ Hid (x.data.toList = joinL ((L.take k).map (·.data.toList)) ∧ ∀ j (h : j < L.length), j < k → mayL (L[j]).data.toList = true)) (fun _ _ v11 _ => L.length - (RowKit.intOf v11).toNat)
  case atStart => exact ⟨0, ⟨#[]⟩, rfl, rfl, Nat.zero_le _, by decide, Below.refl _ _, Lib.hid ⟨rfl, fun j _ h => absurd h (Nat.not_lt_zero j)⟩⟩
  case round =>
    obtain ⟨k, x, rfl, rfl, hk, hx60, hbx, HM⟩ := hrel
    have hb3 : Hid (Below w.heap.size w wr) := Lib.hid hbx
    by_cases hkl : k < L.length
    · have d5 : decide ((k : Int) < (L.length : Int)) = true := decide_eq_true (by omega)
      obtain ⟨b, eb, hb4, hb5, hcell⟩ := H.out.below hb3.out (fun e => by subst e; simp at hkl)
      cases eb
      have hck := hcell k hkl
      obtain ⟨nm, hnm⟩ : ∃ nm, L[k] = nm := ⟨_, rfl⟩
      rw [hnm] at hck
      replace hnm := Lib.hid hnm
      clear hcell hbx
      cases hmy : mayL nm.data.toList with
      | true =>
        have hn8 : nm.size ≤ 8 := by
          by_cases h8 : (8 : Int) < nm.size
          · rw [mayL_long h8] at hmy; cases hmy
          · omega
        by_cases h60 : (60 : Int) < (x.size : Int) + (1 + nm.size)
        · have hJ2 : J = ⟨#[]⟩ := by rw [← hJ.out]; exact joinB_long hkl hnm.out HM.out.1 h60
          subst hJ2
          go_wp2_with (first
            | (go_at_call 8; (with_reducible refine (may_any _ _).mono ?_); rintro e w4 ⟨rfl, hb6⟩; rw [hmy]; replace hb6 := Lib.hid hb6)
            | fail)
          go_ret
          exact ⟨rfl, hb3.out.trans (hb6.out.mono hb3.out.size)⟩
        · have hsz := Lib.hid (show (x ++ (⟨#[47]⟩ ++ nm)).size ≤ 60 by
            rw [ByteArray.size_append, ByteArray.size_append]
            have h2 : (⟨#[47]⟩ : ByteArray).size = 1 := rfl
            omega)
          go_wp2_with (first
            | (go_at_call 8; (with_reducible refine (may_any _ _).mono ?_); rintro e w4 ⟨rfl, hb6⟩; rw [hmy]; replace hb6 := Lib.hid hb6)
            | fail)
          go_roundw
          case rel =>
            refine ⟨k + 1, _, rfl, rfl, by omega, hsz.out, hb3.out.trans (hb6.out.mono hb3.out.size), Lib.hid ⟨joinL_step hkl hnm.out HM.out.1, fun j hj hjk => ?_⟩⟩
            by_cases e : j = k
            · subst e
              rw [hnm.out]
              exact hmy
            · exact HM.out.2 j hj (by omega)
          case measure =>
            simp [RowKit.intOf]
            omega
      | false =>
        have hJ2 : J = ⟨#[]⟩ := by rw [← hJ.out]; exact joinB_bad hkl hnm.out hmy
        subst hJ2
        go_wp2_with (first
          | (go_at_call 8; (with_reducible refine (may_any _ _).mono ?_); rintro e w4 ⟨rfl, hb6⟩; rw [hmy]; replace hb6 := Lib.hid hb6)
          | fail)
        go_ret
        exact ⟨rfl, hb3.out.trans (hb6.out.mono hb3.out.size)⟩
    · have d5 : decide ((k : Int) < (L.length : Int)) = false := decide_eq_false (by omega)
      go_wp2_with fail
      have hke : k = L.length := by omega
      subst hke
      have hJ2 : J = x := by rw [← hJ.out]; exact joinB_all h0.out HM.out.1 hx60 HM.out.2
      go_ret
      exact ⟨by rw [hJ2]; rfl, hb3.out⟩
end Go.Proofs.YtinkkmlbhkfmnaaDoor
