/- Package name: Names: a row of texts that the call makes. -/
import Derived.Test.YtnmcnnackokhcaaEnR
import Derived.LoopTactic
import Derived.Laws.Rows
import Derived.Deep.OwnRows
import Derived.Laws.OwnMore
namespace Go.Proofs.Ytnmcnnackokhcaa
open Go.RowKit Go.Lib

/-- At A these texts lie. -/
def TLies (w : World) (A : Option Addr) (l : List ByteArray) : Prop :=
  0 < l.length → ∃ B o, A = some ⟨B, o, none⟩ ∧ B < w.heap.size ∧ ∀ j (h : j < l.length), w.cell? ⟨B, o + j, none⟩ = some (.string l[j])
theorem TLies.below {w w' : World} {A : Option Addr} {l : List ByteArray} (h : TLies w A l) (hb : Below w.heap.size w w') : TLies w' A l := fun hn => by
  obtain ⟨B, o, e, hB, hc⟩ := h hn
  exact ⟨B, o, e, Nat.lt_of_lt_of_le hB hb.size, fun j hj => (hb.cell (p := ⟨B, o + j, none⟩) hB).trans (hc j hj)⟩
def fillS {α β : Type} (f : α → β) (d : β) (l : List α) (j : Nat) : List β := (l.take j).map f ++ List.replicate (l.length - j) d
theorem fillS_zero {α β : Type} (f : α → β) (d : β) (l : List α) : fillS f d l 0 = List.replicate l.length d := by simp [fillS]
theorem fillS_all {α β : Type} (f : α → β) (d : β) (l : List α) : fillS f d l l.length = l.map f := by simp [fillS]
theorem fillS_length {α β : Type} (f : α → β) (d : β) (l : List α) (j : Nat) (h : j ≤ l.length) : (fillS f d l j).length = l.length := by simp [fillS]; omega
theorem fillS_set {α β : Type} (f : α → β) (d : β) (l : List α) (j : Nat) (h : j < l.length) : (fillS f d l j).set j (f l[j]) = fillS f d l (j + 1) := by
  unfold fillS
  rw [List.take_succ_eq_append_getElem h, List.set_append_right _ _ (by rw [List.length_map, List.length_take]; omega), show l.length - j = (l.length - (j + 1)) + 1 by omega, List.replicate_succ]
  have e : j - (List.map f (List.take j l)).length = 0 := by rw [List.length_map, List.length_take]; omega
  rw [e, List.map_append]
  simp
theorem made_strs (n : Nat) : madeCells #[Value.string ⟨#[]⟩] n = ((List.replicate n (⟨#[]⟩ : ByteArray)).map Value.string).toArray := by
  apply Array.ext
  · simp [madeCells]
  · intro i h1 h2
    simp [madeCells, Nat.mod_one]
theorem info_str : (Try.prog.info? 9).map (fun i => (i.zero, i.size, i.bytes)) = some (some (.string ⟨#[]⟩), 1, 16) := by kernel_rfl
theorem make_strs (n : Nat) (h : n ≤ 1000000) (w : World) : (Instr.makeSlice 29 (.int .i64 n) (.int .i64 n)).run Try.prog w = .ok (.slice (some ⟨w.heap.size, 0, none⟩) n n) (w.alloc (.cells (madeCells #[Value.string ⟨#[]⟩] n) 9)) :=
  run_make_row' 29 9 (.string ⟨#[]⟩) 16 Try.underlying29 info_str rfl .i64 .i64 n (by omega) (by omega) w
theorem str_set {w : World} {g : Nat} {l : List ByteArray} {t : TypeId} (h : w.heap[g]? = some (.cells (l.map Value.string).toArray t (0, 0))) (k : Nat) (v : ByteArray) : (w.setCell ⟨g, k, none⟩ (.string v)).heap[g]? = some (.cells ((l.set k v).map Value.string).toArray t (0, 0)) := by
  rw [heap_setCell_same w g k _ t _ h]
  simp [List.map_set]
theorem str_cell {w : World} {g : Nat} {l : List ByteArray} {t : TypeId} (h : w.heap[g]? = some (.cells (l.map Value.string).toArray t (0, 0))) (k : Nat) (hk : k < l.length) : w.cell? ⟨g, k, none⟩ = some (.string l[k]) := by
  simp [World.cell?, h, hk]
theorem str_frozen {w : World} {p : Nat} {cs : Array Value} {t : TypeId} (h : w.heap[p]? = some (.cells cs t (0, 0))) (j : Nat) : w.frozen? ⟨p, j, none⟩ = false := by
  simp [World.frozen?, h]
theorem str_arr {w : World} {g : Nat} {l : List ByteArray} {t : TypeId} (h : w.heap[g]? = some (.cells (l.map Value.string).toArray t (0, 0))) : TLies w (some ⟨g, 0, none⟩) l := fun _ =>
  ⟨g, 0, rfl, (Array.getElem?_eq_some_iff.1 h).1, fun j hj => by rw [Nat.zero_add]; exact str_cell h j hj⟩
set_option maxRecDepth 100000 in
set_option maxHeartbeats 2000000 in
theorem names_any (A : Option Addr) (c : Nat) (l : List Ent) (w : World) (hA : ELies w A l) (hl : l.length ≤ 1000) :
    Calls Try.prog 13 #[.slice A l.length c] w fun e w' => ∃ A' c', e = .returned (.slice A' l.length c') ∧ TLies w' A' (l.map fun e : Ent => e.1) ∧ (∀ ad, A' = some ad → w.heap.size ≤ ad.block) ∧ Below w.heap.size w w' := by
  have HA := Lib.hid hA
  clear hA
  have hmk := fun w1 : World => make_strs l.length (by omega) w1
  have HX0 := Lib.hid (heap_alloc_new w (.cells (madeCells #[Value.string ⟨#[]⟩] l.length) 9))
  have HB0 := Lib.hid ((Below.refl w.heap.size w).alloc (Nat.le_refl _) (.cells (madeCells #[Value.string ⟨#[]⟩] l.length) 9))
  have HE := Lib.hid (made_strs l.length)
  go_enter Try.func13, Try.ntmps13
  go_wp2_with fail
  rw [HE.out] at HX0 HB0 ⊢
  obtain ⟨G, hG⟩ : ∃ G, G = w.heap.size := ⟨_, rfl⟩
  have HG := Lib.hid hG
  rw [← hG] at HX0 ⊢
  generalize w.alloc (.cells _ 9) = w1 at HX0 HB0 ⊢
  clear hmk hG
  go_loopw [4, 11] (fun _ v11 wr => ∃ j : Nat, j ≤ l.length ∧ v11 = .int .i64 j ∧ wr.heap[G]? = some (.cells ((fillS (fun e : Ent => e.1) (⟨#[]⟩ : ByteArray) l j).map Value.string).toArray 9 (0, 0)) ∧ Below w.heap.size w wr) (fun _ v11 _ => l.length - (RowKit.intOf v11).toNat)
  case atStart => exact ⟨0, Nat.zero_le _, rfl, by rw [fillS_zero]; exact HX0.out, HB0.out⟩
  case round =>
    obtain ⟨j, hj, rfl, hx, hB⟩ := hrel
    have HX := Lib.hid hx
    have HB := Lib.hid hB
    have hs := hB.size
    have hGs := (Array.getElem?_eq_some_iff.1 hx).1
    clear hx hB
    by_cases hj1 : j < l.length
    · obtain ⟨B, o, rfl, hBs, hc⟩ := (HA.out.below HB.out) (by omega)
      obtain ⟨k0, k1⟩ := hc j hj1
      have hjf : j < (fillS (fun e : Ent => e.1) (⟨#[]⟩ : ByteArray) l j).length := by rw [fillS_length _ _ _ _ hj]; exact hj1
      clear hc
      have HN := Lib.hid (fillS_set (fun e : Ent => e.1) (⟨#[]⟩ : ByteArray) l j hj1)
      generalize l[j] = b at k0 k1 HN
      have hx2 : (wr.alloc (.cells #[.string b.1, .int .i64 b.2] 32)).heap[G]? = some (.cells ((fillS (fun e : Ent => e.1) (⟨#[]⟩ : ByteArray) l j).map Value.string).toArray 9 (0, 0)) := (heap_alloc_old _ _ hGs).trans HX.out
      have q0 := str_cell hx2 j hjf
      have q1 := str_frozen hx2 j
      have HXN := Lib.hid (str_set HX.out j (((fun e : Ent => e.1) : Ent → _) b))
      rw [HN.out] at HXN
      clear hx2
      generalize (fillS (fun e : Ent => e.1) (⟨#[]⟩ : ByteArray) l j)[j] = old at q0
      go_wp2_with fail
      go_roundw
      case rel => exact ⟨j + 1, by omega, by go_num, (heap_alloc_old _ _ (by simpa using hGs)).trans HXN.out, (HB.out.setCell (p := ⟨G, j, none⟩) (by rw [HG.out]; exact Nat.le_refl _) _).alloc (by simp; omega) _⟩
      case measure => simp [RowKit.intOf]; omega
    · obtain rfl : j = l.length := by omega
      have HZ := Lib.hid (fillS_all (fun e : Ent => e.1) (⟨#[]⟩ : ByteArray) l)
      go_wp2_with fail
      go_ret
      refine ⟨some ⟨G, 0, none⟩, l.length, rfl, ?_, fun ad e => ?_, HB.out⟩
      · rw [← HZ.out]; exact str_arr HX.out
      · cases e; rw [HG.out]; exact Nat.le_refl _
end Go.Proofs.Ytnmcnnackokhcaa
