/- A pool: refs of what was found. -/
import Derived.Test.YtnadcdgpfopcaaaGreatPoH1
namespace Go.Proofs.YtnadcdgpfopcaaaGreat
open Go.RowKit

section
variable {w w' V : World} {p c l f : Nat} {x y X Y Z : Nat → Prop} {Q Q1 : PS} {T : List Fd} {S : LS}
theorem info_ref : (Tryz.prog.info? 33).map (fun i => (i.zero, i.size, i.bytes)) = some (some (.agg #[.int .i64 0, .int .i64 0]), 2, 16) := by kernel_rfl
def rcells (l : List P2) : List Value := l.flatMap fun r => [.int .i64 r.1, .int .i64 r.2]
theorem rcells_len (l : List P2) : (rcells l).length = l.length * 2 := by
  induction l with
  | nil => rfl
  | cons r l ih => unfold rcells at ih ⊢; rw [List.flatMap_cons, List.length_append, ih]; simp; omega
theorem rcells_snoc (l : List P2) (r : P2) : rcells (l ++ [r]) = rcells l ++ [.int .i64 r.1, .int .i64 r.2] := by simp [rcells]
theorem rcells_get (l : List P2) : ∀ j (h : j < l.length), (rcells l)[j * 2]? = some (.int .i64 l[j].1) ∧ (rcells l)[j * 2 + 1]? = some (.int .i64 l[j].2) := by
  induction l with
  | nil => intro j h; cases h
  | cons r l ih =>
    intro j h
    have e : rcells (r :: l) = .int .i64 r.1 :: .int .i64 r.2 :: rcells l := by simp [rcells]
    rw [e]
    cases j with
    | zero => simp
    | succ j =>
      have := ih j (by simpa using h)
      rw [show (j + 1) * 2 = j * 2 + 1 + 1 by omega]
      simpa using this
/-- A row of refs of the call's own. -/
def ROwn (w : World) (base : Nat) (v : Value) (l : List P2) : Prop := w.ownsRow base 33 2 v l.length (rcells l)
theorem ROwn.nil (w : World) (base : Nat) : ROwn w base (.slice none 0 0) [] := World.ownsRow_nil _ _ _ _
theorem ROwn.keep {base : Nat} {v : Value} {l : List P2} (h : ROwn w base v l) (hb : Below w.heap.size w w') : ROwn w' base v l := own_keep h fun k e => hb.block k (World.ownsRow.lt h k e).2
theorem ROwn.lies {base m : Nat} {A : Option Addr} {l : List P2} (h : ROwn w base (.slice A l.length m) l) : RLies w A l ∧ (∀ ad, A = some ad → base ≤ ad.block ∧ ad.block < w.heap.size) := by
  refine ⟨fun hn => ?_, fun ad e => ?_⟩
  · rcases h.2 with ⟨_, e⟩ | ⟨g, cap, cur, e, _, hg, _⟩
    · omega
    · simp at e
      obtain ⟨rfl, _⟩ := e
      have hlt := World.ownsRow.lt h g rfl
      refine ⟨g, 0, rfl, hlt.2, fun j hj => ?_⟩
      obtain ⟨g0, g1⟩ := rcells_get l j hj
      have h' : w.ownsRow base 33 2 (.slice (some ⟨g, 0, none⟩) l.length m) l.length (rcells l) := h
      have k0 := World.ownsRow.cellAt h' (j * 2) (by omega)
      have k1 := World.ownsRow.cellAt h' (j * 2 + 1) (by omega)
      rw [Nat.zero_add, k0, k1]
      exact ⟨g0, g1⟩
  · subst e
    rcases h.2 with ⟨e2, _⟩ | ⟨g, cap, cur, e2, _⟩
    · simp at e2
    · simp at e2
      obtain ⟨rfl, _⟩ := e2
      exact World.ownsRow.lt h g rfl
set_option maxRecDepth 100000 in
set_option maxHeartbeats 4000000 in
theorem q_refs (A : Option Addr) (m : Nat) (l0 : List Fd) (w : World) (hl : FLies w A l0) (hlen : l0.length ≤ 1000) : Calls Tryz.prog 63 #[.slice A l0.length m] w fun e w' => ∃ A' m', e = .returned (.slice A' (l0.map (·.1)).length m') ∧ RLies w' A' (l0.map (·.1)) ∧ (∀ ad, A' = some ad → w.heap.size ≤ ad.block ∧ ad.block < w'.heap.size) ∧ ROwn w' w.heap.size (.slice A' (l0.map (·.1)).length m') (l0.map (·.1)) ∧ Below w.heap.size w w' := by
  obtain ⟨i0, hi0, hz0, hs0, hby0⟩ := info_parts info_ref
  have HL := Lib.hid hl
  clear hl
  go_enter Tryz.func63, Tryz.ntmps63
  go_wp2_with fail
  go_loopw [3, 8] (fun v3 v8 wr => ∃ j : Nat, j ≤ l0.length ∧ v8 = .int .i64 j ∧ ROwn wr w.heap.size v3 ((l0.take j).map (·.1)) ∧ Below w.heap.size w wr) (fun _ v8 _ => l0.length - (intOf v8).toNat)
  case atStart => exact ⟨0, Nat.zero_le _, rfl, .nil _ _, Below.refl _ _⟩
  case round =>
    obtain ⟨j, hj, rfl, hO, hB⟩ := hrel
    have HB := Lib.hid hB
    have HO := Lib.hid hO
    have hs := hB.size
    clear hB hO
    by_cases hj1 : j < l0.length
    · obtain ⟨B, o, rfl, hBs, hc⟩ := (HL.out.below HB.out) (by omega)
      obtain ⟨k0, k1, k2, k3⟩ := hc j hj1
      have HTK : Hid ((l0.take (j + 1)).map (·.1) = (l0.take j).map (·.1) ++ [l0[j].1]) := Lib.hid (by rw [List.take_succ_eq_append_getElem hj1, List.map_append]; rfl)
      have hjl : ((l0.take j).map (·.1)).length = j := by simp; omega
      clear hc
      generalize l0[j] = fd at k0 k1 k2 k3 HTK
      obtain ⟨xs, hxs⟩ : ∃ xs, xs = (l0.take j).map (·.1) := ⟨_, rfl⟩
      rw [← hxs] at HO HTK hjl
      have hown := HO.out
      unfold ROwn at hown
      rw [hjl] at hown
      obtain ⟨V, mv, rfl, _⟩ := own_slice hown
      have HOW := Lib.hid hown
      have HJL := Lib.hid hjl
      clear hown hjl hxs
      obtain ⟨W2, hW2⟩ : ∃ W2, wr.alloc (.cells #[.int .i64 fd.1.1, .int .i64 fd.1.2, .int .i64 fd.2.1, .int .i64 fd.2.2] 71) = W2 := ⟨_, rfl⟩
      have HB2 : Hid (Below wr.heap.size wr W2) := Lib.hid (by rw [← hW2]; exact (Below.refl _ _).alloc (Nat.le_refl _) _)
      have HG2 : Hid (W2.heap[wr.heap.size]? = some (.cells #[.int .i64 fd.1.1, .int .i64 fd.1.2, .int .i64 fd.2.1, .int .i64 fd.2.2] 71 (0, 0))) := Lib.hid (by rw [← hW2]; exact heap_alloc_new _ _)
      obtain ⟨b0, b1, b2, b3, -⟩ := cells4q HG2.out
      obtain ⟨W3, hW3⟩ : ∃ W3, W2.alloc (.cells #[.int .i64 fd.1.1, .int .i64 fd.1.2] 33) = W3 := ⟨_, rfl⟩
      have HB3 : Hid (Below wr.heap.size wr W3) := Lib.hid (by rw [← hW3]; exact HB2.out.alloc HB2.out.size _)
      have HG3 : Hid (W3.heap[W2.heap.size]? = some (.cells #[.int .i64 fd.1.1, .int .i64 fd.1.2] 33 (0, 0))) := Lib.hid (by rw [← hW3]; exact heap_alloc_new _ _)
      have HOW3 : Hid (W3.ownsRow w.heap.size 33 2 (.slice V j mv) j (rcells xs)) := Lib.hid (own_keep HOW.out fun k e => HB3.out.block k (World.ownsRow.lt HOW.out k e).2)
      have hs3 : w.heap.size ≤ W3.heap.size := Nat.le_trans hs HB3.out.size
      go_wp2_with (at_builtin; refine wpList_append_at rfl _ _ _ rfl w.heap.size 33 i0 _ 2 16 Tryz.underlying64 hi0 hz0 hs0 hby0 rfl (by decide) (.slice V j mv) j (rcells xs) rfl HOW3.out ⟨W2.heap.size, 0, none⟩ 1 1 [.int .i64 fd.1.1, .int .i64 fd.1.2] rfl rfl (fun k u hu => by match k, hu with | 0, hu => (simp at hu; subst hu; simp [World.cell?, HG3.out, Addr.add]) | 1, hu => (simp at hu; subst hu; simp [World.cell?, HG3.out, Addr.add]) | n + 2, hu => simp at hu) (fun u hu => by simp at hu; rcases hu with rfl | rfl <;> rfl) (by unfold maxLen; omega) (by omega) hs3 ?_; intro q3 cap3 w4 hown4 hg4 hob4)
      have HO4 : Hid (ROwn w4 w.heap.size (.slice q3 (j + 1) cap3) (xs ++ [fd.1])) := Lib.hid (by unfold ROwn; rw [rcells_snoc, List.length_append, HJL.out]; exact hown4)
      have HB4 : Hid (Below w.heap.size w w4) := Lib.hid ((HB.out.trans (HB3.out.mono hs)).grown hg4 hs3 fun k e => (World.ownsRow.lt HOW3.out k e).1)
      clear hown4 hg4 hob4 hW2 hW3
      go_roundw
      case rel => exact ⟨j + 1, by omega, by go_num, by rw [HTK.out]; exact HO4.out, HB4.out⟩
      case measure => simp [intOf]; omega
    · obtain rfl : j = l0.length := by omega
      have hz : (l0.take l0.length) = l0 := List.take_length
      rw [hz] at HO
      obtain ⟨V, mv, hv, _⟩ := own_slice HO.out
      rw [hv] at HO ⊢
      clear hz hv
      go_wp2_with fail
      go_ret
      exact ⟨V, mv, rfl, HO.out.lies.1, HO.out.lies.2, HO.out, HB.out⟩
end
end Go.Proofs.YtnadcdgpfopcaaaGreat
