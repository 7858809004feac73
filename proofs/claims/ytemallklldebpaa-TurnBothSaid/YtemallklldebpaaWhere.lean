/- Where of package turn: the closure iterates over a copy of the list. -/
import Derived.Maps.AppendAt
import Derived.Test.YtemallklldebpaaGather
namespace Go.Proofs.Ytemallklldebpaa
open Go.RowKit Go.Shelf

theorem info4 : (Try.prog.info? 4).map (fun i => (i.zero, i.size, i.bytes)) = some (some (.bool false), 1, 1) := by kernel_rfl

theorem slice_nil_29 (ad : Addr) (n c : Nat) (w : World) : Sem.run Try.prog (binOp BinOp.eql 29 (.slice (some ad) n c) (.slice none 0 0)) w = .ok (.bool false) w := by kernel_rfl
theorem nil_nil_29 (w : World) : Sem.run Try.prog (binOp BinOp.eql 29 (.slice none 0 0) (.slice none 0 0)) w = .ok (.bool true) w := by kernel_rfl

/-- The slice value sv holds the bools bs. -/
def BoolsIn (W : World) (sv : Value) (bs : List Bool) : Prop :=
  (sv = .slice none 0 0 ∧ bs = []) ∨ ∃ ad cap, sv = .slice (some ad) bs.length cap ∧ ∀ j, j < bs.length → W.cell? (ad.add j) = some (.bool (bs[j]?.getD false))

def ClonePost (bs : List Bool) (w : World) (e : Ending) (W' : World) : Prop :=
  ∃ sv, e = .returned sv ∧ W'.ownsRow w.heap.size 4 1 sv bs.length (bs.map Value.bool) ∧ Below w.heap.size w W'

set_option maxHeartbeats 1000000 in
theorem clone_any (sv : Value) (bs : List Bool) (hlen : bs.length ≤ 1000000) (w : World) (h : BoolsIn w sv bs) :
    Calls Try.prog 19 #[sv] w (ClonePost bs w) := by
  obtain ⟨i0, hi, hz0, hz1, hz2⟩ := info_parts info4
  rcases h with ⟨rfl, rfl⟩ | ⟨ad, cap, rfl, hc⟩
  · have hn := nil_nil_29 w
    go_enter Try.func19, Try.ntmps19
    go_wp2
    go_ret
    exact ⟨_, rfl, World.ownsRow_nil _ _ _ _, Below.refl _ _⟩
  · have hn := slice_nil_29 ad bs.length cap w
    have hl := World.ownsRow_lit (base := w.heap.size) (e := 4) (size := 1) w #[] 0 (Nat.le_refl _) (by unfold maxLen; omega) rfl
    have hnews : ∀ (j : Nat) u, (bs.map Value.bool)[j]? = some u → (w.alloc (.cells #[] 4)).cell? (ad.add j) = some u := by
      intro j u hu
      have hj : j < bs.length := by
        have := (List.getElem?_eq_some_iff.1 hu).1
        simpa using this
      have h1 := hc j hj
      have : u = .bool (bs[j]?.getD false) := by simp [hj] at hu ⊢; exact hu.symm
      subst this
      exact cell_kept h1 (World.grownBy_alloc w _ none) (fun r e => by cases e)
    go_enter Try.func19, Try.ntmps19
    go_wp2_with (at_builtin; refine wpList_append_own _ rfl _ _ 29 rfl w.heap.size 4 i0 (.bool false) 1 1 Try.underlying29 hi hz0 hz1 hz2 rfl (by decide) _ _ _ rfl hl ad bs.length cap (bs.map Value.bool) rfl (by simp) hnews (by intro u hu; obtain ⟨b, _, rfl⟩ := List.mem_map.1 hu; rfl) (by unfold maxLen; omega) (by omega) (by simp) ?_; intro v' w1 hown' hgrow _)
    go_ret
    exact ⟨_, rfl, by simpa using hown', ((Below.refl _ w).alloc (Nat.le_refl _) _).grown hgrow (by simp) (fun k e => by cases e; exact Nat.le_refl _)⟩

/-- What a slice of its own holds, read as bools. -/
theorem boolsAt_of_owns {W : World} {base : Nat} {sv : Value} {bs : List Bool} (h : W.ownsRow base 4 1 sv bs.length (bs.map Value.bool)) (c : Nat) (hc : base ≤ c) (hs : c < W.heap.size) : ∃ b, base ≤ b ∧ b < W.heap.size ∧ BoolsAt b W sv bs := by
  by_cases h0 : bs = []
  · subst h0
    obtain ⟨p, cap, rfl⟩ : ∃ p cap, sv = .slice p 0 cap := ownsRow_slice h
    exact ⟨c, hc, hs, .inl ⟨p, cap, rfl, rfl⟩⟩
  · obtain ⟨k, hk⟩ : ∃ k, bs.length = k + 1 := ⟨bs.length - 1, by have := List.length_pos_iff.2 h0; omega⟩
    have hk' := hk
    rw [hk] at h
    obtain ⟨g, cap, rfl⟩ := ownsRow_succ h
    refine ⟨g, (h.lt g rfl).1, (h.lt g rfl).2, .inr ⟨0, cap, by rw [hk], fun j hj => ?_⟩⟩
    have := h.cellAt j (by omega)
    rw [Nat.zero_add, this]
    simp [hj]

/-- What Where leaves: an iterator over the places that are true; it leans on one block. -/
def WherePost (bs : List Bool) (w : World) (e : Ending) (W' : World) : Prop :=
  ∃ B b, e = .returned (.func (.func 20) #[] #[.pointer (some ⟨B, 0, none⟩)]) ∧ w.heap.size ≤ b ∧ b < W'.heap.size ∧
    (∀ m, SeqStopsK Fence.wide m Try.prog 20 #[.pointer (some ⟨B, 0, none⟩)] encI (KeepsBlk b) (fun ys => ys = whereTo bs bs.length) (fun pre => pre <+: whereTo bs bs.length) (whereTo bs bs.length).length W') ∧ Below w.heap.size w W'
theorem enters20 : ∀ args w, (callFunc 20 args).run Try.prog w = .ok (.enter 20 args) w := enters_of Try.func20 (by kernel_rfl) rfl
theorem where_gives {bs : List Bool} {B b : Nat} {W : World} (h : ∀ m, SeqStopsK Fence.wide m Try.prog 20 #[.pointer (some ⟨B, 0, none⟩)] encI (KeepsBlk b) (fun ys => ys = whereTo bs bs.length) (fun pre => pre <+: whereTo bs bs.length) (whereTo bs bs.length).length W) (hb : b < W.heap.size) :
    Gives 20 #[.pointer (some ⟨B, 0, none⟩)] (whereTo bs bs.length) W.heap.size W :=
  ⟨enters20, fun m => seq_keeps_more (h m) fun _ _ hk => KeepsBlk.of_below hk hb⟩

set_option maxHeartbeats 1000000 in
theorem where_any (sv : Value) (bs : List Bool) (hlen : bs.length ≤ 1000000) (w : World) (h : BoolsIn w sv bs) :
    Calls Try.prog 13 #[sv] w (WherePost bs w) := by
  go_enter Try.func13, Try.ntmps13
  go_wp2_with (go_at_call 19; refine (clone_any sv bs hlen _ h).mono ?_; rintro e w1 ⟨sv1, rfl, hr, hb⟩; obtain ⟨p, cap, rfl⟩ := ownsRow_slice hr)
  go_ret
  have hx := (Boxed.new w1 29 (.slice p bs.length cap)).cell
  obtain ⟨b, hb0, hbl, hba⟩ := boolsAt_of_owns (hr.alloc (.cells #[.slice p bs.length cap] 29)) w1.heap.size hb.size (by simp)
  exact ⟨w1.heap.size, b, rfl, hb0, hbl, fun m => where_stops m w1.heap.size b _ bs (by omega) _ (by simp) hbl hx hba, hb.alloc hb.size _⟩
end Go.Proofs.Ytemallklldebpaa
