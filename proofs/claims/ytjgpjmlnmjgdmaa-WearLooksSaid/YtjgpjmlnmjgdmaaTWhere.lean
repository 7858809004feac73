/- Where of package turn: an iterator over the places that are true, whatever the loop body does to what lies from n₀ on. -/
import Derived.RangeFuncNested
import Derived.RangeFuncBound
import Derived.RangeFuncCalls
import Derived.RangeFuncLeaves
import Derived.Shelf.Abstract
import Derived.Shelf.RegionOpen
import Derived.WalkKit
import Derived.OwnWalkIn
import Derived.TacticsInMore
import Derived.LoopNIn
import Derived.LoopIn
import Derived.IntWalk
import Derived.Lib.Hide
import Derived.Outline
import Derived.Maps.AppendAt
import Derived.Test.YtjgpjmlnmjgdmaaProg
namespace Go.Proofs.Ytjgpjmlnmjgdmaa
open Go.RowKit Go.Shelf

attribute [local go_sem] Oper.semAt_some

theorem room_none {F : Fence} (hd : F.depth = none) (k : Nat) : F.room k := fun d h => by rw [hd] at h; cases h
theorem RoundIn_any {F : Fence} (hd : F.depth = none) {m m' : Nat} {P : Program} {l : Nat} {f : FuncId} {tmps : Array Value} {assign body : Code} {w : World} {R : Ending → World → Prop}
    (h : RoundIn F m P l f tmps assign body w R) : RoundIn F m' P l f tmps assign body w R := ⟨h.1, fun c cs _ => h.2 c cs (room_none hd _)⟩
theorem YieldAt_any {F : Fence} (hd : F.depth = none) {m : Nat} (m' : Nat) {P : Program} {l : Nat} {args : Array Value} {W : World} {R : Ending → World → Prop} (h : YieldAt F m P l args W R) : YieldAt F m' P l args W R := by
  obtain ⟨fn, tmps, assign, body, hy, hR⟩ := h
  exact ⟨fn, tmps, assign, body, hy, RoundIn_any hd hR⟩

theorem wide_depth (k : Nat) : Fence.wide.depth.isSome = true → 1 ≤ k := fun h => by cases h

/-- The way a round may end, of an element x of an iterator's. -/
abbrev RoundEnds {α : Type} (Kp : World → World → Prop) (J Jx : List α → World → Prop) (pre : List α) (x : α) (W : World) (e : Ending) (W' : World) : Prop :=
  (e = .returned (.bool true) ∧ J (pre ++ [x]) W' ∧ Kp W W') ∨ (e = .returned (.bool false) ∧ Jx (pre ++ [x]) W')

/-- Block b lies as it lay. -/
def KeepsBlk (b : Nat) (W W' : World) : Prop := W'.heap[b]? = W.heap[b]?
theorem KeepsBlk.refl (b : Nat) (W : World) : KeepsBlk b W W := rfl
theorem KeepsBlk.trans {b : Nat} {X Y Z : World} (h : KeepsBlk b X Y) (k : KeepsBlk b Y Z) : KeepsBlk b X Z := Eq.trans k h
theorem KeepsBlk.cell {b : Nat} {X Y : World} (h : KeepsBlk b X Y) (o : Nat) : Y.cell? ⟨b, o, none⟩ = X.cell? ⟨b, o, none⟩ := World.cell?_of_block h
theorem KeepsBlk.of_below {n₀ b : Nat} {X Y : World} (h : Below n₀ X Y) (hb : b < n₀) : KeepsBlk b X Y := h.block b hb
theorem keepsBlk_b {b : Nat} {w : World} (hb : b < w.heap.size) (W : World) (l : Nat) (o o' : Obj) (hl : w.heap.size ≤ l) (_ : W.heap[l]? = some o) (_ : o.isCells = false) (_ : o.isWalk = false) : KeepsBlk b W (W.putObj l o') :=
  World.putObj_heap_other (by omega)
theorem KeepsBlk.alloc {b : Nat} (W : World) (h : b < W.heap.size) (o : Obj) : KeepsBlk b W (W.alloc o) := Below.heap_alloc _ _ _ h
theorem KeepsBlk.setCell {b : Nat} (W : World) (a : Addr) (h : b ≠ a.block) (v : Value) : KeepsBlk b W (W.setCell a v) := Below.heap_setCell _ _ _ _ h

theorem cell_later {W : World} {a : Addr} {v : Value} (o : Obj) (h : W.cell? a = some v) : (W.alloc o).cell? a = some v := cell_kept h (World.grownBy_alloc W o none) (fun r e => by cases e)
theorem cell_other {W : World} {a : Addr} {v : Value} {b : Nat} (u : Value) (h : W.cell? a = some v) (hb : a.block ≠ b) : (W.setCell ⟨b, 0, none⟩ u).cell? a = some v :=
  (World.cell?_of_block (Below.heap_setCell W ⟨b, 0, none⟩ u a.block hb)).trans h

/-- Who asks the body to keep more asks less of the iterator. -/
theorem seq_keeps_more {α : Type} {F : Fence} {n : Nat} {P : Program} {g : Nat} {lb : Array Value} {encs : α → Array Value} {Kp Kp' : World → World → Prop} {S Sp : List α → Prop} {N : Nat} {w : World}
    (h : SeqStopsK F n P g lb encs Kp S Sp N w) (hk : ∀ A B, Kp' A B → Kp A B) : SeqStopsK F n P g lb encs Kp' S Sp N w := fun l J Jx W hW hJ hJx hY h0 =>
  h l J Jx W hW hJ hJx (fun pre x W1 hj hl => (hY pre x W1 hj hl).mono fun _ _ hr => hr.imp (fun ⟨a, b, c⟩ => ⟨a, b, hk _ _ c⟩) id) h0

theorem func_nil_intbool (f : Fn) (a b : Array Value) (w : World) : Sem.run Try.prog (binOp BinOp.eql 54 (.func f a b) .nilFunc) w = .ok (.bool false) w := by kernel_rfl
def SeqEnds {α : Type} (J Jx : List α → World → Prop) (xs : List α) (e : Ending) (W' : World) : Prop :=
  (∃ v, e = .returned v) ∧ ((∃ ys, ys = xs ∧ J ys W') ∨ (∃ pre, pre <+: xs ∧ Jx pre W'))

/-- The places as values. -/
abbrev encF {N : Nat} (x : Fin N) : Array Value := #[Value.int .i64 (x.val : Int)]

/-! ### Where -/
theorem fin_take {N k : Nat} (h : k < N) : (List.finRange N).take (k + 1) = (List.finRange N).take k ++ [⟨k, h⟩] := by
  rw [List.take_add_one, List.getElem?_eq_getElem (by simpa using h)]
  simp
/-- The places below k that are true. -/
def whereTo (bs : List Bool) (k : Nat) : List (Fin bs.length) := ((List.finRange bs.length).take k).filter fun i => bs[i.val]?.getD false
theorem whereTo_zero (bs : List Bool) : whereTo bs 0 = [] := rfl
theorem whereTo_hit {bs : List Bool} {k : Nat} (hk : k < bs.length) (h : bs[k]?.getD false = true) : whereTo bs (k + 1) = whereTo bs k ++ [⟨k, hk⟩] := by
  have h' : bs[k] = true := by simpa [List.getElem?_eq_getElem hk] using h
  unfold whereTo
  rw [fin_take hk, List.filter_append]
  simp [h']
theorem whereTo_miss {bs : List Bool} {k : Nat} (hk : k < bs.length) (h : bs[k]?.getD false = false) : whereTo bs (k + 1) = whereTo bs k := by
  have h' : bs[k] = false := by simpa [List.getElem?_eq_getElem hk] using h
  unfold whereTo
  rw [fin_take hk, List.filter_append]
  simp [h']
theorem whereTo_prefix (bs : List Bool) {j k : Nat} (h : j ≤ k) : whereTo bs j <+: whereTo bs k := by
  unfold whereTo
  exact List.IsPrefix.filter _ (List.take_prefix_take_left h)
theorem whereTo_lt (bs : List Bool) {j k : Nat} (hj : j < bs.length) (h : j < k) (hb : bs[j]?.getD false = true) : (whereTo bs j).length < (whereTo bs k).length := by
  have := (whereTo_prefix bs (show j + 1 ≤ k by omega)).length_le
  rw [whereTo_hit hj hb] at this
  simp at this
  omega

/-- The slice value sv holds the bools bs, in block b; or there are none. -/
def BoolsAt (b : Nat) (W : World) (sv : Value) (bs : List Bool) : Prop :=
  (∃ p cap, sv = .slice p 0 cap ∧ bs = []) ∨ ∃ off cap, sv = .slice (some ⟨b, off, none⟩) bs.length cap ∧ ∀ j, j < bs.length → W.cell? ⟨b, off + j, none⟩ = some (.bool (bs[j]?.getD false))
theorem BoolsAt.kept {b : Nat} {A B : World} (h : KeepsBlk b A B) {sv : Value} {bs : List Bool} : BoolsAt b A sv bs → BoolsAt b B sv bs
  | .inl e => .inl e
  | .inr ⟨off, cap, e, hc⟩ => .inr ⟨off, cap, e, fun j hj => (h.cell (off + j)).trans (hc j hj)⟩

set_option maxRecDepth 100000 in
set_option maxHeartbeats 1000000 in
theorem where1_nil_in (n l Bs : Nat) (p : Option Addr) (cap : Nat) {N : Nat} (J : List (Fin N) → World → Prop) (W : World) (hBs : W.cell? ⟨Bs, 0, none⟩ = some (.slice p 0 cap)) (h0 : J [] W) :
    CallsIn Fence.wide n Try.prog 38 #[.func (.yield l) #[] #[], .pointer (some ⟨Bs, 0, none⟩)] W fun e W' => (∃ v, e = .returned v) ∧ J [] W' := by
  have hnf := func_nil_intbool
  refine callsIn_of_wp Try.func38 rfl trivial ?_ rfl
  simp only [Try.ntmps38, List.size_toArray, List.length_cons, List.length_nil, Nat.reduceAdd, Nat.reduceSub, Array.replicate_succ, Array.replicate_zero, List.push_toArray, List.append_toArray, List.nil_append, List.cons_append]
  gi_wp2
  gi_loopw [9] (fun i wr => i = .int .i64 0 ∧ J [] wr) (fun _ _ => 0)
  case atStart => exact ⟨rfl, h0⟩
  case round =>
    obtain ⟨rfl, hJs⟩ := hrel
    gi_wp2
    go_end0
    exact ⟨⟨_, rfl⟩, hJs⟩

set_option maxRecDepth 100000 in
set_option maxHeartbeats 2000000 in
theorem where1_in (n l Bs b off cap : Nat) (bs : List Bool) (hreach : bs.length ≤ 9223372036854775807) (J Jx : List (Fin bs.length) → World → Prop)
    (hY : ∀ pre (x : Fin bs.length) W, J pre W → pre.length < (whereTo bs bs.length).length → YieldAt Fence.wide (n - 1) Try.prog l #[.int .i64 (x.val : Int)] W (RoundEnds (KeepsBlk b) J Jx pre x W))
    (W : World) (hBs : W.cell? ⟨Bs, 0, none⟩ = some (.slice (some ⟨b, off, none⟩) bs.length cap)) (hc : ∀ j, j < bs.length → W.cell? ⟨b, off + j, none⟩ = some (.bool (bs[j]?.getD false))) (h0 : J [] W) :
    CallsIn Fence.wide n Try.prog 38 #[.func (.yield l) #[] #[], .pointer (some ⟨Bs, 0, none⟩)] W (SeqEnds J Jx (whereTo bs bs.length)) := by
  have hnf := func_nil_intbool
  refine callsIn_of_wp Try.func38 rfl trivial ?_ rfl
  simp only [Try.ntmps38, List.size_toArray, List.length_cons, List.length_nil, Nat.reduceAdd, Nat.reduceSub, Array.replicate_succ, Array.replicate_zero, List.push_toArray, List.append_toArray, List.nil_append, List.cons_append]
  gi_wp2
  gi_loopw [9] (fun i wr => ∃ k : Nat, k ≤ bs.length ∧ i = .int .i64 k ∧ J (whereTo bs k) wr ∧ KeepsBlk b W wr)
    (fun i _ => bs.length - (intOf i).toNat)
  case atStart => exact ⟨0, Nat.zero_le _, rfl, h0, KeepsBlk.refl _ _⟩
  case round =>
    obtain ⟨k, hk, rfl, hJs, hnx⟩ := hrel
    by_cases hlt : k < bs.length
    · have hcx : wr.cell? ⟨b, off + k, none⟩ = some (.bool (bs[k]?.getD false)) := (hnx.cell (off + k)).trans (hc k hlt)
      cases hbk : bs[k]?.getD false with
      | true =>
        rw [hbk] at hcx
        obtain ⟨fn, tmps, assign, body, hy, hR⟩ := hY _ ⟨k, hlt⟩ wr hJs (whereTo_lt bs hlt hlt hbk)
        have hW := Lib.hid (whereTo_hit hlt hbk)
        clear hbk hc
        gi_wp2_with (refine ⟨wide_depth _, ?_⟩; refine hR.mono ?_; clear hR; rintro e W3 (⟨rfl, hJ3, hk3⟩ | ⟨rfl, hJx3⟩))
        · go_roundw
          case rel => exact ⟨k + 1, by omega, by simp, by rw [hW.out]; exact hJ3, hnx.trans hk3⟩
          case measure => simp [intOf]; omega
        · refine bodyPost_ret (results_none rfl _ _ _) rfl ?_
          exact ⟨⟨_, rfl⟩, .inr ⟨_, whereTo_prefix bs (show k + 1 ≤ bs.length by omega), by rw [hW.out]; exact hJx3⟩⟩
      | false =>
        rw [hbk] at hcx
        have hW := Lib.hid (whereTo_miss hlt hbk)
        clear hbk hc
        gi_wp2
        refine ⟨fun _ h => (by cases h), ?_⟩
        gi_wp2
        go_roundw
        case rel => exact ⟨k + 1, by omega, by simp, by rw [hW.out]; exact hJs, hnx⟩
        case measure => simp [intOf]; omega
    · obtain rfl : k = bs.length := by omega
      gi_wp2
      go_end0
      exact ⟨⟨_, rfl⟩, .inl ⟨_, rfl, hJs⟩⟩

theorem where_stops (n Bs b : Nat) (sv : Value) (bs : List Bool) (hreach : bs.length ≤ 9223372036854775807) (w : World) (hBs : Bs < w.heap.size) (hb : b < w.heap.size)
    (hc : w.cell? ⟨Bs, 0, none⟩ = some sv) (hI : BoolsAt b w sv bs) :
    SeqStopsK Fence.wide n Try.prog 38 #[.pointer (some ⟨Bs, 0, none⟩)] encF (KeepsBlk b) (fun ys => ys = whereTo bs bs.length) (fun pre => pre <+: whereTo bs bs.length) (whereTo bs bs.length).length w := fun l J Jx W hW _ _ hY h0 => by
  have hc' := (hW.cell (p := ⟨Bs, 0, none⟩) hBs).trans hc
  rcases hI.kept (KeepsBlk.of_below hW hb) with ⟨p, cap, rfl, rfl⟩ | ⟨off, cap, rfl, hcs⟩
  · exact (where1_nil_in n l Bs p cap J W hc' h0).mono fun e W' ⟨he, hj⟩ => ⟨he, .inl ⟨_, rfl, hj⟩⟩
  · exact where1_in n l Bs b off cap bs hreach J Jx hY W hc' hcs h0
theorem ownsRow_slice {W : World} {b : Nat} {e : TypeId} {size : Nat} {v : Value} {k : Nat} {xs : List Value} (h : W.ownsRow b e size v k xs) : ∃ p cap, v = .slice p k cap := by
  rcases h.2 with ⟨rfl, rfl⟩ | ⟨g, cap, cur, rfl, _⟩
  · exact ⟨_, _, rfl⟩
  · exact ⟨_, _, rfl⟩

theorem ownsRow_pos {W : World} {b : Nat} {e : TypeId} {size : Nat} {v : Value} {k : Nat} {xs : List Value} (h : W.ownsRow b e size v k xs) (hk : 1 ≤ k) : ∃ g cap, v = .slice (some ⟨g, 0, none⟩) k cap := by
  rcases h.2 with ⟨_, h0⟩ | ⟨g, cap, _, rfl, _⟩
  · omega
  · exact ⟨g, cap, rfl⟩

theorem info4 : (Try.prog.info? 4).map (fun i => (i.zero, i.size, i.bytes)) = some (some (.bool false), 1, 1) := by kernel_rfl

theorem slice_nil_bools (ad : Addr) (n c : Nat) (w : World) : Sem.run Try.prog (binOp BinOp.eql 23 (.slice (some ad) n c) (.slice none 0 0)) w = .ok (.bool false) w := by kernel_rfl
theorem nil_nil_bools (w : World) : Sem.run Try.prog (binOp BinOp.eql 23 (.slice none 0 0) (.slice none 0 0)) w = .ok (.bool true) w := by kernel_rfl

/-- The slice value sv holds the bools bs. -/
def BoolsIn (W : World) (sv : Value) (bs : List Bool) : Prop :=
  (sv = .slice none 0 0 ∧ bs = []) ∨ ∃ ad cap, sv = .slice (some ad) bs.length cap ∧ ∀ j, j < bs.length → W.cell? (ad.add j) = some (.bool (bs[j]?.getD false))

def ClonePost (bs : List Bool) (w : World) (e : Ending) (W' : World) : Prop :=
  ∃ sv, e = .returned sv ∧ W'.ownsRow w.heap.size 4 1 sv bs.length (bs.map Value.bool) ∧ Below w.heap.size w W'

set_option maxHeartbeats 1000000 in
theorem clone_any (sv : Value) (bs : List Bool) (hlen : bs.length ≤ 1000000) (w : World) (h : BoolsIn w sv bs) :
    Calls Try.prog 37 #[sv] w (ClonePost bs w) := by
  obtain ⟨i0, hi, hz0, hz1, hz2⟩ := info_parts info4
  rcases h with ⟨rfl, rfl⟩ | ⟨ad, cap, rfl, hc⟩
  · have hn := nil_nil_bools w
    go_enter Try.func37, Try.ntmps37
    go_wp2
    go_ret
    exact ⟨_, rfl, World.ownsRow_nil _ _ _ _, Below.refl _ _⟩
  · have hn := slice_nil_bools ad bs.length cap w
    have hl := World.ownsRow_lit (base := w.heap.size) (e := 4) (size := 1) w #[] 0 (Nat.le_refl _) (by unfold maxLen; omega) rfl
    have hnews : ∀ (j : Nat) u, (bs.map Value.bool)[j]? = some u → (w.alloc (.cells #[] 4)).cell? (ad.add j) = some u := by
      intro j u hu
      have hj : j < bs.length := by
        have := (List.getElem?_eq_some_iff.1 hu).1
        simpa using this
      have h1 := hc j hj
      have : u = .bool (bs[j]?.getD false) := by simp [hj] at hu ⊢; exact hu.symm
      subst this
      exact cell_kept h1 (World.grownBy_alloc w _ none) (fun r e => by cases e)
    go_enter Try.func37, Try.ntmps37
    go_wp2_with (at_builtin; refine wpList_append_own _ rfl _ _ 23 rfl w.heap.size 4 i0 (.bool false) 1 1 Try.underlying23 hi hz0 hz1 hz2 rfl (by decide) _ _ _ rfl hl ad bs.length cap (bs.map Value.bool) rfl (by simp) hnews (by intro u hu; obtain ⟨b, _, rfl⟩ := List.mem_map.1 hu; rfl) (by unfold maxLen; omega) (by omega) (by simp) ?_; intro v' w1 hown' hgrow _)
    go_ret
    exact ⟨_, rfl, by simpa using hown', ((Below.refl _ w).alloc (Nat.le_refl _) _).grown hgrow (by simp) (fun k e => by cases e; exact Nat.le_refl _)⟩

/-- What a slice of its own holds, read as bools. -/
theorem boolsAt_of_owns {W : World} {base : Nat} {sv : Value} {bs : List Bool} (h : W.ownsRow base 4 1 sv bs.length (bs.map Value.bool)) (c : Nat) (hc : base ≤ c) (hs : c < W.heap.size) : ∃ b, base ≤ b ∧ b < W.heap.size ∧ BoolsAt b W sv bs := by
  by_cases h0 : bs = []
  · subst h0
    obtain ⟨p, cap, rfl⟩ : ∃ p cap, sv = .slice p 0 cap := ownsRow_slice h
    exact ⟨c, hc, hs, .inl ⟨p, cap, rfl, rfl⟩⟩
  · obtain ⟨k, hk⟩ : ∃ k, bs.length = k + 1 := ⟨bs.length - 1, by have := List.length_pos_iff.2 h0; omega⟩
    have hk' := hk
    rw [hk] at h
    obtain ⟨g, cap, rfl⟩ := ownsRow_succ h
    refine ⟨g, (h.lt g rfl).1, (h.lt g rfl).2, .inr ⟨0, cap, by rw [hk], fun j hj => ?_⟩⟩
    have := h.cellAt j (by omega)
    rw [Nat.zero_add, this]
    simp [hj]

/-- What Where leaves: an iterator over the places that are true; it leans on one block. -/
def WherePost (bs : List Bool) (w : World) (e : Ending) (W' : World) : Prop :=
  ∃ B b, e = .returned (.func (.func 38) #[] #[.pointer (some ⟨B, 0, none⟩)]) ∧ w.heap.size ≤ b ∧ b < W'.heap.size ∧
    (∀ m, SeqStopsK Fence.wide m Try.prog 38 #[.pointer (some ⟨B, 0, none⟩)] encF (KeepsBlk b) (fun ys => ys = whereTo bs bs.length) (fun pre => pre <+: whereTo bs bs.length) (whereTo bs bs.length).length W') ∧ Below w.heap.size w W'
theorem enters_where : ∀ args w, (callFunc 38 args).run Try.prog w = .ok (.enter 38 args) w := enters_of Try.func38 (by kernel_rfl) rfl
set_option maxHeartbeats 1000000 in
theorem where_any (sv : Value) (bs : List Bool) (hlen : bs.length ≤ 1000000) (w : World) (h : BoolsIn w sv bs) :
    Calls Try.prog 32 #[sv] w (WherePost bs w) := by
  go_enter Try.func32, Try.ntmps32
  go_wp2_with (go_at_call 37; refine (clone_any sv bs hlen _ h).mono ?_; rintro e w1 ⟨sv1, rfl, hr, hb⟩; obtain ⟨p, cap, rfl⟩ := ownsRow_slice hr)
  go_ret
  have hx := (Boxed.new w1 23 (.slice p bs.length cap)).cell
  obtain ⟨b, hb0, hbl, hba⟩ := boolsAt_of_owns (hr.alloc (.cells #[.slice p bs.length cap] 23)) w1.heap.size hb.size (by simp)
  exact ⟨w1.heap.size, b, rfl, hb0, hbl, fun m => where_stops m w1.heap.size b _ bs (by omega) _ (by simp) hbl hx hba, hb.alloc hb.size _⟩
end Go.Proofs.Ytjgpjmlnmjgdmaa
