/- Bytes in memory: a slice that reads as a list of bytes, nil and empty ones among them; append of such onto a slice of the call's own; a slice of bytes as a string. -/
import Derived.WalkKit
import Derived.WalkSpells
import Derived.WalkLawsBesides
import Derived.IntWalk
import Derived.Lib.Hide
import Derived.Outline
import Derived.Deep.QuietTactic
import Derived.BigQuiet
import Derived.Below
import Derived.OneCell
import Derived.OwnWalk
import Derived.Laws.OwnMore
import Derived.Laws.BytesArg
import Derived.Lib.AppendZeros
import Derived.Lib.EndianBits
import Derived.Maps.AppendAt
import Derived.Deep.AppendLies
import Derived.Deep.Draws
import Derived.Test.YteghegojhhoppaaProg
import Derived.Test.YteghegojhhoppaaNum
namespace Go.Proofs.Yteghegojhhoppaa
open Go.RowKit

theorem ret_int {k : IntKind} {a b : Int} (h : a = b) : Ending.returned (.int k a) = .returned (.int k b) := by rw [h]
theorem ret_bool {a b : Bool} (h : a = b) : Ending.returned (.bool a) = .returned (.bool b) := by rw [h]
/-- A byte as a value. -/
def ub (c : UInt8) : Value := .int .u8 c.toNat
theorem ub_ofNat (n : Nat) (h : n < 256) : ub (byteOf n) = .int .u8 n := by unfold ub; rw [byteOf_nat n h]
theorem ub_one (c : UInt8) : (ub c).oneCell' = true := rfl
theorem block_add (a : Addr) (n : Nat) : (a.add n).block = a.block := by unfold Addr.add; split <;> rfl
theorem add_add (a : Addr) (i j : Nat) : (a.add i).add j = a.add (i + j) := by
  unfold Addr.add
  by_cases hi : i = 0 <;> by_cases hj : j = 0 <;> simp [hi, hj, Nat.add_assoc]
theorem lt_size {w : World} {p : Nat} {o : Obj} (h : w.heap[p]? = some o) : p < w.heap.size := (Array.getElem?_eq_some_iff.1 h).1

/-- At A of w the bytes l lie, in a block below B. -/
def RB (w : World) (B : Nat) (A : Option Addr) (l : List UInt8) : Prop :=
  0 < l.length → ∃ ad, A = some ad ∧ ad.block < B ∧ ∀ j (h : j < l.length), w.cell? (ad.add j) = some (ub l[j])
section
variable {w w' : World} {B B' : Nat} {A : Option Addr} {l : List UInt8}
theorem RB.nil : RB w B A [] := fun h => absurd h (by simp)
theorem RB.keep (h : RB w B A l) (hk : ∀ b, b < B → w'.heap[b]? = w.heap[b]?) : RB w' B A l := fun hn => by
  obtain ⟨ad, e, hb, hc⟩ := h hn
  exact ⟨ad, e, hb, fun j hj => (World.cell?_of_block (hk _ (by rw [block_add]; exact hb))).trans (hc j hj)⟩
theorem RB.mono (h : RB w B A l) (hB : B ≤ B') : RB w B' A l := fun hn => by
  obtain ⟨ad, e, hb, hc⟩ := h hn
  exact ⟨ad, e, by omega, hc⟩
theorem RB.below (h : RB w B A l) (hb : Below B' w w') (hB : B ≤ B') : RB w' B A l := h.keep fun b hlt => hb.block b (by omega)
theorem RB.drew (h : RB w B A l) : RB w.drew B A l := h
theorem RB.drewN (h : RB w B A l) (k : Nat) : RB (w.drewN k) B A l := h.keep fun b _ => by simp
theorem RB.alloc (h : RB w B A l) (hB : B ≤ w.heap.size) (o : Obj) : RB (w.alloc o) B A l := h.keep fun b hb => Below.heap_alloc w o b (by omega)
theorem RB.setCell (h : RB w B A l) {p : Addr} (hB : B ≤ p.block) (u : Value) : RB (w.setCell p u) B A l := h.keep fun b hb => Below.heap_setCell w p u b (by omega)
/-- A store into another kind of block. -/
theorem RB.setFar (h : RB w B A l) {p j : Nat} (hp : ∀ ad, A = some ad → 0 < l.length → ad.block ≠ p) (u : Value) : RB (w.setCell ⟨p, j, none⟩ u) B A l := fun hn => by
  obtain ⟨ad, e, hb, hc⟩ := h hn
  exact ⟨ad, e, hb, fun i hi => (World.cell?_of_block (Below.heap_setCell w ⟨p, j, none⟩ u _ (by rw [block_add]; exact hp ad e hn))).trans (hc i hi)⟩
theorem RB.grown (h : RB w B A l) {row : Option Nat} (hg : w.grownBy w' row) (hB : B ≤ w.heap.size) (hr : ∀ g, row = some g → B ≤ g) : RB w' B A l :=
  h.keep fun b hb => hg.block b (by omega) (fun e => by have := hr _ e.symm; omega)
theorem RB.drop (h : RB w B A l) {k cap : Nat} (hk : k ≤ l.length) (hc : l.length ≤ cap) : RB w B (if cap = k then A else A.map (·.add k)) (l.drop k) := fun hn => by
  rw [List.length_drop] at hn
  obtain ⟨ad, rfl, hb, hcell⟩ := h (by omega)
  rw [if_neg (by omega)]
  refine ⟨ad.add k, rfl, by rw [block_add]; exact hb, fun j hj => ?_⟩
  rw [List.length_drop] at hj
  rw [add_add, hcell (k + j) (by omega), List.getElem_drop]
theorem RB.take (h : RB w B A l) (k : Nat) : RB w B A (l.take k) := fun hn => by
  rw [List.length_take] at hn
  obtain ⟨ad, rfl, hb, hcell⟩ := h (by omega)
  refine ⟨ad, rfl, hb, fun j hj => ?_⟩
  rw [List.length_take] at hj
  rw [hcell j (by omega), List.getElem_take]
theorem RB.of_own {base n c : Nat} {e : TypeId} (h : w.ownsRow base e 1 (.slice A n c) n (l.map ub)) : RB w w.heap.size A l := fun hn => by
  have hl : l.length = n := by have := h.1; simpa using this
  obtain ⟨g, cap, hv, _, hlt⟩ := h.form (by omega)
  have hA : A = some ⟨g, 0, none⟩ := by injection hv
  subst hA
  exact ⟨_, rfl, hlt, fun j hj => h.cells (g := g) rfl j _ (by simp [hj])⟩
theorem RB.at_ (h : RB w B A l) {k : Nat} (hk : k < l.length) : ∃ ad, A = some ad ∧ ad.block < B ∧ w.cell? (ad.add k) = some (.int .u8 l[k].toNat) := by
  obtain ⟨ad, e, hb, hc⟩ := h (by omega)
  exact ⟨ad, e, hb, hc k hk⟩
theorem RB.news (h : RB w B A l) : ∀ ad, A = some ad → ∀ j u, (l.map ub)[j]? = some u → w.cell? (ad.add j) = some u := fun ad e j u hu => by
  have hj : j < l.length := by
    rcases Nat.lt_or_ge j l.length with h1 | h1
    · exact h1
    · rw [List.getElem?_eq_none (by simpa using h1)] at hu; cases hu
  obtain ⟨ad', e', _, hc⟩ := h (by omega)
  rw [e] at e'; cases e'
  rw [hc j hj]
  simp [hj] at hu
  rw [hu]
end
theorem ones_ub (l : List UInt8) : ∀ u ∈ l.map ub, u.oneCell' = true := fun u hu => by
  obtain ⟨c, _, rfl⟩ := List.mem_map.1 hu
  rfl
/-- What a function tells that makes bytes: l, whatever else it made; nothing that was there has turned. -/
def Fresh (w : World) (l : List UInt8) (e : Ending) (w' : World) : Prop :=
  ∃ (A : Option Addr) (c : Nat) (L : List UInt8), e = .returned (.slice A L.length c) ∧ Hid (L = l) ∧ L.length ≤ c ∧ RB w' w'.heap.size A L ∧ (∀ ad, A = some ad → w.heap.size ≤ ad.block) ∧ Below w.heap.size w w'
theorem own_slice {W : World} {b : Nat} {e : TypeId} {size : Nat} {v : Value} {k : Nat} {xs : List Value} (h : W.ownsRow b e size v k xs) : ∃ p cap, v = .slice p k cap ∧ k ≤ cap := by
  rcases h.2 with ⟨rfl, rfl⟩ | ⟨g, cap, cur, rfl, _, _, h1, _⟩
  · exact ⟨_, _, rfl, Nat.le_refl _⟩
  · exact ⟨_, _, rfl, h1⟩
theorem Fresh.of {w w' : World} {base n c : Nat} {e : TypeId} {A : Option Addr} {l : List UInt8} (h : w'.ownsRow base e 1 (.slice A n c) n (l.map ub)) (hbase : w.heap.size ≤ base) (hb : Below w.heap.size w w') : Fresh w l (.returned (.slice A n c)) w' := by
  have hl : l.length = n := by have := h.1; simpa using this
  have h2 : n ≤ c := by
    obtain ⟨p, cap, e, h1⟩ := own_slice h
    cases e; exact h1
  exact ⟨A, c, l, by rw [hl], rfl, by omega, .of_own h, fun ad e => Nat.le_trans hbase (h.lt ad.block (by rw [e]; rfl)).1, hb⟩
theorem run_append_bytes_none {P : Program} (w : World) (base : Nat) (t ty e : TypeId) (i : TypeInfo) (size : Nat) (ht : P.underlying t = some (.slice e)) (hi : P.info? e = some i)
    (v : Value) (n : Nat) (xs : List Value) (hown : w.ownsRow base e size v n xs) (c : Nat) : (Builtin.append_ #[t, t] ty #[v, .slice none 0 c]).run P w = .ok v w := by
  rcases hown.2 with ⟨rfl, rfl⟩ | ⟨g, cap, cur, rfl, _, _, hnc, _⟩
  · simp [Builtin.append_, run_underlying ht, sizeOf, typeInfo, hi, Builtin.lenOf, Builtin.firstCells]
  · simp [Builtin.append_, run_underlying ht, sizeOf, typeInfo, hi, Builtin.lenOf, Builtin.firstCells, hnc, storeCells]
/-- append of bytes, nil and empty ones among them, onto a slice of the call's own. -/
theorem run_append_bytes {P : Program} (w : World) (base : Nat) (t ty e : TypeId) (i : TypeInfo) (z : Value) (ht : P.underlying t = some (.slice e)) (hi : P.info? e = some i) (hz : i.zero = some z)
    (hsize : i.size = 1) (hby : i.bytes = 1) (hzs : z.cells.size = 1)
    (v : Value) (xs : List UInt8) (hown : w.ownsRow base e 1 v xs.length (xs.map ub)) (B : Nat) (A : Option Addr) (c : Nat) (l : List UInt8) (hr : RB w B A l)
    (hbig : xs.length + l.length ≤ 140737488355328) (hbase : base ≤ w.heap.size) :
    ∃ p cap w', (Builtin.append_ #[t, t] ty #[v, .slice A l.length c]).run P w = .ok (.slice p (xs ++ l).length cap) w' ∧ w'.ownsRow base e 1 (.slice p (xs ++ l).length cap) (xs ++ l).length ((xs ++ l).map ub) ∧ w.grownBy w' v.ownBlock ∧ ((Value.slice p (xs ++ l).length cap).ownBlock = v.ownBlock ∨ (Value.slice p (xs ++ l).length cap).ownBlock = some w.heap.size) := by
  have e1 : (xs ++ l).map ub = xs.map ub ++ l.map ub := List.map_append
  have e2 : (xs ++ l).length = xs.length + l.length := List.length_append
  rw [e1, e2]
  rcases A with _ | ad
  · have hl : l = [] := by
      rcases Nat.eq_zero_or_pos l.length with h0 | h0
      · exact List.eq_nil_of_length_eq_zero h0
      · obtain ⟨ad, h, _⟩ := hr h0
        cases h
    subst hl
    obtain ⟨p, cap, rfl, _⟩ := own_slice hown
    exact ⟨p, cap, w, by simpa using run_append_bytes_none w base t ty e i 1 ht hi _ _ _ hown c, by simpa using hown, World.grownBy.refl w _, .inl (by cases p <;> rfl)⟩
  · obtain ⟨v', w', hrun, h2, h3, _, h5⟩ := run_append_own_at (P := P) w base t ty e i z 1 1 ht hi hz hsize hby hzs (by decide) v xs.length (xs.map ub) hown ad l.length c (l.map ub) (by simp) (hr.news ad rfl) (ones_ub l)
      (by unfold maxLen; omega) (by omega) hbase
    obtain ⟨p, cap, rfl, _⟩ := own_slice h2
    exact ⟨p, cap, w', hrun, h2, h3, h5⟩
theorem wpList_append_bytes {P : Program} (w : World) {ops : Array Oper} {rest : List Oper} {o : Oper} {a : Act} {Q : Exit → Act → World → Prop} (hgd : o.guard = none) (s x : Operand) (t : TypeId)
    (ho : o.op = .call { callee := .builtin .append, args := #[s, x], argTypes := #[t, t] })
    (base : Nat) (e : TypeId) (i : TypeInfo) (z : Value) (ht : P.underlying t = some (.slice e)) (hi : P.info? e = some i) (hz : i.zero = some z)
    (hsize : i.size = 1) (hby : i.bytes = 1) (hzs : z.cells.size = 1)
    (v : Value) (xs : List UInt8) (hs : a.eval s = v) (hown : w.ownsRow base e 1 v xs.length (xs.map ub)) (B : Nat) (A : Option Addr) (c : Nat) (l : List UInt8) (hx : a.eval x = .slice A l.length c) (hr : RB w B A l)
    (hbig : xs.length + l.length ≤ 140737488355328) (hbase : base ≤ w.heap.size)
    (h : ∀ p cap w', w'.ownsRow base e 1 (.slice p (xs ++ l).length cap) (xs ++ l).length ((xs ++ l).map ub) → w.grownBy w' v.ownBlock → ((Value.slice p (xs ++ l).length cap).ownBlock = v.ownBlock ∨ (Value.slice p (xs ++ l).length cap).ownBlock = some w.heap.size) → wpList P ops Q rest (a.put o.dst (.slice p (xs ++ l).length cap)) w') : wpList P ops Q (o :: rest) a w := by
  refine wpList_plain hgd fun K hK => ?_
  obtain ⟨p, cap, w', hrun, h2, h3, h5⟩ := run_append_bytes (P := P) w base t o.type e i z ht hi hz hsize hby hzs v xs hown B A c l hr hbig hbase
  unfold Oper.wp execOp
  simp only [ho, resolve, invoke, builtin, Sem.run_bind, Sem.run_pure, Result.andThen_ok, List.map_toArray, List.map_cons, List.map_nil, hs, hx, hrun]
  exact hK _ _ (h p cap w' h2 h3 h5)
/-- What is owned stays owned where its block stays. -/
theorem own_keep {w w' : World} {base n : Nat} {e : TypeId} {size : Nat} {v : Value} {xs : List Value} (h : w.ownsRow base e size v n xs) (hk : ∀ g, v.ownBlock = some g → w'.heap[g]? = w.heap[g]?) : w'.ownsRow base e size v n xs := by
  refine ⟨h.1, ?_⟩
  rcases h.2 with h0 | ⟨g, cap, cur, hv, hb, hg, h1⟩
  · exact .inl h0
  · exact .inr ⟨g, cap, cur, hv, hb, (hk g (by rw [hv]; rfl)).trans hg, h1⟩
/-- A slice of bytes as a string. -/
def strOf (l : List UInt8) : ByteArray := ⟨l.toArray⟩
theorem strOf_inj {a b : List UInt8} (h : strOf a = strOf b) : a = b := by
  unfold strOf at h
  injection h with h
  simpa using congrArg Array.toList h
theorem strOf_eq (a b : List UInt8) : (strOf a = strOf b) ↔ a = b := ⟨strOf_inj, fun h => by rw [h]⟩
theorem run_str {w : World} {B : Nat} {A : Option Addr} {l : List UInt8} (h : RB w B A l) (c : Nat) : (convert 43 9 (.slice A l.length c)).run Try.prog w = .ok (.string (strOf l)) w := by
  rw [run_convert_bytes_string w 43 9 5 A l.length c Try.underlying43 Try.underlying5 Try.underlying9]
  rcases A with _ | ad
  · have hl : l = [] := by
      rcases Nat.eq_zero_or_pos l.length with h0 | h0
      · exact List.eq_nil_of_length_eq_zero h0
      · obtain ⟨ad, h, _⟩ := h h0
        cases h
    subst hl
    simp [Conv.bytesToString, strOf]
    rfl
  · have hc := run_loadCells_list (P := Try.prog) w ad (l.map ub) (h.news ad rfl)
    have e : l.map ub = (l.map fun c => (c.toNat : Int)).map (Value.int .u8) := by simp [ub]
    rw [e, List.length_map, List.length_map] at hc
    rw [run_bytesToString w ad l.length c (l.map fun c => (c.toNat : Int)) hc, foldl_push_bytes]
    have e3 : ∀ l : List UInt8, (l.map fun c => (c.toNat : Int)).map (fun n => UInt8.ofNat n.toNat) = l := fun l => by
      induction l with
      | nil => rfl
      | cons c l ih => simp only [List.map_cons, ih]; simp
    rw [e3]
    simp [strOf]
theorem info_byte : (Try.prog.info? 5).map (fun i => (i.zero, i.size, i.bytes)) = some (some (.int .u8 0), 1, 1) := by kernel_rfl
/-- What one digit's byte is, of a number cut to it. -/
theorem or128_all : ∀ n : Fin 256, bits .or .u8 (n.val : Int) 128 = ((n.val % 128 + 128 : Nat) : Int) := by decide +kernel
theorem or128 (x : Int) (h0 : 0 ≤ x) (h1 : x < 256) : bits .or .u8 x 128 = x % 128 + 128 := by
  have := or128_all ⟨x.toNat, by omega⟩
  simp only at this
  rw [show ((x.toNat : Nat) : Int) = x by omega] at this
  rw [this]; omega
theorem not128_all : ∀ n : Fin 256, bits .andNot .u8 (n.val : Int) 128 = ((n.val % 128 : Nat) : Int) := by decide +kernel
theorem not128 (x : Int) (h0 : 0 ≤ x) (h1 : x < 256) : bits .andNot .u8 x 128 = x % 128 := by
  have := not128_all ⟨x.toNat, by omega⟩
  simp only at this
  rw [show ((x.toNat : Nat) : Int) = x by omega] at this
  rw [this]; omega
theorem and128_all : ∀ n : Fin 256, (bits .and .u8 (n.val : Int) 128 == 0) = decide (n.val < 128) := by decide +kernel
theorem and128 (x : Int) (h0 : 0 ≤ x) (h1 : x < 256) : (bits .and .u8 x 128 == 0) = decide (x < 128) := by
  have := and128_all ⟨x.toNat, by omega⟩
  simp only at this
  rw [show ((x.toNat : Nat) : Int) = x by omega] at this
  rw [this, Bool.eq_iff_iff]; simp
  try omega
theorem and127 (x : Int) (h0 : 0 ≤ x) (h1 : x < 9223372036854775808) : bits .and .i64 x 127 = x % 128 := by
  have := bits_mask .i64 63 (by decide) (fun n h0 h1 => by rw [IntKind.wrap_i64]; omega) 7 (by decide) x h0 h1
  simpa using this
theorem or7 (acc x : Nat) (h : acc < 34359738368) (hx : x < 128) : bits .or .i64 ((acc : Int) * 128) (x : Int) = ((acc * 128 + x : Nat) : Int) := by
  have e : bits .or .i64 ((acc : Int) * 128) (x : Int) = bits .or .i64 (x : Int) ((acc : Int) * 128) := by simp only [bits, BitVec.or_comm]
  rw [e, bits_join_low .i64 63 (by decide) (fun n h0 h1 => by rw [IntKind.wrap_i64]; omega) 7 (x : Int) ((acc : Int) * 128) (by omega) (by omega) (by omega) (by omega) (by omega) (by omega)]
  omega
end Go.Proofs.Yteghegojhhoppaa
