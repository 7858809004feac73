/- Contracts of the packages below: Ref, RefStep, RegInv, RegStr, RefBytes, RefSheet. -/
import Derived.WalkKit
import Derived.RegionTactic
import Derived.Orders
import Derived.Deep.CutBlock
import Derived.Deep.DeepCutAuto
import Derived.Test.YtnadcdgpfopcaaaGs
namespace Go.Proofs.Ytnadcdgpfopcaaa
open Go.RowKit
theorem numL_small (n : Nat) (h : n < 128) : numL n = [byteOf n] := by
  unfold numL
  rw [show n / 128 = 0 by omega, hiL_zero, Nat.mod_eq_of_lt h]; rfl

/-- The digits of n, the lowest one first. -/
def lowL (n : Nat) : List UInt8 := if _h : n < 128 then [byteOf n] else byteOf (n % 128) :: lowL (n / 128)
termination_by n
decreasing_by omega
theorem lowL_small (n : Nat) (h : n < 128) : lowL n = [byteOf n] := by rw [lowL]; simp [h]
theorem lowL_big (n : Nat) (h : 128 ≤ n) : lowL n = byteOf (n % 128) :: lowL (n / 128) := by rw [lowL]; simp; omega
/-- What the second loop lays behind: 128 is added to all but the last one. -/
def up (c : UInt8) : UInt8 := byteOf (c.toNat % 128 + 128)
theorem lowL_num (n : Nat) : ∃ d t, lowL n = d :: t ∧ numL n = (t.map up).reverse ++ [d] := by
  induction n using Nat.strongRecOn with
  | ind n ih =>
    by_cases h : n < 128
    · refine ⟨byteOf n, [], lowL_small n h, ?_⟩
      unfold numL
      rw [show n / 128 = 0 by omega, hiL_zero, show n % 128 = n by omega]; rfl
    · obtain ⟨d, t, e1, e2⟩ := ih (n / 128) (by omega)
      refine ⟨byteOf (n % 128), lowL (n / 128), lowL_big n (by omega), ?_⟩
      unfold numL at e2 ⊢
      rw [hiL_pos (n / 128) (by omega), e1]
      have e3 := List.append_inj' e2 rfl
      rw [e3.1]
      have hd : d = byteOf (n / 128 % 128) := by simpa using e3.2.symm
      rw [hd]
      simp [up, byteOf_nat (n / 128 % 128) (by omega)]
theorem lowL_len (n : Nat) : (lowL n).length = (numL n).length := by
  obtain ⟨d, t, e1, e2⟩ := lowL_num n
  rw [e1, e2]; simp
/-- What bytes may be laid behind: a row of the call's own, at the block row or at one made since W; or a slice without any room. -/
def Onto (W : World) (row : Option Nat) (wr : World) (v : Value) (xs : List UInt8) : Prop :=
  (wr.ownsRow 0 5 1 v xs.length (xs.map ub) ∧ (v.ownBlock = row ∨ ∀ g, v.ownBlock = some g → W.heap.size ≤ g)) ∨ (xs = [] ∧ ∃ a0, v = .slice (some a0) 0 0)
/-- The block that may be written into. -/
def Wrote (W : World) (row : Option Nat) (r : Option Nat) : Prop := r = row ∨ ∀ g, r = some g → W.heap.size ≤ g
theorem Onto.keep {W wr w' : World} {row : Option Nat} {v : Value} {xs : List UInt8} (h : Onto W row wr v xs) (hk : ∀ g, v.ownBlock = some g → w'.heap[g]? = wr.heap[g]?) : Onto W row w' v xs := by
  rcases h with ⟨h1, h2⟩ | h
  · exact .inl ⟨own_keep h1 hk, h2⟩
  · exact .inr h
theorem Onto.alloc {W wr : World} {row : Option Nat} {v : Value} {xs : List UInt8} (h : Onto W row wr v xs) (o : Obj) : Onto W row (wr.alloc o) v xs := by
  rcases h with ⟨h1, h2⟩ | h
  · exact .inl ⟨h1.alloc _, h2⟩
  · exact .inr h
theorem Onto.slice {W wr : World} {row : Option Nat} {v : Value} {xs : List UInt8} (h : Onto W row wr v xs) : ∃ p c, v = .slice p xs.length c ∧ xs.length ≤ c := by
  rcases h with ⟨h1, _⟩ | ⟨rfl, a0, rfl⟩
  · exact own_slice h1
  · exact ⟨_, _, rfl, Nat.le_refl _⟩
theorem Onto.rb {W wr : World} {row : Option Nat} {p : Option Addr} {c : Nat} {xs : List UInt8} (h : Onto W row wr (.slice p xs.length c) xs) : RB wr wr.heap.size p xs := by
  rcases h with ⟨h1, _⟩ | ⟨rfl, _⟩
  · exact RB.of_own h1
  · exact .nil
theorem grow_more {W a b : World} {row r : Option Nat} (h : W.grownBy a row) (k : a.grownBy b r) (hr : Wrote W row r) : W.grownBy b row := by
  refine ⟨k.os.trans h.os, k.tape.trans h.tape, k.output.trans h.output, Nat.le_trans h.size k.size, fun i hi hne => ?_⟩
  rw [← h.block i hi hne]
  refine k.block i (Nat.lt_of_lt_of_le hi h.size) fun e => ?_
  rcases hr with h1 | h1
  · exact hne (e.trans h1)
  · have := h1 i e.symm; omega
/-- append onto it. -/
theorem run_append_onto {P : Program} (w W : World) (row : Option Nat) (ty : TypeId) (i : TypeInfo) (z : Value) (t : TypeId) (ht : P.underlying t = some (.slice 5)) (hi : P.info? 5 = some i) (hz : i.zero = some z)
    (hsize : i.size = 1) (hby : i.bytes = 1) (hzs : z.cells.size = 1) (v : Value) (xs : List UInt8) (h : Onto W row w v xs) (hW : W.heap.size ≤ w.heap.size) (B : Nat) (A : Option Addr) (c : Nat) (l : List UInt8) (hr : RB w B A l)
    (hbig : xs.length + l.length ≤ 140737488355328) :
    ∃ p cap w' r, (Builtin.append_ #[t, t] ty #[v, .slice A l.length c]).run P w = .ok (.slice p (xs ++ l).length cap) w' ∧ Onto W row w' (.slice p (xs ++ l).length cap) (xs ++ l) ∧ w.grownBy w' r ∧ Wrote W row r ∧ (r = none ∨ r = v.ownBlock) ∧
      ((Value.slice p (xs ++ l).length cap).ownBlock = v.ownBlock ∨ (Value.slice p (xs ++ l).length cap).ownBlock = some w.heap.size) ∧ (∀ g, (Value.slice p (xs ++ l).length cap).ownBlock = some g → v.ownBlock = some g ∨ g < w'.heap.size) := by
  rcases h with ⟨hown, hrow⟩ | ⟨rfl, a0, rfl⟩
  · obtain ⟨p, cap, w', hrun, h1, h2, h3⟩ := run_append_bytes (P := P) w 0 t ty 5 i z ht hi hz hsize hby hzs v xs hown B A c l hr hbig (Nat.zero_le _)
    refine ⟨p, cap, w', v.ownBlock, hrun, .inl ⟨h1, ?_⟩, h2, hrow, .inr rfl, h3, fun g e => .inr (h1.lt g e).2⟩
    rcases h3 with h3 | h3
    · rw [h3]; exact hrow
    · rw [h3]; exact .inr fun g e => by cases e; exact hW
  · rcases Nat.eq_zero_or_pos l.length with h0 | h0
    · obtain rfl : l = [] := List.eq_nil_of_length_eq_zero h0
      refine ⟨some a0, 0, w, none, ?_, .inr ⟨rfl, a0, rfl⟩, World.grownBy.refl w _, .inr fun g e => (by cases e), .inl rfl, .inl rfl, fun g e => .inl e⟩
      cases A with
      | none => simp [Builtin.append_, run_underlying ht, sizeOf, typeInfo, hi, Builtin.lenOf, Builtin.firstCells, storeCells]
      | some ad => simp [Builtin.append_, run_underlying ht, sizeOf, typeInfo, hi, Builtin.lenOf, Builtin.firstCells, storeCells, loadCells, loadCellsFrom]
    · obtain ⟨ad, rfl, _⟩ := hr h0
      have hrun := run_append_grow (P := P) (w := w) t ty 5 i z ht hi hz a0 0 0 [] (by simp) (by simp) ad l.length c (l.map ub) (by simp [hsize]) (hr.news ad rfl) (by omega) (by simp at hbig ⊢; omega) (growslice_fits (by omega) (by rw [hby]; simp at hbig ⊢; omega))
      have hge := grownCap_ge w (0 + l.length) 0 5
      have hcm := grownCap_le_maxLen w (0 + l.length) 0 5 (by simp at hbig; unfold maxLen; omega)
      have e0 : 0 + l.length = ([] ++ l).length := by simp
      rw [e0] at hrun hge hcm
      refine ⟨_, _, _, none, hrun, .inl ⟨⟨by simp, .inr ⟨w.heap.size, _, _, rfl, Nat.zero_le _, heap_alloc_new w.drew _, hge, hcm, ?_, ?_⟩⟩, .inr fun g e => (by cases e; exact hW)⟩, ⟨rfl, rfl, rfl, by simp, fun k hk _ => Below.heap_alloc w.drew _ k hk⟩, .inr fun g e => (by cases e), .inl rfl, .inr rfl, fun g e => .inr (by cases e; simp)⟩
      · simp only [Array.size_append, List.size_toArray, size_zeroCells, hzs, List.length_nil, List.length_map, List.nil_append, Nat.mul_one] at hge ⊢
        omega
      · simp only [Array.toList_append, List.nil_append, Nat.mul_one]
        exact List.take_left' (by simp)
theorem wpList_append_onto' {P : Program} (w W : World) (row : Option Nat) {ops : Array Oper} {rest : List Oper} {o : Oper} {a : Act} {Q : Exit → Act → World → Prop} (hgd : o.guard = none) (s x : Operand) (t : TypeId)
    (ho : o.op = .call { callee := .builtin .append, args := #[s, x], argTypes := #[t, t] })
    (i : TypeInfo) (z : Value) (ht : P.underlying t = some (.slice 5)) (hi : P.info? 5 = some i) (hz : i.zero = some z) (hsize : i.size = 1) (hby : i.bytes = 1) (hzs : z.cells.size = 1)
    (v : Value) (xs : List UInt8) (hs : a.eval s = v) (hown : Onto W row w v xs) (hW : W.heap.size ≤ w.heap.size) (B : Nat) (A : Option Addr) (c : Nat) (l : List UInt8) (hx : a.eval x = .slice A l.length c) (hr : RB w B A l)
    (hbig : xs.length + l.length ≤ 140737488355328)
    (h : ∀ p cap w' r, Onto W row w' (.slice p (xs ++ l).length cap) (xs ++ l) → w.grownBy w' r → Wrote W row r → (r = none ∨ r = v.ownBlock) → ((Value.slice p (xs ++ l).length cap).ownBlock = v.ownBlock ∨ (Value.slice p (xs ++ l).length cap).ownBlock = some w.heap.size) → wpList P ops Q rest (a.put o.dst (.slice p (xs ++ l).length cap)) w') : wpList P ops Q (o :: rest) a w := by
  refine wpList_plain hgd fun K hK => ?_
  obtain ⟨p, cap, w', r, hrun, h2, h3, h4, h5, h6, _⟩ := run_append_onto (P := P) w W row o.type i z t ht hi hz hsize hby hzs v xs hown hW B A c l hr hbig
  unfold Oper.wp execOp
  simp only [ho, resolve, invoke, builtin, Sem.run_bind, Sem.run_pure, Result.andThen_ok, List.map_toArray, List.map_cons, List.map_nil, hs, hx, hrun]
  exact hK _ _ (h p cap w' r h2 h3 h4 h5 h6)
/-- What a function tells that lays bytes behind what may be written: the bytes; of the blocks that were there row alone may have turned. -/
def OwnPost (row : Option Nat) (w : World) (l : List UInt8) (e : Ending) (w' : World) : Prop :=
  ∃ (p : Option Addr) (c : Nat) (L : List UInt8), e = .returned (.slice p L.length c) ∧ Hid (L = l) ∧ L.length ≤ c ∧ Onto w row w' (.slice p L.length c) L ∧ w.grownBy w' row
/-- The first k of what is laid behind. -/
def outL (low : List UInt8) (k : Nat) : List UInt8 := (List.range k).map fun q => if q + 1 < low.length then up (low.getD (low.length - 1 - q) 0) else low.getD 0 0
theorem outL_succ (low : List UInt8) (k : Nat) : outL low (k + 1) = outL low k ++ [if k + 1 < low.length then up (low.getD (low.length - 1 - k) 0) else low.getD 0 0] := by
  unfold outL; rw [List.range_succ, List.map_append]; rfl
theorem outL_all (n : Nat) : outL (lowL n) (lowL n).length = numL n := by
  obtain ⟨d, t, e1, e2⟩ := lowL_num n
  rw [e1, e2]
  unfold outL
  apply List.ext_getElem
  · simp
  · intro i h1 h2
    simp at h1
    by_cases hi : i < t.length
    · rw [List.getElem_append_left (by simpa using hi)]
      simp [hi, List.getD]
      rw [show t.length - i = (t.length - 1 - i) + 1 by omega, List.getElem?_cons_succ, List.getElem?_eq_getElem (by omega)]
      rfl
    · obtain rfl : i = t.length := by omega
      simp
set_option maxRecDepth 100000 in
set_option maxHeartbeats 2000000 in
theorem put_any (row : Option Nat) (p : Option Addr) (cap : Nat) (l : List UInt8) (n : Int) (w : World) (h : Onto w row w (.slice p l.length cap) l) (hown0 : ∀ g, (Value.slice p l.length cap).ownBlock = some g → g < w.heap.size) (hl : l.length ≤ 70368744177664) :
    Calls Try.prog 47 #[.slice p l.length cap, .int .i64 n] w (OwnPost row w (l ++ numL (heldW n))) := by
  obtain ⟨i0, hi, hz0, hz1, hz2⟩ := info_parts info_byte
  obtain ⟨N, hN⟩ : ∃ N, N = heldW n := ⟨_, rfl⟩
  have hN1 := heldW_le n
  rw [← hN] at hN1
  have hmm : max 0 (min n 1099511627776) = (N : Int) := by rw [hN]; unfold heldW; split; omega; split <;> omega
  rw [← hN]
  have hll := numL_len N (by omega)
  have hlow := lowL_len N
  rw [← outL_all N]
  obtain ⟨low, hlw⟩ : ∃ low, low = lowL N := ⟨_, rfl⟩
  rw [← hlw] at hlow ⊢
  have hl6 : low.length ≤ 6 := by omega
  have hl1 : 1 ≤ low.length := by omega
  have Hlow := Lib.hid hlw
  clear hN hll hlow hlw
  go_enter Try.func47, Try.ntmps47
  go_wp2_with fail
  clear hmm
  go_loopw [1, 5] (fun t v wr => ∃ (m cp : Nat) (q : Option Addr) (don : List UInt8), t = .int .i64 m ∧ v = .slice q don.length cp ∧ m ≤ N ∧ Hid (don ++ lowL m = low) ∧ wr.ownsRow w.heap.size 5 1 (.slice q don.length cp) don.length (don.map ub) ∧ Below w.heap.size w wr) (fun t _ _ => (intOf t).toNat)
  case atStart => exact ⟨N, 0, none, [], rfl, rfl, Nat.le_refl _, by rw [Hlow.out]; rfl, World.ownsRow_nil _ _ _ _, Below.refl _ _⟩
  case round =>
    obtain ⟨m, cp, q, don, rfl, rfl, hm, hdl, hown, hb⟩ := hrel
    have hs := hb.size
    have hdlen : don.length < low.length := by
      have h1 := congrArg List.length hdl.out
      have h2 := numL_len m (by omega)
      rw [← lowL_len m] at h2
      simp at h1; omega
    have e1 : bits .and .i64 (m : Int) 127 = ((m % 128 : Nat) : Int) := by rw [and127 _ (by omega) (by omega)]; omega
    obtain ⟨r, hr⟩ : ∃ r, r = m % 128 := ⟨_, rfl⟩
    rw [← hr] at e1
    have hr1 : r < 128 := by omega
    have hrb := ub_ofNat r (by omega)
    have hnew : RB (wr.alloc (.cells #[.int .u8 (r : Int)] 5)) (wr.heap.size + 1) (some ⟨wr.heap.size, 0, none⟩) [byteOf r] := by
      have := rb_new1 wr (byteOf r) 5 (0, 0)
      rwa [byteOf_nat r (by omega)] at this
    obtain ⟨m2, hm2⟩ : ∃ m2 : Nat, (m : Int) / 128 = (m2 : Int) := ⟨m / 128, by omega⟩
    by_cases hlast : m < 128
    · obtain rfl : m2 = 0 := by omega
      have Hr := Lib.hid hr
      clear hr hrb
      go_wp2_with (at_builtin; refine wpList_append_bytes _ rfl _ _ _ rfl w.heap.size 5 i0 _ Try.underlying26 hi hz0 hz1 hz2 rfl _ don rfl (hown.alloc _) (wr.heap.size + 1) _ 1 [byteOf r] rfl hnew (by simp; omega) (by simp; omega) ?_; intro p1 cap1 w2 hown1 hg1 _)
      have hlo : low = don ++ [byteOf r] := by
        have h1 := hdl.out
        rw [lowL_small m hlast] at h1
        rw [← h1, Hr.out, Nat.mod_eq_of_lt hlast]
      have hdl1 : don.length + 1 ≤ low.length := by rw [hlo]; simp
      have hdl2 : low.length ≤ don.length + 1 := by rw [hlo]; simp
      have hb1 := (hb.alloc hs _).grown hg1 (by simp; omega) fun k e => ((hown.alloc (.cells #[.int .u8 (r : Int)] 5)).lt k e).1
      have hfar := hown1.lt
      rw [← hlo] at hown1
      obtain ⟨ad, rfl, hadb, hcells⟩ := RB.of_own hown1 hl1
      have had := (hfar ad.block rfl).1
      have h2 : Onto w row w2 (.slice p l.length cap) l := h.keep fun g e => hb1.block g (hown0 g e)
      have hne : (Value.slice p l.length cap).ownBlock ≠ some ad.block := fun e => by have := hown0 _ e; omega
      have hgr : w.grownBy w2 row := ⟨hb1.os, hb1.tape, hb1.output, hb1.size, fun k hk _ => hb1.block k hk⟩
      have hs1 := hb1.size
      clear hfar hown hown1 hg1 hnew hlo hdl Hr hlast
      go_loopw [0, 6] (fun v i wr => ∃ (k cp2 : Nat) (p2 : Option Addr) (xs : List UInt8), k ≤ low.length ∧ i = .int .i64 ((low.length : Int) - 1 - k) ∧ v = .slice p2 xs.length cp2 ∧ Hid (xs = l ++ outL low k) ∧ Onto w row wr (.slice p2 xs.length cp2) xs ∧ (Value.slice p2 xs.length cp2).ownBlock ≠ some ad.block ∧ w.grownBy wr row ∧ Hid (wr.heap[ad.block]? = w2.heap[ad.block]?) ∧ w2.heap.size ≤ wr.heap.size) (fun _ i _ => (intOf i + 1).toNat)
      case atStart => exact ⟨0, cap, p, l, Nat.zero_le _, by congr 1; omega, rfl, by show l = l ++ outL low 0; simp [outL], h2, hne, hgr, rfl, Nat.le_refl _⟩
      case round =>
        obtain ⟨k, cp2, p2, xs, hk, rfl, rfl, hxs, hown, hne2, hb2, hblk, hsz⟩ := hrel
        have hs2 : w.heap.size ≤ wr.heap.size := hb2.size
        have hxl : xs.length ≤ l.length + k := by rw [hxs.out]; simp [outL]
        by_cases hlt : k < low.length
        · have hxs' : Hid (l ++ outL low (k + 1) = xs ++ [if k + 1 < low.length then up (low.getD (low.length - 1 - k) 0) else low.getD 0 0]) := by
            show _ = _
            rw [outL_succ, hxs.out, List.append_assoc]
          by_cases hj0 : k + 1 = low.length
          · rw [show (low.length : Int) - 1 - k = 0 by omega]
            have hck : wr.cell? ad = some (.int .u8 low[0].toNat) := by
              have := (World.cell?_of_block (w := w2) (w' := wr) (a := ad.add 0) hblk.out).trans (hcells 0 (by omega))
              simpa [Addr.add, ub] using this
            have hgd : low.getD 0 0 = low[0] := by simp [List.getD, show 0 < low.length by omega]
            rw [if_neg (by omega), hgd] at hxs'
            have hk1 : low.length ≤ k + 1 := by omega
            clear hgd hxs hj0
            generalize low[0] = cj at hck hxs'
            have hnew : RB (wr.alloc (.cells #[.int .u8 (cj.toNat : Int)] 5)) (wr.heap.size + 1) (some ⟨wr.heap.size, 0, none⟩) [cj] := rb_new1 wr cj 5 (0, 0)
            go_wp2_with (at_builtin; refine wpList_append_onto' _ w row rfl _ _ _ rfl i0 _ Try.underlying26 hi hz0 hz1 hz2 rfl _ xs rfl (hown.alloc _) (by simp; omega) (wr.heap.size + 1) _ 1 [cj] rfl hnew (by simp; omega) ?_; intro p3 cap3 w3 r3 hown3 hg3 hwr3 hrr3 hob3)
            go_roundw
            case rel =>
              have hadne : some ad.block ≠ r3 := by
                rcases hrr3 with e' | e'
                · rw [e']; intro e; cases e
                · rw [e']; exact fun e => hne2 e.symm
              refine ⟨k + 1, cap3, p3, xs ++ [cj], by omega, by congr 1; omega, by simp, hxs'.out.symm, hown3, ?_, grow_more (grow_more hb2 (World.grownBy_alloc wr _ none) (.inr fun g e => (by cases e))) hg3 hwr3, ?_, by have := hg3.size; simp at this; omega⟩
              · rcases hob3 with e | e
                · rw [e]; exact hne2
                · rw [e]; simp; omega
              · exact (hg3.block _ (by simp; omega) hadne).trans ((Below.heap_alloc wr _ _ (by omega)).trans hblk.out)
            case measure => simp [intOf]
          · obtain ⟨j, hj⟩ : ∃ j : Nat, (low.length : Int) - 1 - k = j := ⟨low.length - 1 - k, by omega⟩
            rw [hj]
            have hjl : j < low.length := by omega
            have hck : wr.cell? (ad.add j) = some (.int .u8 low[j].toNat) := (World.cell?_of_block (by rw [block_add]; exact hblk.out)).trans (hcells j hjl)
            have hgd : low.getD (low.length - 1 - k) 0 = low[j] := by rw [show low.length - 1 - k = j by omega]; simp [List.getD, hjl]
            have hd256 := low[j].toNat_lt
            rw [if_pos (by omega), hgd] at hxs'
            have hj1 : (0 : Int) < (j : Int) := by omega
            have hj2 : j + k + 1 ≤ low.length := by omega
            have hj3 : low.length ≤ j + k + 1 := by omega
            clear hgd hxs hj hj0
            generalize low[j] = cj at hck hxs' hd256
            obtain ⟨X, hX⟩ : ∃ X, X = cj.toNat % 128 + 128 := ⟨_, rfl⟩
            have hor : bits .or .u8 (cj.toNat : Int) 128 = (X : Int) := by rw [or128 _ (by omega) (by omega), hX]; omega
            have hnew : RB (wr.alloc (.cells #[.int .u8 (X : Int)] 5)) (wr.heap.size + 1) (some ⟨wr.heap.size, 0, none⟩) [up cj] := by
              have := rb_new1 wr (byteOf X) 5 (0, 0)
              rw [byteOf_nat X (by omega)] at this
              unfold up; rwa [← hX]
            clear hX
            go_wp2_with (at_builtin; refine wpList_append_onto' _ w row rfl _ _ _ rfl i0 _ Try.underlying26 hi hz0 hz1 hz2 rfl _ xs rfl (hown.alloc _) (by simp; omega) (wr.heap.size + 1) _ 1 [up cj] rfl hnew (by simp; omega) ?_; intro p3 cap3 w3 r3 hown3 hg3 hwr3 hrr3 hob3)
            go_roundw
            case rel =>
              have hadne : some ad.block ≠ r3 := by
                rcases hrr3 with e' | e'
                · rw [e']; intro e; cases e
                · rw [e']; exact fun e => hne2 e.symm
              refine ⟨k + 1, cap3, p3, xs ++ [up cj], by omega, by congr 1; omega, by simp, hxs'.out.symm, hown3, ?_, grow_more (grow_more hb2 (World.grownBy_alloc wr _ none) (.inr fun g e => (by cases e))) hg3 hwr3, ?_, by have := hg3.size; simp at this; omega⟩
              · rcases hob3 with e | e
                · rw [e]; exact hne2
                · rw [e]; simp; omega
              · exact (hg3.block _ (by simp; omega) hadne).trans ((Below.heap_alloc wr _ _ (by omega)).trans hblk.out)
            case measure => simp [intOf]
        · obtain rfl : k = low.length := by omega
          go_wp2
          go_ret
          obtain ⟨p2', c2', he, hle⟩ := hown.slice
          cases he
          exact ⟨p2, cp2, xs, rfl, hxs, hle, hown, hb2⟩
    · have hm2' : m2 = m / 128 := by omega
      have hdl2 : Hid ((don ++ [byteOf r]) ++ lowL m2 = low) := by
        show _ = _
        have h1 := hdl.out
        rw [lowL_big m (by omega), ← hr, ← hm2'] at h1
        rw [← h1]; simp
      clear hr hrb hm2'
      have hm20 : ((m2 : Int) == 0) = false := by simp; omega
      go_wp2_with (at_builtin; refine wpList_append_bytes _ rfl _ _ _ rfl w.heap.size 5 i0 _ Try.underlying26 hi hz0 hz1 hz2 rfl _ don rfl (hown.alloc _) (wr.heap.size + 1) _ 1 [byteOf r] rfl hnew (by simp; omega) (by simp; omega) ?_; intro p1 cap1 w2 hown1 hg1 _)
      go_roundw
      case rel =>
        exact ⟨m2, cap1, p1, don ++ [byteOf r], rfl, by simp, by omega, hdl2, hown1, (hb.alloc hs _).grown hg1 (by simp; omega) fun k e => (hown.lt k e).1⟩
      case measure => simp [intOf]; omega

set_option maxRecDepth 100000 in
theorem puttext_any (row : Option Nat) (B : Nat) (p A : Option Addr) (cap c : Nat) (l s : List UInt8) (w : World) (h : Onto w row w (.slice p l.length cap) l) (hown0 : ∀ g, (Value.slice p l.length cap).ownBlock = some g → g < w.heap.size) (hs : RB w B A s) (hB : B ≤ w.heap.size) (hsr : 0 < s.length → ∀ ad, A = some ad → row ≠ some ad.block) (hl : l.length ≤ 70368744177000) (hsl : s.length ≤ 70368744177664) :
    Calls Try.prog 46 #[.slice p l.length cap, .slice A s.length c] w (OwnPost row w (l ++ numL (heldW s.length) ++ s)) := by
  obtain ⟨i0, hi, hz0, hz1, hz2⟩ := info_parts info_byte
  go_enter Try.func46, Try.ntmps46
  go_wp2_with fail
  refine (put_any row p cap l s.length _ h hown0 (by omega)).mono ?_
  rintro e w1 ⟨p1, c1, L1, rfl, hL1, _, hown1, hb1⟩
  have hn : L1.length ≤ l.length + 6 := by
    rw [hL1.out]
    have := (numL_len (heldW s.length) (by have := heldW_le s.length; omega)).2
    simp; omega
  have hs1 : RB w1 B A s := fun hn => by
    obtain ⟨ad, e, hb, hc⟩ := hs hn
    exact ⟨ad, e, hb, fun j hj => (World.cell?_of_block (hb1.block _ (by rw [block_add]; omega) (by rw [block_add]; exact fun e' => hsr hn ad e e'.symm))).trans (hc j hj)⟩
  go_wp2_with (at_builtin; refine wpList_append_onto' _ w row rfl _ _ _ rfl i0 _ Try.underlying26 hi hz0 hz1 hz2 rfl _ L1 rfl hown1 hb1.size B A c s rfl hs1 (by omega) ?_; intro p2 cap2 w2 r2 hown2 hg2 hwr2 _ _)
  go_ret
  obtain ⟨p2', c2', he, hle⟩ := hown2.slice
  cases he
  exact ⟨p2, cap2, L1 ++ s, by rw [List.length_append]; rfl, by rw [← hL1.out]; rfl, hle, hown2, grow_more hb1 hg2 hwr2⟩

/-- What a scan without a bound comes to, the bound asked at the end. -/
def refF (l : List UInt8) (most : Int) (k acc : Nat) : Option (Nat × Nat) := if most < (acc : Int) then none else scanL most acc k ((l.take 6).drop k)
theorem refF_start (l : List UInt8) (most : Int) (h : l[0]? ≠ some 128) : readL l most = refF l most 0 0 := by
  unfold readL refF
  rw [if_neg h, List.drop_zero]
  split
  · rename_i h0
    cases l.take 6 with
    | nil => rfl
    | cons d t => rw [scanL, if_pos (by omega)]
  · rfl
theorem refF_end (l : List UInt8) (most : Int) (k acc : Nat) (h : (l.take 6).length ≤ k) : refF l most k acc = none := by
  unfold refF
  split
  · rfl
  · rw [List.drop_eq_nil_of_le h]; rfl
theorem refF_step (l : List UInt8) (most : Int) (k acc : Nat) (h : k < l.length) (h6 : k < 6) : refF l most k acc = if l[k].toNat < 128 then (if most < ((acc * 128 + l[k].toNat % 128 : Nat) : Int) then none else some (acc * 128 + l[k].toNat % 128, k + 1)) else refF l most (k + 1) (acc * 128 + l[k].toNat % 128) := by
  have hd : (l.take 6).drop k = l[k] :: (l.take 6).drop (k + 1) := by
    rw [List.drop_eq_getElem_cons (by simp; omega)]; simp
  unfold refF
  rw [hd, scanL]
  by_cases h1 : most < (acc : Int)
  · rw [if_pos h1]
    split
    · rw [if_pos (by omega)]
    · rw [if_pos (by omega)]
  · rw [if_neg h1]
    by_cases h2 : most < ((acc * 128 + l[k].toNat % 128 : Nat) : Int)
    · rw [if_pos h2]
      split <;> rfl
    · rw [if_neg h2, if_neg h2, if_neg h2]
/-- What the reference tells of what is read. -/
def RefTold (o : Option (Nat × Nat)) (w : World) (e : Ending) (w' : World) : Prop :=
  ∃ (n k : Nat) (ok : Bool), e = .returned (.tuple #[.int .i64 n, .int .i64 k, .bool ok]) ∧ w = w' ∧ Hid (o = if ok then some (n, k) else none)
end Go.Proofs.Ytnadcdgpfopcaaa

namespace Go.Proofs.Ytnadcdgpfopcaaa
open Go.RowKit

theorem wpList_append_len {P : Program} (w : World) {ops : Array Oper} {rest : List Oper} {o : Oper} {a : Act} {Q : Exit → Act → World → Prop} (hgd : o.guard = none) (s x : Operand) (t : TypeId)
    (ho : o.op = .call { callee := .builtin .append, args := #[s, x], argTypes := #[t, t] })
    (base : Nat) (e : TypeId) (i : TypeInfo) (z : Value) (ht : P.underlying t = some (.slice e)) (hi : P.info? e = some i) (hz : i.zero = some z)
    (hsize : i.size = 1) (hby : i.bytes = 1) (hzs : z.cells.size = 1)
    (v : Value) (xs : List UInt8) (hs : a.eval s = v) (hown : w.ownsRow base e 1 v xs.length (xs.map ub)) (B : Nat) (A : Option Addr) (m c : Nat) (l : List UInt8) (hx : a.eval x = .slice A m c) (hm : m = l.length) (hr : RB w B A l)
    (hbig : xs.length + l.length ≤ 140737488355328) (hbase : base ≤ w.heap.size)
    (h : ∀ p cap w', w'.ownsRow base e 1 (.slice p (xs ++ l).length cap) (xs ++ l).length ((xs ++ l).map ub) → w.grownBy w' v.ownBlock → ((Value.slice p (xs ++ l).length cap).ownBlock = v.ownBlock ∨ (Value.slice p (xs ++ l).length cap).ownBlock = some w.heap.size) → wpList P ops Q rest (a.put o.dst (.slice p (xs ++ l).length cap)) w') : wpList P ops Q (o :: rest) a w := by
  subst hm
  exact wpList_append_bytes w hgd s x t ho base e i z ht hi hz hsize hby hzs v xs hs hown B A c l hx hr hbig hbase h
theorem ok_none {o : Option (Nat × Nat)} {n k : Nat} {ok : Bool} (h : o = none) (ho : o = if ok then some (n, k) else none) : ok = false := by
  cases ok
  · rfl
  · rw [h] at ho; simp at ho
theorem ok_some {o : Option (Nat × Nat)} {n k n1 k1 : Nat} {ok : Bool} (h : o = some (n, k)) (ho : o = if ok then some (n1, k1) else none) : n1 = n ∧ k1 = k ∧ ok = true := by
  cases ok
  · rw [h] at ho; simp at ho
  · rw [h] at ho
    simp at ho
    exact ⟨ho.1.symm, ho.2.symm, rfl⟩
end Go.Proofs.Ytnadcdgpfopcaaa

namespace Go.Proofs.Ytnadcdgpfopcaaa

section
variable {P : Program} {ops : Array Oper} {Q : Exit → Act → World → Prop}

/-- How many have not come up yet. -/
def toComeR (listed : Array Bool) : Nat := listed.toList.countP (fun b => !b)
theorem toCome_setR {listed : Array Bool} {i : Nat} (h : listed.getD i true = false) : toComeR (listed.setIfInBounds i true) + 1 ≤ toComeR listed := by
  have hi : i < listed.size := by
    rcases Nat.lt_or_ge i listed.size with h' | h'
    · exact h'
    · simp [Array.getD, Nat.not_lt.2 h'] at h
  have he : listed.toList[i]'(by simpa using hi) = false := by simpa [Array.getD, hi] using h
  unfold toComeR
  rw [Array.toList_setIfInBounds, List.countP_set (by simpa using hi), he]
  have : 0 < listed.toList.countP (fun b => !b) := List.countP_pos_iff.2 ⟨_, List.getElem_mem (by simpa using hi), by rw [he]; rfl⟩
  rw [if_pos (show (!false) = true from rfl), if_neg (show ¬ (!true) = true by decide)]
  omega
theorem toCome_noneR {listed : Array Bool} (h : toComeR listed = 0) (i : Nat) : listed.getD i true = true := by
  unfold toComeR at h
  rcases Nat.lt_or_ge i listed.size with h' | h'
  · have := List.countP_eq_zero.1 h (listed[i]) (by simp)
    simpa [Array.getD, h'] using this
  · simp [Array.getD, Nat.not_lt.2 h']
/-- Whatever order is drawn, a word of the state that each operation hands on is handed on to the end. -/
theorem wpAny_invR {md : Region.Mode} (I : Array Bool → Act → World → Prop)
    (hstep : ∀ i listed a w, listed.size = ops.size → I listed a w → i ∈ Region.ready md ops listed → wpOp P ops Q i (fun a' w' => I (listed.setIfInBounds i true) a' w') a w)
    (hend : ∀ listed a w, listed.size = ops.size → I listed a w → Region.ready md ops listed = [] → Q .normal a w) :
    ∀ (fuel : Nat) (listed : Array Bool) (a : Act) (w : World), listed.size = ops.size → toComeR listed ≤ fuel → I listed a w → wpAny P md ops Q fuel listed a w := by
  intro fuel
  induction fuel with
  | zero =>
    intro listed a w hs hc hI
    have hr : Region.ready md ops listed = [] := by
      rw [List.eq_nil_iff_forall_not_mem]
      intro i hi
      have h1 := (mem_ready.1 hi).1
      rw [toCome_noneR (by omega) i] at h1
      cases h1
    exact ⟨hr, hend _ _ _ hs hI hr⟩
  | succ fuel ih =>
    intro listed a w hs hc hI
    refine ⟨hend _ _ _ hs hI, fun i hi => ?_⟩
    refine wpOp_mono (fun a' w' h' => ih _ a' w' (by simpa using hs) ?_ h') (hstep i listed a w hs hI hi)
    have := toCome_setR (mem_ready.1 hi).1
    omega

/-- Each operation waits for earlier ones alone. -/
def forwardsR (ops : Array Oper) : Bool := (List.range ops.size).all fun i => ((ops[i]?).map fun o => o.after.all fun e => decide (e.on < i)).getD true
theorem all_listedR {md : Region.Mode} (hf : forwardsR ops = true) {listed : Array Bool} (hs : listed.size = ops.size) (hr : Region.ready md ops listed = []) : ∀ i, i < ops.size → listed.getD i false = true := by
  intro i
  induction i using Nat.strongRecOn with
  | ind i ih =>
    intro hi
    have ho : ops[i]? = some ops[i] := Array.getElem?_eq_getElem hi
    have hfi := (List.all_eq_true.1 hf) i (List.mem_range.2 hi)
    rw [ho] at hfi
    simp only [Option.map_some, Option.getD_some, Array.all_eq_true_iff_forall_mem, decide_eq_true_eq] at hfi
    cases hg : listed.getD i true with
    | true =>
      have : i < listed.size := by omega
      simpa [Array.getD, this] using hg
    | false =>
      have hm : i ∈ Region.ready md ops listed := mem_ready.2 ⟨hg, _, ho, fun e he _ => ih e.on (hfi e he) (by have := hfi e he; omega)⟩
      rw [hr] at hm
      cases hm

/-- No two operations write one slot, and each slot is there. -/
def slotsOkR (ops : Array Oper) (n : Nat) : Bool :=
  (List.range ops.size).all fun i => ((ops[i]?).bind (·.dst)).all fun t => decide (t < n) && (List.range ops.size).all fun j => decide (i = j) || ((ops[j]?).bind (·.dst)) != some t
theorem slotsOk_ltR {n : Nat} (h : slotsOkR ops n = true) {i : Nat} {o : Oper} {t : Tmp} (ho : ops[i]? = some o) (ht : o.dst = some t) : t < n := by
  have hi : i < ops.size := (Array.getElem?_eq_some_iff.1 ho).1
  have := (List.all_eq_true.1 h) i (List.mem_range.2 hi)
  rw [ho] at this
  simp [ht] at this
  exact this.1
theorem slotsOk_neR {n : Nat} (h : slotsOkR ops n = true) {i j : Nat} {o o' : Oper} {t : Tmp} (ho : ops[i]? = some o) (ht : o.dst = some t) (ho' : ops[j]? = some o') (hij : i ≠ j) : o'.dst ≠ some t := by
  have hi : i < ops.size := (Array.getElem?_eq_some_iff.1 ho).1
  have hj : j < ops.size := (Array.getElem?_eq_some_iff.1 ho').1
  have := (List.all_eq_true.1 h) i (List.mem_range.2 hi)
  rw [ho] at this
  simp only [Option.bind_some, ht, Option.all_some, Bool.and_eq_true, List.all_eq_true, List.mem_range] at this
  have h2 := this.2 j hj
  rw [ho'] at h2
  simpa [hij] using h2

/-- What is known of a state: of each slot that has been written what its operation yields; the others are as they were. -/
structure KnownR (ops : Array Oper) (φ : Nat → Value → World → Prop) (G : World → Prop) (a0 : Act) (listed : Array Bool) (a : Act) (w : World) : Prop where
  g : G w
  defers : a.defers = a0.defers
  size : a.tmps.size = a0.tmps.size
  done : ∀ i o t, ops[i]? = some o → o.dst = some t → listed.getD i false = true → φ i (a.tmps.getD t undef) w
  old : ∀ t, (ops.all fun o => o.dst != some t) = true → a.tmps.getD t undef = a0.tmps.getD t undef
/-- What is asked of one operation: in whatever state in which those that it waits for have come up. -/
def OpOkR (P : Program) (ops : Array Oper) (Q : Exit → Act → World → Prop) (φ : Nat → Value → World → Prop) (G : World → Prop) (R : World → World → Prop) (a0 : Act) (i : Nat) (o : Oper) : Prop :=
  ∀ (a : Act) (w : World) (K : Act → World → Prop), G w →
    (∀ j t, (o.after.any fun e => e.on == j && Region.binds .any e) = true → ((ops[j]?).bind (·.dst)) = some t → φ j (a.tmps.getD t undef) w) →
    (∀ t, (ops.all fun o => o.dst != some t) = true → a.tmps.getD t undef = a0.tmps.getD t undef) →
    a.tmps.size = a0.tmps.size →
    (∀ v w', φ i v w' → G w' → R w w' → K (a.put o.dst v) w') →
    if Region.wanted o (yielded ops a.tmps) = true then o.wp P a w K Q else K (a.put o.dst undef) w
def OpsOkR (P : Program) (ops : Array Oper) (Q : Exit → Act → World → Prop) (φ : Nat → Value → World → Prop) (G : World → Prop) (R : World → World → Prop) (a0 : Act) : Nat → List Oper → Prop
  | _, [] => True
  | i, o :: r => OpOkR P ops Q φ G R a0 i o ∧ OpsOkR P ops Q φ G R a0 (i + 1) r
theorem OpsOkR.nil {φ : Nat → Value → World → Prop} {G : World → Prop} {R : World → World → Prop} {a0 : Act} {i : Nat} : OpsOkR P ops Q φ G R a0 i [] := trivial
theorem OpsOkR.cons {φ : Nat → Value → World → Prop} {G : World → Prop} {R : World → World → Prop} {a0 : Act} {i : Nat} {o : Oper} {r : List Oper} (h : OpOkR P ops Q φ G R a0 i o) (hr : OpsOkR P ops Q φ G R a0 (i + 1) r) : OpsOkR P ops Q φ G R a0 i (o :: r) := ⟨h, hr⟩
theorem OpsOkR.at_ {φ : Nat → Value → World → Prop} {G : World → Prop} {R : World → World → Prop} {a0 : Act} : ∀ (l : List Oper) (i j : Nat) (o : Oper), OpsOkR P ops Q φ G R a0 i l → l[j]? = some o → OpOkR P ops Q φ G R a0 (i + j) o
  | [], _, _, _, _, h => by simp at h
  | o :: r, i, 0, o', h, hj => by
    obtain rfl : o = o' := by simpa using hj
    exact h.1
  | o :: r, i, j + 1, o', h, hj => by
    have := OpsOkR.at_ r (i + 1) j o' h.2 (by simpa using hj)
    rwa [show i + 1 + j = i + (j + 1) by omega] at this

/-- THE LAW. -/
theorem region_inv {id : Nat} {a0 : Act} {w : World} (φ : Nat → Value → World → Prop) (G : World → Prop) (R : World → World → Prop) (hm : P.follows .mixedOrders = true) (hf : forwardsR ops = true) (hsl : slotsOkR ops a0.tmps.size = true)
    (hR : ∀ j v w w', φ j v w → R w w' → φ j v w') (hG : G w.drew) (hops : OpsOkR P ops Q φ G R a0 0 ops.toList)
    (hend : ∀ a w', G w' → a.defers = a0.defers → a.tmps.size = a0.tmps.size → (∀ j t, ((ops[j]?).bind (·.dst)) = some t → φ j (a.tmps.getD t undef) w') → (∀ t, (ops.all fun o => o.dst != some t) = true → a.tmps.getD t undef = a0.tmps.getD t undef) → Q .normal a w') :
    (Code.region id ops true).wp P Q a0 w := by
  refine wp_region_any hm ?_
  have h0 : KnownR ops φ G a0 (Array.replicate ops.size false) a0 w.drew :=
    ⟨hG, rfl, rfl, fun i o t _ _ h => by
      exfalso
      simp [Array.getD] at h, fun t _ => rfl⟩
  refine wpAny_invR (fun listed a w => KnownR ops φ G a0 listed a w) ?_ ?_ ops.size (Array.replicate ops.size false) a0 w.drew (by simp) ?_ h0
  · intro i listed a w hs hI hi
    obtain ⟨hun, o, ho, hall⟩ := mem_ready.1 hi
    have hok := OpsOkR.at_ ops.toList 0 i o hops (by simpa using ho)
    rw [Nat.zero_add] at hok
    have hil : i < listed.size := by have := (Array.getElem?_eq_some_iff.1 ho).1; omega
    have hgo := hok a w (fun a' w' => KnownR ops φ G a0 (listed.setIfInBounds i true) a' w') hI.g
      (fun j t he hj => by
        obtain ⟨e, he1, he2⟩ := Array.any_eq_true'.1 he
        simp only [Bool.and_eq_true, beq_iff_eq] at he2
        cases hoj : ops[j]? with
        | none => rw [hoj] at hj; cases hj
        | some oj =>
          rw [hoj] at hj
          exact hI.done j oj t hoj (by simpa using hj) (by have := hall e he1 he2.2; rwa [he2.1] at this))
      hI.old hI.size
      (fun v w' hv hg' hr => by
        refine ⟨hg', ?_, ?_, ?_, ?_⟩
        · cases hd : o.dst <;> simpa [Act.put] using hI.defers
        · cases hd : o.dst <;> simpa [Act.put] using hI.size
        · intro j oj t hoj htj hlj
          by_cases hij : i = j
          · subst hij
            obtain rfl : o = oj := by rw [ho] at hoj; exact Option.some.inj hoj
            have hlt := slotsOk_ltR hsl ho htj
            have e : (a.put o.dst v).tmps.getD t undef = v := by
              rw [htj]
              simp [Act.put, Array.getD, hI.size, hlt]
            rw [e]
            exact hv
          · have hl : listed.getD j false = true := by rw [getD_set_ne false hij] at hlj; exact hlj
            have e : (a.put o.dst v).tmps.getD t undef = a.tmps.getD t undef := by
              cases hd : o.dst with
              | none => rfl
              | some u =>
                have hne : u ≠ t := fun e => slotsOk_neR hsl hoj htj ho (Ne.symm hij) (by rw [hd, e])
                simp only [Act.put]
                rw [Array.getD_eq_getD_getElem?, Array.getD_eq_getD_getElem?, Array.getElem?_setIfInBounds, if_neg hne]
            rw [e]
            exact hR j _ _ _ (hI.done j oj t hoj htj hl) hr
        · intro t ht
          have e : (a.put o.dst v).tmps.getD t undef = a.tmps.getD t undef := by
            cases hd : o.dst with
            | none => rfl
            | some u =>
              have hne : u ≠ t := fun e => by
                have := Array.all_eq_true'.1 ht o (Array.mem_of_getElem? ho)
                rw [hd, e] at this
                simp at this
              simp only [Act.put]
              rw [Array.getD_eq_getD_getElem?, Array.getD_eq_getD_getElem?, Array.getElem?_setIfInBounds, if_neg hne]
          rw [e]
          exact hI.old t ht)
    unfold wpOp
    rw [ho]
    by_cases hw : Region.wanted o (yielded ops a.tmps) = true
    · rw [if_pos hw] at hgo
      simp only [hw, if_true]
      exact .inl hgo
    · rw [if_neg hw] at hgo
      simp only [hw]
      exact hgo
  · intro listed a w hs hI hr
    have hal := all_listedR hf hs hr
    refine hend a w hI.g hI.defers hI.size (fun j t hj => ?_) hI.old
    cases hoj : ops[j]? with
    | none => rw [hoj] at hj; cases hj
    | some oj =>
      rw [hoj] at hj
      exact hI.done j oj t hoj (by simpa using hj) (hal j (Array.getElem?_eq_some_iff.1 hoj).1)
  · unfold toComeR
    have := List.countP_le_length (p := fun b => !b) (l := (Array.replicate ops.size false).toList)
    simpa using this

/-! ### The same, where what an operation yields may be used up by a later one -/

/-- What the operations have yielded: by their numbers. -/
def valsR (ops : Array Oper) (a : Act) (k : Nat) : Value := match (ops[k]?).bind (·.dst) with
  | some t => a.tmps.getD t undef
  | none => undef
def updvR (f : Nat → Value) (i : Nat) (v : Value) : Nat → Value := fun k => if k = i then v else f k
theorem updv_sameR (f : Nat → Value) (i : Nat) (v : Value) : updvR f i v i = v := by simp [updvR]
theorem updv_neR (f : Nat → Value) {i k : Nat} (h : k ≠ i) (v : Value) : updvR f i v k = f k := by simp [updvR, h]
/-- Number k comes up behind number i, whatever order is drawn. -/
def behind (ops : Array Oper) : Nat → Nat → Nat → Bool
  | 0, _, _ => false
  | n + 1, i, k => ((ops[k]?).map fun o => o.after.any fun e => Region.binds .any e && (e.on == i || behind ops n i e.on)).getD false
def Closed (ops : Array Oper) (listed : Array Bool) : Prop := ∀ k o e, ops[k]? = some o → listed.getD k false = true → e ∈ o.after → Region.binds .any e = true → listed.getD e.on false = true
theorem behind_listed {listed : Array Bool} (hc : Closed ops listed) : ∀ (n i k : Nat), behind ops n i k = true → listed.getD k false = true → listed.getD i false = true := by
  intro n
  induction n with
  | zero => intro i k h; cases h
  | succ n ih =>
    intro i k h hk
    unfold behind at h
    cases ho : ops[k]? with
    | none => rw [ho] at h; cases h
    | some o =>
      rw [ho] at h
      simp only [Option.map_some, Option.getD_some] at h
      obtain ⟨e, he1, he2⟩ := Array.any_eq_true'.1 h
      simp only [Bool.and_eq_true, Bool.or_eq_true, beq_iff_eq] at he2
      have h3 := hc k o e ho hk he1 he2.1
      rcases he2.2 with h4 | h4
      · rwa [h4] at h3
      · exact ih i e.on h4 h3
/-- What is known of a state. -/
structure Known3 (ops : Array Oper) (φ : Nat → (Nat → Value) → World → Prop) (G : World → Prop) (a0 : Act) (listed : Array Bool) (a : Act) (w : World) : Prop where
  g : G w
  defers : a.defers = a0.defers
  size : a.tmps.size = a0.tmps.size
  done : ∀ i o, ops[i]? = some o → listed.getD i false = true → φ i (valsR ops a) w
  fresh : ∀ i, listed.getD i false = false → valsR ops a i = valsR ops a0 i
  old : ∀ t, (ops.all fun o => o.dst != some t) = true → a.tmps.getD t undef = a0.tmps.getD t undef
  closed : Closed ops listed
def OpOk3 (P : Program) (ops : Array Oper) (Q : Exit → Act → World → Prop) (φ : Nat → (Nat → Value) → World → Prop) (G : World → Prop) (n : Nat) (a0 : Act) (i : Nat) (o : Oper) : Prop :=
  ∀ (a : Act) (w : World) (K : Act → World → Prop), G w →
    (∀ j, (o.after.any fun e => e.on == j && Region.binds .any e) = true → (ops[j]?).isSome = true → φ j (valsR ops a) w) →
    (∀ t, (ops.all fun o => o.dst != some t) = true → a.tmps.getD t undef = a0.tmps.getD t undef) →
    (∀ k, k = i ∨ behind ops n i k = true → valsR ops a k = valsR ops a0 k) →
    (∀ v w', G w' → φ i (updvR (valsR ops a) i v) w' → (∀ j, j ≠ i → behind ops n i j = false → φ j (valsR ops a) w → φ j (updvR (valsR ops a) i v) w') → K (a.put o.dst v) w') →
    if Region.wanted o (yielded ops a.tmps) = true then o.wp P a w K Q else K (a.put o.dst undef) w
def OpsOk3 (P : Program) (ops : Array Oper) (Q : Exit → Act → World → Prop) (φ : Nat → (Nat → Value) → World → Prop) (G : World → Prop) (n : Nat) (a0 : Act) : Nat → List Oper → Prop
  | _, [] => True
  | i, o :: r => OpOk3 P ops Q φ G n a0 i o ∧ OpsOk3 P ops Q φ G n a0 (i + 1) r
theorem OpsOk3.cons {φ : Nat → (Nat → Value) → World → Prop} {G : World → Prop} {n : Nat} {a0 : Act} {i : Nat} {o : Oper} {r : List Oper} (h : OpOk3 P ops Q φ G n a0 i o) (hr : OpsOk3 P ops Q φ G n a0 (i + 1) r) : OpsOk3 P ops Q φ G n a0 i (o :: r) := ⟨h, hr⟩
theorem OpsOk3.at_ {φ : Nat → (Nat → Value) → World → Prop} {G : World → Prop} {n : Nat} {a0 : Act} : ∀ (l : List Oper) (i j : Nat) (o : Oper), OpsOk3 P ops Q φ G n a0 i l → l[j]? = some o → OpOk3 P ops Q φ G n a0 (i + j) o
  | [], _, _, _, _, h => by simp at h
  | o :: r, i, 0, o', h, hj => by
    obtain rfl : o = o' := by simpa using hj
    exact h.1
  | o :: r, i, j + 1, o', h, hj => by
    have := OpsOk3.at_ r (i + 1) j o' h.2 (by simpa using hj)
    rwa [show i + 1 + j = i + (j + 1) by omega] at this
theorem vals_putR {a : Act} {i : Nat} {o : Oper} {v : Value} (hsl : slotsOkR ops a.tmps.size = true) (hd : (ops.all fun o => o.dst.isSome) = true) (ho : ops[i]? = some o) : valsR ops (a.put o.dst v) = updvR (valsR ops a) i v := by
  funext k
  have hds : ∀ (j : Nat) (oj : Oper), ops[j]? = some oj → ∃ t, oj.dst = some t := fun j oj hj => by
    have := Array.all_eq_true'.1 hd oj (Array.mem_of_getElem? hj)
    exact Option.isSome_iff_exists.1 this
  obtain ⟨u, hu⟩ := hds i o ho
  by_cases hk : k = i
  · subst hk
    rw [updv_sameR]
    unfold valsR
    rw [ho]
    simp only [Option.bind_some, hu, Act.put]
    have := slotsOk_ltR hsl ho hu
    simp [Array.getD, this]
  · rw [updv_neR _ hk]
    unfold valsR
    cases hok : ops[k]? with
    | none => rfl
    | some ok =>
      obtain ⟨t, ht⟩ := hds k ok hok
      simp only [Option.bind_some, ht, hu, Act.put]
      have hne : u ≠ t := fun e => slotsOk_neR hsl hok ht ho hk (by rw [hu, e])
      rw [Array.getD_eq_getD_getElem?, Array.getD_eq_getD_getElem?, Array.getElem?_setIfInBounds, if_neg hne]

/-- THE LAW, where what was yielded may be used up. -/
theorem region_inv3 {id : Nat} {a0 : Act} {w : World} (n : Nat) (φ : Nat → (Nat → Value) → World → Prop) (G : World → Prop) (hm : P.follows .mixedOrders = true) (hf : forwardsR ops = true) (hsl : slotsOkR ops a0.tmps.size = true) (hd : (ops.all fun o => o.dst.isSome) = true)
    (hG : G w.drew) (hops : OpsOk3 P ops Q φ G n a0 0 ops.toList)
    (hend : ∀ a w', G w' → a.defers = a0.defers → a.tmps.size = a0.tmps.size → (∀ j, (ops[j]?).isSome = true → φ j (valsR ops a) w') → (∀ t, (ops.all fun o => o.dst != some t) = true → a.tmps.getD t undef = a0.tmps.getD t undef) → Q .normal a w') :
    (Code.region id ops true).wp P Q a0 w := by
  refine wp_region_any hm ?_
  have hrep : ∀ i, (Array.replicate ops.size false).getD i false = false := fun i => by simp [Array.getD]
  have h0 : Known3 ops φ G a0 (Array.replicate ops.size false) a0 w.drew :=
    ⟨hG, rfl, rfl, fun i o _ h => (by rw [hrep] at h; cases h), fun _ _ => rfl, fun _ _ => rfl, fun k o e _ h => (by rw [hrep] at h; cases h)⟩
  refine wpAny_invR (fun listed a w => Known3 ops φ G a0 listed a w) ?_ ?_ ops.size (Array.replicate ops.size false) a0 w.drew (by simp) ?_ h0
  · intro i listed a w hs hI hi
    obtain ⟨hun, o, ho, hall⟩ := mem_ready.1 hi
    have hok := OpsOk3.at_ ops.toList 0 i o hops (by simpa using ho)
    rw [Nat.zero_add] at hok
    have hil : i < listed.size := by have := (Array.getElem?_eq_some_iff.1 ho).1; omega
    have hunf : listed.getD i false = false := by simpa [Array.getD, hil] using hun
    have hbeh : ∀ k, behind ops n i k = true → listed.getD k false = false := fun k hk => by
      cases hl : listed.getD k false with
      | false => rfl
      | true => rw [behind_listed hI.closed n i k hk hl] at hunf; cases hunf
    have hsl' : slotsOkR ops a.tmps.size = true := by rw [hI.size]; exact hsl
    have hgo := hok a w (fun a' w' => Known3 ops φ G a0 (listed.setIfInBounds i true) a' w') hI.g
      (fun j he hj => by
        obtain ⟨e, he1, he2⟩ := Array.any_eq_true'.1 he
        simp only [Bool.and_eq_true, beq_iff_eq] at he2
        obtain ⟨oj, hoj⟩ := Option.isSome_iff_exists.1 hj
        exact hI.done j oj hoj (by have := hall e he1 he2.2; rwa [he2.1] at this))
      hI.old (fun k hk => hI.fresh k (hk.elim (fun e => by rw [e]; exact hunf) (hbeh k)))
      (fun v w' hg' hv hpres => by
        have hvp := vals_putR (v := v) hsl' hd ho
        refine ⟨hg', ?_, ?_, ?_, ?_, ?_, ?_⟩
        · cases hdd : o.dst <;> simpa [Act.put] using hI.defers
        · cases hdd : o.dst <;> simpa [Act.put] using hI.size
        · intro j oj hoj hlj
          rw [hvp]
          by_cases hij : j = i
          · subst hij; exact hv
          · have hl : listed.getD j false = true := by rw [getD_set_ne false (Ne.symm hij)] at hlj; exact hlj
            refine hpres j hij ?_ (hI.done j oj hoj hl)
            cases hb : behind ops n i j with
            | false => rfl
            | true => rw [hbeh j hb] at hl; cases hl
        · intro k hk
          have hki : k ≠ i := fun e => by
            subst e
            simp [Array.getD, hil] at hk
          rw [hvp, updv_neR _ hki]
          exact hI.fresh k (by rwa [getD_set_ne false (Ne.symm hki)] at hk)
        · intro t ht
          have e : (a.put o.dst v).tmps.getD t undef = a.tmps.getD t undef := by
            cases hdd : o.dst with
            | none => rfl
            | some u =>
              have hne : u ≠ t := fun e => by
                have := Array.all_eq_true'.1 ht o (Array.mem_of_getElem? ho)
                rw [hdd, e] at this
                simp at this
              simp only [Act.put]
              rw [Array.getD_eq_getD_getElem?, Array.getD_eq_getD_getElem?, Array.getElem?_setIfInBounds, if_neg hne]
          rw [e]
          exact hI.old t ht
        · intro k ok e hok2 hlk he hb
          by_cases hki : k = i
          · subst hki
            rw [ho] at hok2
            cases hok2
            exact getD_set_true (hall e he hb)
          · have hl : listed.getD k false = true := by rw [getD_set_ne false (Ne.symm hki)] at hlk; exact hlk
            exact getD_set_true (hI.closed k ok e hok2 hl he hb))
    unfold wpOp
    rw [ho]
    by_cases hw : Region.wanted o (yielded ops a.tmps) = true
    · rw [if_pos hw] at hgo
      simp only [hw, if_true]
      exact .inl hgo
    · rw [if_neg hw] at hgo
      simp only [hw]
      exact hgo
  · intro listed a w hs hI hr
    have hal := all_listedR hf hs hr
    refine hend a w hI.g hI.defers hI.size (fun j hj => ?_) hI.old
    obtain ⟨oj, hoj⟩ := Option.isSome_iff_exists.1 hj
    exact hI.done j oj hoj (hal j (Array.getElem?_eq_some_iff.1 hoj).1)
  · unfold toComeR
    have := List.countP_le_length (p := fun b => !b) (l := (Array.replicate ops.size false).toList)
    simpa using this

/-! ### An operation of such a region -/
theorem op_valueR {o : Oper} {a : Act} {w w' : World} {K : Act → World → Prop} {E : Prop} {v : Value} (hw : Region.wanted o (yielded ops a.tmps) = true) (hr : (execOp a.eval o).run P w = .ok (.value v) w') (h : K (a.put o.dst v) w') :
    if Region.wanted o (yielded ops a.tmps) = true then o.wp P a w K Q else E := by
  rw [if_pos hw]
  unfold Oper.wp
  rw [hr]
  exact h
theorem op_callR {o : Oper} {a : Act} {w : World} {K : Act → World → Prop} {E : Prop} {f : FuncId} {args : Array Value} (hw : Region.wanted o (yielded ops a.tmps) = true) (hr : (execOp a.eval o).run P w = .ok (.enter f args) w)
    (h : Calls P f args w fun e w' => ∃ v, e = .returned v ∧ K (a.put o.dst v) w') : if Region.wanted o (yielded ops a.tmps) = true then o.wp P a w K Q else E := by
  rw [if_pos hw]
  unfold Oper.wp
  rw [hr]
  refine h.mono ?_
  rintro e w' ⟨v, rfl, hk⟩
  exact hk
theorem yielded_ofR {a : Act} {j : Nat} {b : Bool} (h : valsR ops a j = .bool b) : yielded ops a.tmps j = some b := by
  unfold valsR at h
  unfold yielded
  cases hj : (ops[j]?).bind (·.dst) with
  | none => rw [hj] at h; cases h
  | some t =>
    rw [hj] at h
    simp only [Option.bind_some]
    simp only [Array.getD_eq_getD_getElem?] at h
    cases ht : a.tmps[t]? with
    | none => rw [ht] at h; cases h
    | some v =>
      rw [ht] at h
      simp only [Option.getD_some] at h
      rw [h]
theorem wanted_ofR {o : Oper} {a : Act} {j : Nat} {b : Bool} (hg : o.guard = some (j, b)) (h : valsR ops a j = .bool b) : Region.wanted o (yielded ops a.tmps) = true := by
  unfold Region.wanted
  rw [hg]
  simp [yielded_ofR h]
theorem wanted_noneR {o : Oper} {a : Act} (hg : o.guard = none) : Region.wanted o (yielded ops a.tmps) = true := by
  unfold Region.wanted
  rw [hg]
end
end Go.Proofs.Ytnadcdgpfopcaaa

namespace Go.Proofs.Ytnadcdgpfopcaaa
open Go.RowKit

/-- What an operation yields: a value that is known; bytes, till the mark's operation has come up; a slice without room; a slice of the call's own, till the next operation has used it up. -/
inductive Kd where
  | val (v : Value)
  | bytes (m : Option Nat) (l : List UInt8)
  | noroom
  | onto (pr nx : Nat) (m : Option Nat) (l : List UInt8)
def IsB (v : Value) (l : List UInt8) (w : World) : Prop := ∃ (A : Option Addr) (c : Nat) (L : List UInt8), v = .slice A L.length c ∧ Hid (L = l) ∧ RB w w.heap.size A L
def OntoR (row : Option Nat) (w : World) (v : Value) (xs : List UInt8) : Prop :=
  (w.ownsRow 0 5 1 v xs.length (xs.map ub) ∧ v.ownBlock = row) ∨ (xs = [] ∧ (∃ a0, v = .slice (some a0) 0 0) ∧ row = none)
theorem OntoR.onto {row : Option Nat} {w : World} {v : Value} {xs : List UInt8} (h : OntoR row w v xs) : Onto w row w v xs := by
  rcases h with ⟨h1, h2⟩ | ⟨h1, h2, _⟩
  · exact .inl ⟨h1, .inl h2⟩
  · exact .inr ⟨h1, h2⟩
def Sem3 (base : Nat) (k : Kd) (j : Nat) (f : Nat → Value) (w : World) : Prop := match k with
  | .val v => f j = v
  | .bytes m l => (∀ q, m = some q → f q = undef) → IsB (f j) l w
  | .noroom => ∃ a0, f j = .slice (some a0) 0 0 ∧ a0.block < w.heap.size
  | .onto pr nx m l => ∃ p cap row, f j = .slice p l.length cap ∧ (∀ g, row = some g → base ≤ g ∧ g < w.heap.size ∧ (f pr).ownBlock ≠ some g) ∧ (∀ g, (f j).ownBlock = some g → g < w.heap.size) ∧ ((∀ q, m = some q → f q = undef) → f nx = undef → OntoR row w (f j) l)
theorem mark_back {f : Nat → Value} {i : Nat} {v : Value} {m : Option Nat} (hv : v ≠ undef) (h : ∀ q, m = some q → updvR f i v q = undef) : ∀ q, m = some q → f q = undef := fun q hq => by
  have h1 := h q hq
  by_cases e : q = i
  · subst e; rw [updv_sameR] at h1; exact absurd h1 hv
  · rwa [updv_neR _ e] at h1
theorem one_back {f : Nat → Value} {i q : Nat} {v : Value} (hv : v ≠ undef) (h : updvR f i v q = undef) : f q = undef ∧ q ≠ i := by
  by_cases e : q = i
  · subst e; rw [updv_sameR] at h; exact absurd h hv
  · rw [updv_neR _ e] at h; exact ⟨h, e⟩
theorem IsB.below {v : Value} {l : List UInt8} {w w' : World} (h : IsB v l w) (hb : Below w.heap.size w w') : IsB v l w' := by
  obtain ⟨A, c, L, h1, h2, h3⟩ := h
  exact ⟨A, c, L, h1, h2, (h3.below hb (Nat.le_refl _)).mono hb.size⟩
theorem IsB.grown {v : Value} {l : List UInt8} {w w' : World} {row : Option Nat} (h : IsB v l w) (hg : w.grownBy w' row) (hne : ∀ g, row = some g → v.ownBlock ≠ some g) : IsB v l w' := by
  obtain ⟨A, c, L, h1, h2, h3⟩ := h
  refine ⟨A, c, L, h1, h2, fun hn => ?_⟩
  obtain ⟨ad, e, hb, hc⟩ := h3 hn
  refine ⟨ad, e, Nat.lt_of_lt_of_le hb hg.size, fun j hj => (World.cell?_of_block (hg.block _ (by rw [block_add]; exact hb) ?_)).trans (hc j hj)⟩
  rw [block_add]
  intro e'
  refine hne ad.block e'.symm ?_
  rw [h1, e]; rfl
/-- A step that turns nothing that was there. -/
theorem Sem3.keep {base i j : Nat} {k : Kd} {f : Nat → Value} {v : Value} {w w' : World} (hij : j ≠ i) (hv : v ≠ undef) (hb : Below w.heap.size w w') (hpr : ∀ pr nx m l, k = .onto pr nx m l → pr ≠ i) (h : Sem3 base k j f w) : Sem3 base k j (updvR f i v) w' := by
  cases k with
  | val x => show updvR f i v j = x; rw [updv_neR _ hij]; exact h
  | bytes m l => intro hm; show IsB (updvR f i v j) l w'; rw [updv_neR _ hij]; exact (h (mark_back hv hm)).below hb
  | noroom =>
    obtain ⟨a0, h1, h2⟩ := h
    exact ⟨a0, by rw [updv_neR _ hij]; exact h1, Nat.lt_of_lt_of_le h2 hb.size⟩
  | onto pr nx m l =>
    obtain ⟨p, cap, row, h1, h2, h3, h4⟩ := h
    refine ⟨p, cap, row, by rw [updv_neR _ hij]; exact h1, fun g hg => ?_, fun g hg => ?_, fun hm hn => ?_⟩
    · obtain ⟨a, b, c⟩ := h2 g hg
      exact ⟨a, Nat.lt_of_lt_of_le b hb.size, by rw [updv_neR _ (hpr pr nx m l rfl)]; exact c⟩
    · rw [updv_neR _ hij] at hg; exact Nat.lt_of_lt_of_le (h3 g hg) hb.size
    · rw [updv_neR _ hij]
      rcases h4 (mark_back hv hm) (one_back hv hn).1 with ⟨a, b⟩ | a
      · exact .inl ⟨own_keep a fun g e => hb.block g (h3 g e), b⟩
      · exact .inr a
/-- A step that turns one block. -/
theorem Sem3.kept {base i j : Nat} {k : Kd} {f : Nat → Value} {v : Value} {w w' : World} {row : Option Nat} (hij : j ≠ i) (hv : v ≠ undef) (hg : w.grownBy w' row) (hpr : ∀ pr nx m l, k = .onto pr nx m l → pr ≠ i ∧ (nx = i ∨ ∃ q, m = some q ∧ f q ≠ undef))
    (hby : ∀ m l, k = .bytes m l → (∃ q, m = some q ∧ f q ≠ undef) ∨ ∀ g, row = some g → (f j).ownBlock ≠ some g) (h : Sem3 base k j f w) : Sem3 base k j (updvR f i v) w' := by
  cases k with
  | val x => show updvR f i v j = x; rw [updv_neR _ hij]; exact h
  | bytes m l =>
    intro hm
    show IsB (updvR f i v j) l w'
    rw [updv_neR _ hij]
    have hm' := mark_back hv hm
    rcases hby m l rfl with ⟨q, h1, h2⟩ | h1
    · exact absurd (hm' q h1) h2
    · exact (h hm').grown hg h1
  | noroom =>
    obtain ⟨a0, h1, h2⟩ := h
    exact ⟨a0, by rw [updv_neR _ hij]; exact h1, Nat.lt_of_lt_of_le h2 hg.size⟩
  | onto pr nx m l =>
    obtain ⟨p, cap, row', h1, h2, h3, h4⟩ := h
    obtain ⟨hp1, hp2⟩ := hpr pr nx m l rfl
    refine ⟨p, cap, row', by rw [updv_neR _ hij]; exact h1, fun g hg' => ?_, fun g hg' => ?_, fun hm hn => ?_⟩
    · obtain ⟨a, b, c⟩ := h2 g hg'
      exact ⟨a, Nat.lt_of_lt_of_le b hg.size, by rw [updv_neR _ hp1]; exact c⟩
    · rw [updv_neR _ hij] at hg'; exact Nat.lt_of_lt_of_le (h3 g hg') hg.size
    · exfalso
      rcases hp2 with e | ⟨q, e1, e2⟩
      · exact (one_back hv hn).2 e
      · exact e2 (mark_back hv hm q e1)
theorem OpsOk3.nil {P : Program} {ops : Array Oper} {Q : Exit → Act → World → Prop} {φ : Nat → (Nat → Value) → World → Prop} {G : World → Prop} {n : Nat} {a0 : Act} {i : Nat} : OpsOk3 P ops Q φ G n a0 i [] := trivial
section
variable {P : Program} {w : World} {o : Oper} {ρ : Operand → Value}
theorem run_move (x : Operand) (ho : o.op = .move x) {v : Value} (hv : ρ x = v) : (execOp ρ o).run P w = .ok (.value v) w := by simp [execOp, ho, hv]
theorem run_assign (x : Operand) (ho : o.op = .assign x) {v : Value} (hv : ρ x = v) : (execOp ρ o).run P w = .ok (.value v) w := by simp [execOp, ho, hv]
theorem run_pick (q x y : Operand) (ho : o.op = .pick q x y) (hq : ρ q = .bool true) {v : Value} (hv : ρ x = v) : (execOp ρ o).run P w = .ok (.value v) w := by simp [execOp, ho, hq, hv, asBool]
theorem run_conv (x : Operand) (ho : o.op = .convert 26 9 x) {l : List UInt8} (h : IsB (ρ x) l w) : (execOp ρ o).run Try.prog w = .ok (.value (.string (strOf l))) w := by
  obtain ⟨A, c, L, h1, h2, h3⟩ := h
  have := run_str h3 c
  rw [h2.out] at this
  rw [h2.out] at h1
  simp [execOp, ho, h1, this, Result.andThen]
theorem run_eqs (x y : Operand) (t : TypeId) (ho : o.op = .binOp .eql 9 x y t) {S : ByteArray} (hx : ρ x = .string S) (hy : ρ y = .string S) : (execOp ρ o).run Try.prog w = .ok (.value (.bool true)) w := by
  simp [execOp, ho, hx, hy, go_sem]
theorem run_build0 (ho : o.op = .buildSlice 26 0 #[]) : (execOp ρ o).run Try.prog w = .ok (.value (.slice (some ⟨w.heap.size, 0, none⟩) 0 0)) (w.alloc (.cells #[] 5)) := by
  simp [execOp, ho, go_sem]
theorem run_appR (x y : Operand) (ho : o.op = .call { callee := .builtin .append, args := #[x, y], argTypes := #[26, 26] }) {v u r : Value} {w' : World} (hx : ρ x = v) (hy : ρ y = u) (hr : (Builtin.append_ #[26, 26] o.type #[v, u]).run P w = .ok r w') :
    (execOp ρ o).run P w = .ok (.value r) w' := by
  unfold execOp
  simp only [ho, resolve, invoke, builtin, Sem.run_bind, Sem.run_pure, Result.andThen_ok, List.map_toArray, List.map_cons, List.map_nil, hx, hy, hr]
theorem run_go2 (F : FuncId) (x y : Operand) (ts : Array TypeId) (ho : o.op = .call { callee := .value (.func F), args := #[x, y], argTypes := ts }) (hF : ρ (.func F) = .func (.func F) #[] #[]) {v u : Value} (hx : ρ x = v) (hy : ρ y = u) (hc : (callFunc F #[v, u]).run P w = .ok (.enter F #[v, u]) w) :
    (execOp ρ o).run P w = .ok (.enter F #[v, u]) w := by
  simp [execOp, ho, resolve, invoke, hF, hx, hy, hc, go_sem]
theorem run_go0 (F : FuncId) (ts : Array TypeId) (ho : o.op = .call { callee := .value (.func F), args := #[], argTypes := ts }) (hF : ρ (.func F) = .func (.func F) #[] #[]) (hc : (callFunc F #[]).run P w = .ok (.enter F #[]) w) :
    (execOp ρ o).run P w = .ok (.enter F #[]) w := by
  simp [execOp, ho, resolve, invoke, hF, hc, go_sem]
end
end Go.Proofs.Ytnadcdgpfopcaaa

namespace Go.Proofs.Ytnadcdgpfopcaaa
open Go.RowKit

/-- A slice of the call's own, in blocks from base on, that reads as l. -/
def OwnB (base : Nat) (v : Value) (l : List UInt8) (w : World) : Prop := ∃ (p : Option Addr) (c : Nat), v = .slice p l.length c ∧ w.ownsRow base 5 1 v l.length (l.map ub)
/-- A row of more than one byte, or of another one, is not the block of the last byte. -/
theorem own_not90 {w : World} {base : Nat} {v : Value} {l : List UInt8} (h : w.ownsRow base 5 1 v l.length (l.map ub)) (hl : l ≠ []) (h90 : l ≠ [90]) : ∀ g, v.ownBlock = some g → w.heap[g]? ≠ some (.cells #[.int .u8 90] 5 (0, 0)) := fun g e hc => by
  rcases h.2 with ⟨h0, _⟩ | ⟨g', cap, cur, hv, _, hg, h1, h2, h3, h4⟩
  · rw [h0] at e; cases e
  · rw [hv] at e
    obtain rfl : g' = g := by simpa [Value.ownBlock] using e
    rw [hc] at hg
    obtain rfl : #[Value.int .u8 90] = cur := by injection hg with hg; injection hg
    simp at h3
    have hl1 : l.length = 1 := by
      have : l.length ≠ 0 := fun e => hl (List.eq_nil_of_length_eq_zero e)
      omega
    obtain ⟨x, rfl⟩ := List.length_eq_one_iff.1 hl1
    simp [ub] at h4
    exact h90 (by rw [show x = 90 from UInt8.toNat.inj (show x.toNat = (90 : UInt8).toNat by rw [show (90 : UInt8).toNat = 90 from rfl]; omega)])
theorem two_not90 (a b : Nat) (r : List UInt8) : numL a ++ numL b ++ r ≠ [90] := fun e => by
  have h := congrArg List.length e
  have h1 : (numL a).length ≠ 0 := by unfold numL; simp
  have h2 : (numL b).length ≠ 0 := by unfold numL; simp
  simp at h; omega
theorem own_raise {w : World} {base n : Nat} {e : TypeId} {size : Nat} {v : Value} {xs : List Value} (h : w.ownsRow 0 e size v n xs) (hb : ∀ g, v.ownBlock = some g → base ≤ g) : w.ownsRow base e size v n xs := by
  refine ⟨h.1, ?_⟩
  rcases h.2 with h0 | ⟨g, cap, cur, hv, _, h1⟩
  · exact .inl h0
  · exact .inr ⟨g, cap, cur, hv, hb g (by rw [hv]; rfl), h1⟩
theorem OwnB.ne {base : Nat} {v : Value} {l : List UInt8} {w : World} (h : OwnB base v l w) : v ≠ undef := by
  obtain ⟨p, c, rfl, _⟩ := h
  simp [undef]
theorem OwnB.grown {base : Nat} {v : Value} {l : List UInt8} {w w' : World} {row : Option Nat} (h : OwnB base v l w) (hg : w.grownBy w' row) (hn : ∀ g, row = some g → v.ownBlock ≠ some g) : OwnB base v l w' := by
  obtain ⟨p, c, e, h1⟩ := h
  exact ⟨p, c, e, own_keep h1 fun g hg' => hg.block g (h1.lt g hg').2 fun e' => hn g e'.symm hg'⟩
/-- What the calls make: out of OwnPost. -/
theorem own_post {base : Nat} {row : Option Nat} {w : World} {l : List UInt8} {e : Ending} {w' : World} (h : OwnPost row w l e w') (hl : l ≠ []) (hrow : ∀ g, row = some g → base ≤ g) (hb : base ≤ w.heap.size) :
    ∃ v, e = .returned v ∧ OwnB base v l w' ∧ w.grownBy w' row ∧ ∀ g, v.ownBlock = some g → row = some g ∨ w.heap.size ≤ g := by
  obtain ⟨p, c, L, rfl, hL, hc, hon, hg⟩ := h
  obtain rfl := hL.out
  rcases hon with ⟨h1, h2⟩ | ⟨h1, _⟩
  · refine ⟨_, rfl, ⟨p, c, rfl, own_raise h1 fun g e => ?_⟩, hg, fun g e => ?_⟩
    · rcases h2 with h2 | h2
      · exact hrow g (h2.symm.trans e)
      · exact Nat.le_trans hb (h2 g e)
    · rcases h2 with h2 | h2
      · exact .inl (h2.symm.trans e)
      · exact .inr (h2 g e)
  · exact absurd h1 hl
/-- What each operation has yielded. -/
def sbK (R base : Nat) (P S : Int) (A : Option Addr) (n c : Nat) (l1 l2 l3 l4 : List UInt8) (j : Nat) (f : Nat → Value) (w : World) : Prop := match j with
  | 0 => f 0 = .pointer (some ⟨R, 0, none⟩)
  | 1 => f 1 = .int .i64 P
  | 2 => f 5 = undef → OwnB base (f 2) l1 w
  | 3 => f 3 = .pointer (some ⟨R, 1, none⟩)
  | 4 => f 4 = .int .i64 S
  | 5 => f 8 = undef → OwnB base (f 5) l2 w
  | 6 => f 6 = .pointer (some ⟨R, 2, none⟩)
  | 7 => f 7 = .slice A n c
  | 8 => f 5 ≠ undef ∧ (f 10 = undef → OwnB base (f 8) l3 w)
  | 9 => ∃ g, f 9 = .slice (some ⟨g, 0, none⟩) 1 1 ∧ base ≤ g ∧ g < w.heap.size ∧ w.heap[g]? = some (.cells #[.int .u8 90] 5 (0, 0))
  | 10 => OwnB base (f 10) l4 w
  | 11 => f 11 = f 10
  | _ => True
section
variable {R base : Nat} {P S : Int} {A : Option Addr} {n c : Nat} {l1 l2 l3 l4 : List UInt8}
/-- A step that turns row alone keeps what the others have yielded. -/
theorem sbK.keep {i j : Nat} {f : Nat → Value} {v : Value} {w w' : World} {row : Option Nat} (hij : j ≠ i) (hv : v ≠ undef) (hg : w.grownBy w' row)
    (hb5 : i = 5 → j ≠ 8 ∧ j ≠ 10) (hb8 : i = 8 → j ≠ 10) (hb2 : i = 2 → j ≠ 5 ∧ j ≠ 8 ∧ j ≠ 10) (hb10 : i = 10 → j ≠ 11)
    (hrow : ∀ g, row = some g → (i = 5 ∧ (f 2).ownBlock = some g) ∨ (i = 8 ∧ (f 5).ownBlock = some g ∧ f 5 ≠ undef) ∨ (i = 10 ∧ (f 8).ownBlock = some g ∧ f 5 ≠ undef ∧ f 8 ≠ undef))
    (h90 : ∀ g, row = some g → w.heap[g]? ≠ some (.cells #[.int .u8 90] 5 (0, 0)))
    (h : sbK R base P S A n c l1 l2 l3 l4 j f w) : sbK R base P S A n c l1 l2 l3 l4 j (updvR f i v) w' := by
  match j, h with
  | 0, h => show updvR f i v 0 = _; rw [updv_neR _ hij]; exact h
  | 1, h => show updvR f i v 1 = _; rw [updv_neR _ hij]; exact h
  | 3, h => show updvR f i v 3 = _; rw [updv_neR _ hij]; exact h
  | 4, h => show updvR f i v 4 = _; rw [updv_neR _ hij]; exact h
  | 6, h => show updvR f i v 6 = _; rw [updv_neR _ hij]; exact h
  | 7, h => show updvR f i v 7 = _; rw [updv_neR _ hij]; exact h
  | 2, h =>
    intro hu
    show OwnB base (updvR f i v 2) l1 w'
    rw [updv_neR _ hij]
    obtain ⟨h5, hi⟩ := one_back hv hu
    refine (h h5).grown hg fun g e => ?_
    rcases hrow g e with ⟨k, _⟩ | ⟨_, _, k⟩ | ⟨_, _, k, _⟩
    · exact absurd k.symm hi
    · exact absurd h5 k
    · exact absurd h5 k
  | 5, h =>
    intro hu
    show OwnB base (updvR f i v 5) l2 w'
    rw [updv_neR _ hij]
    obtain ⟨h8, hi⟩ := one_back hv hu
    refine (h h8).grown hg fun g e => ?_
    rcases hrow g e with ⟨k, _⟩ | ⟨k, _⟩ | ⟨_, _, _, k⟩
    · exact absurd k.symm hij
    · exact absurd k.symm hi
    · exact absurd h8 k
  | 8, h =>
    obtain ⟨hf5, h⟩ := h
    refine ⟨fun e => hf5 (one_back hv e).1, fun hu => ?_⟩
    show OwnB base (updvR f i v 8) l3 w'
    rw [updv_neR _ hij]
    obtain ⟨h10, hi⟩ := one_back hv hu
    refine (h h10).grown hg fun g e => ?_
    rcases hrow g e with ⟨k, _⟩ | ⟨k, _⟩ | ⟨k, _⟩
    · exact absurd rfl (hb5 k).1
    · exact absurd k.symm hij
    · exact absurd k.symm hi
  | 9, h =>
    obtain ⟨g, e1, e2, e3, e4⟩ := h
    exact ⟨g, by rw [updv_neR _ hij]; exact e1, e2, Nat.lt_of_lt_of_le e3 hg.size, (hg.block g e3 (fun e => h90 g e.symm e4)).trans e4⟩
  | 10, h =>
    show OwnB base (updvR f i v 10) l4 w'
    rw [updv_neR _ hij]
    refine OwnB.grown h hg fun g e => ?_
    rcases hrow g e with ⟨k, _⟩ | ⟨k, _⟩ | ⟨k, _⟩
    · exact absurd rfl (hb5 k).2
    · exact absurd rfl (hb8 k)
    · exact absurd k.symm hij
  | 11, h =>
    show updvR f i v 11 = updvR f i v 10
    rw [updv_neR _ hij, updv_neR _ (fun e => hb10 e.symm rfl)]; exact h
  | _ + 12, _ => trivial
theorem grown_refl (w : World) : w.grownBy w none := World.grownBy.refl w _
/-- A step that turns nothing. -/
theorem sbK.same {i j : Nat} {f : Nat → Value} {v : Value} {w : World} (hij : j ≠ i) (hv : v ≠ undef) (hi : i ≠ 2 ∧ i ≠ 5 ∧ i ≠ 8 ∧ i ≠ 10) (h : sbK R base P S A n c l1 l2 l3 l4 j f w) : sbK R base P S A n c l1 l2 l3 l4 j (updvR f i v) w :=
  h.keep hij hv (grown_refl w) (fun e => absurd e hi.2.1) (fun e => absurd e hi.2.2.1) (fun e => absurd e hi.1) (fun e => absurd e hi.2.2.2) (fun g e => by cases e) (fun g e => by cases e)
end
theorem run_fld {o : Oper} {ρ : Operand → Value} {w : World} {R : Nat} (x : Operand) (k : Nat) (hk : k < 3) (ho : o.op = .fieldAddr 28 x k) (hx : ρ x = .pointer (some ⟨R, 0, none⟩)) : (execOp ρ o).run Try.prog w = .ok (.value (.pointer (some ⟨R, k, none⟩))) w := by
  match k, hk with
  | 0, _ => simp [execOp, ho, hx, go_sem]
  | 1, _ => simp [execOp, ho, hx, go_sem]
  | 2, _ => simp [execOp, ho, hx, go_sem]
theorem run_ld {o : Oper} {ρ : Operand → Value} {w : World} {R k : Nat} {v : Value} (ty : TypeId) (x : Operand) (ho : o.op = .load ty x) (hx : ρ x = .pointer (some ⟨R, k, none⟩)) (hc : w.cell? ⟨R, k, none⟩ = some v) (hty : ty = 3 ∨ ty = 26) : (execOp ρ o).run Try.prog w = .ok (.value v) w := by
  rcases hty with rfl | rfl
  · simp [execOp, ho, hx, hc, go_sem]
  · simp [execOp, ho, hx, hc, go_sem]
theorem run_build1 {o : Oper} {ρ : Operand → Value} {w : World} (ho : o.op = .buildSlice 26 1 #[(0, .const (.int .u8 90))]) (hc : ρ (.const (.int .u8 90)) = .int .u8 90) : (execOp ρ o).run Try.prog w = .ok (.value (.slice (some ⟨w.heap.size, 0, none⟩) 1 1)) (w.alloc (.cells #[.int .u8 90] 5)) := by
  simp [execOp, ho, hc, go_sem]
/-- What the reference writes of any sheet. -/
def refL (p s : Int) (d : List UInt8) : List UInt8 := numL (heldW p) ++ numL (heldW s) ++ numL (heldW d.length) ++ d ++ [90]
theorem numL_ne (n : Nat) : numL n ≠ [] := by unfold numL; simp
set_option maxRecDepth 100000 in
set_option maxHeartbeats 4000000 in
theorem refbytes_any (B : Nat) (p s : Int) (A : Option Addr) (c : Nat) (d : List UInt8) (w : World) (hr : RB w B A d) (hB : B ≤ w.heap.size) (hd : d.length ≤ 70368744177664) (h90 : numL (heldW p) ≠ [90]) :
    Calls Try.prog 25 #[.agg #[.int .i64 p, .int .i64 s, .slice A d.length c]] w (FreshO w (refL p s d)) := by
  go_enter Try.func25, Try.ntmps25
  go_upto_region 1 with fail
  have C := cells3 (heap_alloc_new w (.cells #[.int .i64 p, .int .i64 s, .slice A d.length c] 28))
  have C0 := Lib.hid C.1
  have C1 := Lib.hid C.2.1
  have C2 := Lib.hid C.2.2
  clear C
  have hr0 := Lib.hid (hr.alloc hB (.cells #[.int .i64 p, .int .i64 s, .slice A d.length c] 28))
  have hl2 : (numL (heldW p) ++ numL (heldW s)).length ≤ 70368744177000 := by
    have h1 := (numL_len (heldW p) (by have := heldW_le p; omega)).2
    have h2 := (numL_len (heldW s) (by have := heldW_le s; omega)).2
    simp; omega
  refine region_inv3 6 (fun j f w' => sbK w.heap.size (w.heap.size + 1) p s A d.length c (numL (heldW p)) (numL (heldW p) ++ numL (heldW s)) (numL (heldW p) ++ numL (heldW s) ++ numL (heldW d.length) ++ d) (refL p s d) j f w') (fun w' => Below (w.heap.size + 1) (w.alloc (.cells #[.int .i64 p, .int .i64 s, .slice A d.length c] 28)) w') (by kernel_rfl) (by kernel_rfl) (by kernel_rfl) (by kernel_rfl) (Below.refl _ _).drew ?_ ?_
  · obtain ⟨i0, hi, hz0, hz1, hz2⟩ := info_parts info_byte
    refine OpsOk3.cons ?o0 (OpsOk3.cons ?o1 (OpsOk3.cons ?o2 (OpsOk3.cons ?o3 (OpsOk3.cons ?o4 (OpsOk3.cons ?o5 (OpsOk3.cons ?o6 (OpsOk3.cons ?o7 (OpsOk3.cons ?o8 (OpsOk3.cons ?o9 (OpsOk3.cons ?o10 (OpsOk3.cons ?o11 (OpsOk3.nil))))))))))))
    case o0 =>
      intro a w1 K hG need old fresh hK
      exact op_valueR (v := .pointer (some ⟨w.heap.size, 0, none⟩)) (wanted_noneR rfl) (run_fld (.tmp 1) 0 (by decide) rfl (old 1 (by kernel_rfl))) (hK _ w1 hG (updv_sameR _ _ _) (fun j hj hbh hs => hs.same hj (by simp [undef]) (by decide)))
    case o1 =>
      intro a w1 K hG need old fresh hK
      have e0 := need 0 (by kernel_rfl) (by kernel_rfl)
      have hc := (hG.cell (p := ⟨w.heap.size, 0, none⟩) (by simp)).trans C0.out
      exact op_valueR (v := .int .i64 p) (wanted_noneR rfl) (run_ld _ (.tmp 3) rfl (show a.eval (.tmp 3) = .pointer (some ⟨w.heap.size, 0, none⟩) from e0) hc (by simp)) (hK _ w1 hG (updv_sameR _ _ _) (fun j hj hbh hs => hs.same hj (by simp [undef]) (by decide)))
    case o2 =>
      intro a w1 K hG need old fresh hK
      have hsz : w.heap.size + 1 ≤ w1.heap.size := by have := hG.size; simpa using this
      have e1 := need 1 (by kernel_rfl) (by kernel_rfl)
      have f2 := fresh 2 (.inl rfl)
      refine op_callR (wanted_noneR rfl) (run_go2 47 (.const (.slice none 0 0)) (.tmp 4) _ rfl rfl rfl (show a.eval (.tmp 4) = .int .i64 p from e1) (by go_simp)) ((put_any none none 0 [] p w1 (.inl ⟨World.ownsRow_nil _ _ _ _, .inl rfl⟩) (fun g e => by cases e) (by simp)).mono ?_)
      intro e w2 hpost
      obtain ⟨v, rfl, hv, hgr, hnew⟩ := own_post (base := w.heap.size + 1) hpost (by simpa using numL_ne _) (fun g e => by cases e) (by omega)
      rw [List.nil_append] at hv
      refine ⟨v, rfl, hK _ w2 (hG.grown hgr hsz fun k e => by cases e) (fun _ => ?_) (fun j hj hbh hs => hs.keep hj hv.ne hgr (fun e => absurd e (by decide)) (fun e => absurd e (by decide)) (fun _ => ⟨fun e => ?_, fun e => ?_, fun e => ?_⟩) (fun e => absurd e (by decide)) (fun g e => by cases e) (fun g e => by cases e))⟩
      · rw [updv_sameR]; exact hv
      all_goals subst e; exact absurd (show behind _ 6 _ _ = true by kernel_rfl) (by rw [hbh]; decide)
    case o3 =>
      intro a w1 K hG need old fresh hK
      exact op_valueR (v := .pointer (some ⟨w.heap.size, 1, none⟩)) (wanted_noneR rfl) (run_fld (.tmp 1) 1 (by decide) rfl (old 1 (by kernel_rfl))) (hK _ w1 hG (updv_sameR _ _ _) (fun j hj hbh hs => hs.same hj (by simp [undef]) (by decide)))
    case o4 =>
      intro a w1 K hG need old fresh hK
      have e0 := need 3 (by kernel_rfl) (by kernel_rfl)
      have hc := (hG.cell (p := ⟨w.heap.size, 1, none⟩) (by simp)).trans C1.out
      exact op_valueR (v := .int .i64 s) (wanted_noneR rfl) (run_ld _ (.tmp 6) rfl (show a.eval (.tmp 6) = .pointer (some ⟨w.heap.size, 1, none⟩) from e0) hc (by simp)) (hK _ w1 hG (updv_sameR _ _ _) (fun j hj hbh hs => hs.same hj (by simp [undef]) (by decide)))
    case o5 =>
      intro a w1 K hG need old fresh hK
      have hsz : w.heap.size + 1 ≤ w1.heap.size := by have := hG.size; simpa using this
      have e1 := need 4 (by kernel_rfl) (by kernel_rfl)
      obtain ⟨p2, c2, e2, how⟩ := need 2 (by kernel_rfl) (by kernel_rfl) (fresh 5 (.inl rfl))
      rw [e2] at how
      refine op_callR (wanted_noneR rfl) (run_go2 47 (.tmp 5) (.tmp 7) _ rfl rfl (show a.eval (.tmp 5) = _ from e2) (show a.eval (.tmp 7) = .int .i64 s from e1) (by go_simp)) ((put_any (Value.slice p2 (numL (heldW p)).length c2).ownBlock p2 c2 (numL (heldW p)) s w1 (.inl ⟨own_lower how (Nat.zero_le _), .inl rfl⟩) (fun g e => (how.lt g e).2) (by have := (numL_len (heldW p) (by have := heldW_le p; omega)).2; omega)).mono ?_)
      intro e w2 hpost
      obtain ⟨v, rfl, hv, hgr, hnew⟩ := own_post (base := w.heap.size + 1) hpost (by simp [numL_ne]) (fun g e => (how.lt g e).1) (by omega)
      refine ⟨v, rfl, hK _ w2 (hG.grown hgr hsz fun k e => (how.lt k e).1) (fun _ => ?_) (fun j hj hbh hs => hs.keep hj hv.ne hgr (fun _ => ⟨fun e => ?_, fun e => ?_⟩) (fun e => absurd e (by decide)) (fun e => absurd e (by decide)) (fun e => absurd e (by decide)) (fun g e => .inl ⟨rfl, by rw [e2]; exact e⟩) (own_not90 how (numL_ne _) h90))⟩
      · rw [updv_sameR]; exact hv
      all_goals subst e; exact absurd (show behind _ 6 _ _ = true by kernel_rfl) (by rw [hbh]; decide)
    case o6 =>
      intro a w1 K hG need old fresh hK
      exact op_valueR (v := .pointer (some ⟨w.heap.size, 2, none⟩)) (wanted_noneR rfl) (run_fld (.tmp 1) 2 (by decide) rfl (old 1 (by kernel_rfl))) (hK _ w1 hG (updv_sameR _ _ _) (fun j hj hbh hs => hs.same hj (by simp [undef]) (by decide)))
    case o7 =>
      intro a w1 K hG need old fresh hK
      have e0 := need 6 (by kernel_rfl) (by kernel_rfl)
      have hc := (hG.cell (p := ⟨w.heap.size, 2, none⟩) (by simp)).trans C2.out
      exact op_valueR (v := .slice A d.length c) (wanted_noneR rfl) (run_ld _ (.tmp 9) rfl (show a.eval (.tmp 9) = .pointer (some ⟨w.heap.size, 2, none⟩) from e0) hc (by simp)) (hK _ w1 hG (updv_sameR _ _ _) (fun j hj hbh hs => hs.same hj (by simp [undef]) (by decide)))
    case o8 =>
      intro a w1 K hG need old fresh hK
      have hsz : w.heap.size + 1 ≤ w1.heap.size := by have := hG.size; simpa using this
      have e1 := need 7 (by kernel_rfl) (by kernel_rfl)
      obtain ⟨p2, c2, e2, how⟩ := need 5 (by kernel_rfl) (by kernel_rfl) (fresh 8 (.inl rfl))
      have n5 : valsR _ a 5 ≠ undef := fun e => by rw [e2] at e; simp [undef] at e
      rw [e2] at how
      have hRd : RB w1 B A d := hr0.out.below hG (by omega)
      refine op_callR (wanted_noneR rfl) (run_go2 46 (.tmp 8) (.tmp 10) _ rfl rfl (show a.eval (.tmp 8) = _ from e2) (show a.eval (.tmp 10) = .slice A d.length c from e1) (by go_simp)) ((puttext_any (Value.slice p2 (numL (heldW p) ++ numL (heldW s)).length c2).ownBlock B p2 A c2 c (numL (heldW p) ++ numL (heldW s)) d w1 (.inl ⟨own_lower how (Nat.zero_le _), .inl rfl⟩) (fun g e => (how.lt g e).2) hRd (by omega) (fun hn ad e e' => by obtain ⟨ad', e3, hb', _⟩ := hr hn; rw [e] at e3; cases e3; have := (how.lt _ e').1; omega) hl2 (by omega)).mono ?_)
      intro e w2 hpost
      obtain ⟨v, rfl, hv, hgr, hnew⟩ := own_post (base := w.heap.size + 1) hpost (by simp [numL_ne]) (fun g e => (how.lt g e).1) (by omega)
      refine ⟨v, rfl, hK _ w2 (hG.grown hgr hsz fun k e => (how.lt k e).1) ⟨by rw [updv_neR _ (by decide)]; exact n5, fun _ => ?_⟩ (fun j hj hbh hs => hs.keep hj hv.ne hgr (fun e => absurd e (by decide)) (fun _ e => ?_) (fun e => absurd e (by decide)) (fun e => absurd e (by decide)) (fun g e => .inr (.inl ⟨rfl, by rw [e2]; exact e, n5⟩)) (own_not90 how (by simp [numL_ne]) (fun e => two_not90 _ _ [] (by simpa using e))))⟩
      · rw [updv_sameR]; exact hv
      all_goals subst e; exact absurd (show behind _ 6 _ _ = true by kernel_rfl) (by rw [hbh]; decide)
    case o9 =>
      intro a w1 K hG need old fresh hK
      have hsz : w.heap.size + 1 ≤ w1.heap.size := by have := hG.size; simpa using this
      have hba := World.grownBy_alloc w1 (.cells #[.int .u8 90] 5) none
      refine op_valueR (v := .slice (some ⟨w1.heap.size, 0, none⟩) 1 1) (wanted_noneR rfl) (run_build1 rfl rfl) (hK _ _ (hG.alloc hsz _) ?_ (fun j hj hbh hs => hs.keep hj (by simp [undef]) hba (fun e => absurd e (by decide)) (fun e => absurd e (by decide)) (fun e => absurd e (by decide)) (fun e => absurd e (by decide)) (fun g e => by cases e) (fun g e => by cases e)))
      exact ⟨w1.heap.size, updv_sameR _ _ _, by omega, by simp, heap_alloc_new w1 _⟩
    case o10 =>
      intro a w1 K hG need old fresh hK
      have hsz : w.heap.size + 1 ≤ w1.heap.size := by have := hG.size; simpa using this
      obtain ⟨g, e9, hg1, hg2, hg3⟩ := need 9 (by kernel_rfl) (by kernel_rfl)
      obtain ⟨n5, h8⟩ := need 8 (by kernel_rfl) (by kernel_rfl)
      obtain ⟨p2, c2, e2, how⟩ := h8 (fresh 10 (.inl rfl))
      have n8 : valsR _ a 8 ≠ undef := fun e => by rw [e2] at e; simp [undef] at e
      rw [e2] at how
      have hR9 : RB w1 w1.heap.size (some ⟨g, 0, none⟩) [90] := fun _ => ⟨_, rfl, hg2, fun j hj => by
        obtain rfl : j = 0 := by simpa using hj
        simp [Addr.add, World.cell?, hg3, ub]⟩
      have hl3 : (numL (heldW p) ++ numL (heldW s) ++ numL (heldW d.length) ++ d).length + 1 ≤ 140737488355328 := by
        have h3 := (numL_len (heldW d.length) (by have := heldW_le d.length; omega)).2
        simp at hl2 ⊢; omega
      obtain ⟨p3, cap, w2, hrun, how2, hgr, hob⟩ := run_append_bytes (P := Try.prog) w1 (w.heap.size + 1) 26 26 5 i0 _ Try.underlying26 hi hz0 hz1 hz2 rfl _ _ how w1.heap.size (some ⟨g, 0, none⟩) 1 [90] hR9 hl3 hsz
      refine op_valueR (wanted_noneR rfl) (run_appR (.tmp 11) (.tmp 12) rfl (show a.eval (.tmp 11) = _ from e2) (show a.eval (.tmp 12) = _ from e9) hrun) (hK _ w2 (hG.grown hgr hsz fun k e => (how.lt k e).1) ?_ (fun j hj hbh hs => hs.keep hj (by simp [undef]) hgr (fun e => absurd e (by decide)) (fun e => absurd e (by decide)) (fun e => absurd e (by decide)) (fun _ e => ?_) (fun g e => .inr (.inr ⟨rfl, by rw [e2]; exact e, n5, n8⟩)) (own_not90 how (by simp [numL_ne]) (fun e => two_not90 (heldW p) (heldW s) (numL (heldW d.length) ++ d) (by simpa using e)))))
      · exact ⟨p3, cap, updv_sameR _ _ _, by rw [updv_sameR]; exact how2⟩
      · subst e; exact absurd (show behind _ 6 _ _ = true by kernel_rfl) (by rw [hbh]; decide)
    case o11 =>
      intro a w1 K hG need old fresh hK
      have h10 : OwnB _ _ _ _ := need 10 (by kernel_rfl) (by kernel_rfl)
      refine op_valueR (wanted_noneR rfl) (run_assign (.tmp 13) rfl rfl) (hK _ w1 hG ?_ (fun j hj hbh hs => hs.same hj h10.ne (by decide)))
      show updvR _ 11 _ 11 = updvR _ 11 _ 10
      rw [updv_sameR, updv_neR _ (by decide)]; rfl
  · intro a w' hG hde hsz hφ hold
    obtain ⟨p2, c2, e2, how⟩ := hφ 10 (by kernel_rfl)
    have h11 : a.tmps.getD 2 undef = .slice p2 (refL p s d).length c2 := (show a.tmps.getD 2 undef = _ from hφ 11 (by kernel_rfl)).trans e2
    rw [e2] at how
    go_wp2
    refine bodyPost_ret (v := .slice p2 (refL p s d).length c2) ?_ hde ⟨p2, c2, refL p s d, rfl, rfl, own_lower how (Nat.le_succ _), ((Below.refl w.heap.size w).alloc (Nat.le_refl _) _).trans (hG.mono (by omega))⟩
    rw [results_tmp (t := 2) rfl, h11]
end Go.Proofs.Ytnadcdgpfopcaaa

namespace Go.Proofs.Ytnadcdgpfopcaaa
open Go.RowKit

theorem refL_sheet {p s : Int} {d : List UInt8} (h1 : 0 ≤ p ∧ p ≤ 60) (h2 : 1 ≤ s ∧ s ≤ 1099511627776) (h3 : d.length ≤ 2000) : refL p s d = sheetL p.toNat s.toNat d := by
  obtain ⟨P, rfl⟩ : ∃ P : Nat, p = (P : Int) := ⟨p.toNat, by omega⟩
  obtain ⟨S, rfl⟩ : ∃ S : Nat, s = (S : Int) := ⟨s.toNat, by omega⟩
  unfold refL sheetL
  rw [heldW_nat P (by omega), heldW_nat S (by omega), heldW_nat d.length (by omega)]
  rfl
theorem held_not90 {p : Int} (h1 : 0 ≤ p ∧ p ≤ 60) : numL (heldW p) ≠ [90] := by
  obtain ⟨P, rfl⟩ : ∃ P : Nat, p = (P : Int) := ⟨p.toNat, by omega⟩
  rw [heldW_nat P (by omega), numL_small P (by omega)]
  intro e
  have := congrArg UInt8.toNat (List.singleton_inj.1 e)
  rw [byteOf_nat P (by omega)] at this
  simp at this; omega
theorem toList_str (l : List UInt8) : (strOf l).toList = l := by rw [ByteArray.toList_eq]; simp [strOf]
theorem may_not {p s : Int} {d : List UInt8} (h : ¬ MayS p s d) : decide (MayS p s d) = false := decide_eq_false h
set_option maxRecDepth 100000 in
set_option maxHeartbeats 1000000 in
theorem maysheet_any (B : Nat) (p s : Int) (A : Option Addr) (c : Nat) (d : List UInt8) (w : World) (hr : RB w B A d) (hB : B ≤ w.heap.size) :
    Calls Try.prog 10 #[.agg #[.int .i64 p, .int .i64 s, .slice A d.length c]] w fun e w' => e = .returned (.bool (decide (MayS p s d))) ∧ Below w.heap.size w w' := by
  have hr0 := Lib.hid (hr.alloc hB (.cells #[.int .i64 p, .int .i64 s, .slice A d.length c] 28))
  have hb0 := Lib.hid ((Below.refl w.heap.size w).alloc (Nat.le_refl _) (.cells #[.int .i64 p, .int .i64 s, .slice A d.length c] 28))
  by_cases h : (0 ≤ p ∧ p ≤ 60) ∧ (1 ≤ s ∧ s ≤ 1099511627776) ∧ d.length ≤ 2000
  · obtain ⟨h1, h2, h3⟩ := h
    have E := Lib.hid (refL_sheet h1 h2 h3)
    have N := Lib.hid (held_not90 h1)
    have H1 := Lib.hid h1
    have H2 := Lib.hid h2
    obtain ⟨h11, h12⟩ := h1
    obtain ⟨h21, h22⟩ := h2
    go_enter Try.func10, Try.ntmps10
    go_wp2_with (go_at_call 25; refine (refbytes_any B p s A c d _ hr0.out (by simp; omega) (by omega) N.out).mono ?_; rintro e w1 ⟨A1, c1, L1, rfl, hL1, hown1, hb1⟩; have HL := Lib.hid (hL1.out.trans E.out); have HB := Lib.hid (hb0.out.trans (hb1.mono (by simp))); clear hL1 hown1 hb1)
    go_ret
    refine ⟨ret_bool ?_, HB.out⟩
    have e : MayS p s d ↔ (L1.length : Int) ≤ 2000 := by
      unfold MayS
      rw [← HL.out]
      constructor
      · intro h; omega
      · intro h; exact ⟨H1.out, H2.out, h3, by omega⟩
    exact decide_eq_decide.2 e.symm
  · have HM : ¬ MayS p s d := fun hm => h ⟨hm.1, hm.2.1, hm.2.2.1⟩
    rw [decide_eq_false HM]
    have HH := Lib.hid h
    clear h HM
    go_enter Try.func10, Try.ntmps10
    go_wp2_with fail
    · exact absurd ⟨⟨by omega, by omega⟩, ⟨by omega, by omega⟩, by omega⟩ HH.out
    all_goals
      go_ret
      exact ⟨rfl, hb0.out⟩
set_option maxRecDepth 100000 in
theorem refsheet_any (B : Nat) (p s : Int) (A : Option Addr) (c : Nat) (d : List UInt8) (w : World) (hr : RB w B A d) (hB : B ≤ w.heap.size) :
    Calls Try.prog 12 #[.agg #[.int .i64 p, .int .i64 s, .slice A d.length c]] w (BytesPost p s d w) := by
  have hr0 := Lib.hid (hr.alloc hB (.cells #[.int .i64 p, .int .i64 s, .slice A d.length c] 28))
  have hb0 := Lib.hid ((Below.refl w.heap.size w).alloc (Nat.le_refl _) (.cells #[.int .i64 p, .int .i64 s, .slice A d.length c] 28))
  have C0 := Lib.hid (heap_alloc_new w (.cells #[.int .i64 p, .int .i64 s, .slice A d.length c] 28))
  by_cases hM : MayS p s d
  · have HM := Lib.hid hM
    have N := Lib.hid (held_not90 hM.1)
    have E := Lib.hid (refL_sheet hM.1 hM.2.1 hM.2.2.1)
    have hd := hM.2.2.1
    clear hM
    go_enter Try.func12, Try.ntmps12
    go_wp2_with fail
    refine (maysheet_any B p s A c d _ hr0.out (by simp; omega)).mono ?_
    rintro e w1 ⟨rfl, hb1⟩
    rw [decide_eq_true HM.out]
    have hr1 := Lib.hid (hr0.out.below hb1 (by simp; omega))
    have hs1 := hb1.size
    have hb2 := Lib.hid (hb0.out.trans (hb1.mono (by simp)))
    obtain ⟨k0, k1, k2⟩ := cells3 ((hb1.block w.heap.size (by simp)).trans C0.out)
    clear hb1
    go_wp2_with fail
    refine (refbytes_any B p s A c d _ hr1.out (by simp at hs1; omega) (by omega) N.out).mono ?_
    rintro e w2 ⟨A2, c2, L2, rfl, hL2, hown2, hb3⟩
    have hHL := Lib.hid (hL2.out.trans E.out)
    go_wp2
    go_ret2
    obtain ⟨A2', c2', he, hle⟩ := own_slice hown2
    cases he
    exact ⟨A2, c2, L2, 0, rfl, by rw [if_pos HM.out]; exact hHL.out, by rw [if_pos HM.out], hle, .of_own hown2, fun ad e => (by have := (hown2.lt ad.block (by rw [e]; rfl)).1; simp at hs1; omega), hb2.out.trans (hb3.mono (by simp at hs1; omega))⟩
  · have HM := Lib.hid hM
    clear hM
    go_enter Try.func12, Try.ntmps12
    go_wp2_with fail
    refine (maysheet_any B p s A c d _ hr0.out (by simp; omega)).mono ?_
    rintro e w1 ⟨rfl, hb1⟩
    rw [decide_eq_false HM.out]
    have hb2 := Lib.hid (hb0.out.trans (hb1.mono (by simp)))
    clear hb1
    go_wp2
    go_ret2
    exact BytesPost.no HM.out hb2.out
theorem load_three {w : World} {g k : Nat} {x y z : Value} {t : TypeId} {cs : Array Value} (h : w.heap[g]? = some (.cells cs t (0, 0))) (h0 : cs[k]? = some x) (h1 : cs[k + 1]? = some y) (h2 : cs[k + 2]? = some z) : w.cell? ⟨g, k, none⟩ = some x ∧ w.cell? ⟨g, k + 1, none⟩ = some y ∧ w.cell? ⟨g, k + 2, none⟩ = some z := by
  simp [World.cell?, h, h0, h1, h2]
end Go.Proofs.Ytnadcdgpfopcaaa
