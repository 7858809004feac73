/- The reference's PutNumber, PutText, and its reader: the same answers as the program's. -/
import Derived.Test.YtfjijpejoocngaaAwake
import Derived.Test.YtfjijpejoocngaaLaws
namespace Go.Proofs.Ytfjijpejoocngaa
open Go.RowKit

/-- The digits of n, the lowest one first. -/
def lowL (n : Nat) : List UInt8 := if _h : n < 128 then [byteOf n] else byteOf (n % 128) :: lowL (n / 128)
termination_by n
decreasing_by omega
theorem lowL_small (n : Nat) (h : n < 128) : lowL n = [byteOf n] := by rw [lowL]; simp [h]
theorem lowL_big (n : Nat) (h : 128 ≤ n) : lowL n = byteOf (n % 128) :: lowL (n / 128) := by rw [lowL]; simp; omega
/-- What the second loop lays behind: 128 is added to all but the last one. -/
def up (c : UInt8) : UInt8 := byteOf (c.toNat % 128 + 128)
theorem lowL_num (n : Nat) : ∃ d t, lowL n = d :: t ∧ numL n = (t.map up).reverse ++ [d] := by
  induction n using Nat.strongRecOn with
  | ind n ih =>
    by_cases h : n < 128
    · refine ⟨byteOf n, [], lowL_small n h, ?_⟩
      unfold numL
      rw [show n / 128 = 0 by omega, hiL_zero, show n % 128 = n by omega]; rfl
    · obtain ⟨d, t, e1, e2⟩ := ih (n / 128) (by omega)
      refine ⟨byteOf (n % 128), lowL (n / 128), lowL_big n (by omega), ?_⟩
      unfold numL at e2 ⊢
      rw [hiL_pos (n / 128) (by omega), e1]
      have e3 := List.append_inj' e2 rfl
      rw [e3.1]
      have hd : d = byteOf (n / 128 % 128) := by simpa using e3.2.symm
      rw [hd]
      simp [up, byteOf_nat (n / 128 % 128) (by omega)]
theorem lowL_len (n : Nat) : (lowL n).length = (numL n).length := by
  obtain ⟨d, t, e1, e2⟩ := lowL_num n
  rw [e1, e2]; simp
/-- What bytes may be laid behind: a row of the call's own, at the block row or at one made since W; or a slice without any room. -/
def Onto (W : World) (row : Option Nat) (wr : World) (v : Value) (xs : List UInt8) : Prop :=
  (wr.ownsRow 0 5 1 v xs.length (xs.map ub) ∧ (v.ownBlock = row ∨ ∀ g, v.ownBlock = some g → W.heap.size ≤ g)) ∨ (xs = [] ∧ ∃ a0, v = .slice (some a0) 0 0)
/-- The block that may be written into. -/
def Wrote (W : World) (row : Option Nat) (r : Option Nat) : Prop := r = row ∨ ∀ g, r = some g → W.heap.size ≤ g
theorem Onto.keep {W wr w' : World} {row : Option Nat} {v : Value} {xs : List UInt8} (h : Onto W row wr v xs) (hk : ∀ g, v.ownBlock = some g → w'.heap[g]? = wr.heap[g]?) : Onto W row w' v xs := by
  rcases h with ⟨h1, h2⟩ | h
  · exact .inl ⟨own_keep h1 hk, h2⟩
  · exact .inr h
theorem Onto.alloc {W wr : World} {row : Option Nat} {v : Value} {xs : List UInt8} (h : Onto W row wr v xs) (o : Obj) : Onto W row (wr.alloc o) v xs := by
  rcases h with ⟨h1, h2⟩ | h
  · exact .inl ⟨h1.alloc _, h2⟩
  · exact .inr h
theorem Onto.slice {W wr : World} {row : Option Nat} {v : Value} {xs : List UInt8} (h : Onto W row wr v xs) : ∃ p c, v = .slice p xs.length c ∧ xs.length ≤ c := by
  rcases h with ⟨h1, _⟩ | ⟨rfl, a0, rfl⟩
  · exact own_slice h1
  · exact ⟨_, _, rfl, Nat.le_refl _⟩
theorem Onto.rb {W wr : World} {row : Option Nat} {p : Option Addr} {c : Nat} {xs : List UInt8} (h : Onto W row wr (.slice p xs.length c) xs) : RB wr wr.heap.size p xs := by
  rcases h with ⟨h1, _⟩ | ⟨rfl, _⟩
  · exact RB.of_own h1
  · exact .nil
theorem grow_more {W a b : World} {row r : Option Nat} (h : W.grownBy a row) (k : a.grownBy b r) (hr : Wrote W row r) : W.grownBy b row := by
  refine ⟨k.os.trans h.os, k.tape.trans h.tape, k.output.trans h.output, Nat.le_trans h.size k.size, fun i hi hne => ?_⟩
  rw [← h.block i hi hne]
  refine k.block i (Nat.lt_of_lt_of_le hi h.size) fun e => ?_
  rcases hr with h1 | h1
  · exact hne (e.trans h1)
  · have := h1 i e.symm; omega
/-- append onto it. -/
theorem run_append_onto {P : Program} (w W : World) (row : Option Nat) (ty : TypeId) (i : TypeInfo) (z : Value) (t : TypeId) (ht : P.underlying t = some (.slice 5)) (hi : P.info? 5 = some i) (hz : i.zero = some z)
    (hsize : i.size = 1) (hby : i.bytes = 1) (hzs : z.cells.size = 1) (v : Value) (xs : List UInt8) (h : Onto W row w v xs) (hW : W.heap.size ≤ w.heap.size) (B : Nat) (A : Option Addr) (c : Nat) (l : List UInt8) (hr : RB w B A l)
    (hbig : xs.length + l.length ≤ 140737488355328) :
    ∃ p cap w' r, (Builtin.append_ #[t, t] ty #[v, .slice A l.length c]).run P w = .ok (.slice p (xs ++ l).length cap) w' ∧ Onto W row w' (.slice p (xs ++ l).length cap) (xs ++ l) ∧ w.grownBy w' r ∧ Wrote W row r ∧ (r = none ∨ r = v.ownBlock) ∧
      ((Value.slice p (xs ++ l).length cap).ownBlock = v.ownBlock ∨ (Value.slice p (xs ++ l).length cap).ownBlock = some w.heap.size) ∧ (∀ g, (Value.slice p (xs ++ l).length cap).ownBlock = some g → v.ownBlock = some g ∨ g < w'.heap.size) := by
  rcases h with ⟨hown, hrow⟩ | ⟨rfl, a0, rfl⟩
  · obtain ⟨p, cap, w', hrun, h1, h2, h3⟩ := run_append_bytes (P := P) w 0 t ty 5 i z ht hi hz hsize hby hzs v xs hown B A c l hr hbig (Nat.zero_le _)
    refine ⟨p, cap, w', v.ownBlock, hrun, .inl ⟨h1, ?_⟩, h2, hrow, .inr rfl, h3, fun g e => .inr (h1.lt g e).2⟩
    rcases h3 with h3 | h3
    · rw [h3]; exact hrow
    · rw [h3]; exact .inr fun g e => by cases e; exact hW
  · rcases Nat.eq_zero_or_pos l.length with h0 | h0
    · obtain rfl : l = [] := List.eq_nil_of_length_eq_zero h0
      refine ⟨some a0, 0, w, none, ?_, .inr ⟨rfl, a0, rfl⟩, World.grownBy.refl w _, .inr fun g e => (by cases e), .inl rfl, .inl rfl, fun g e => .inl e⟩
      cases A with
      | none => simp [Builtin.append_, run_underlying ht, sizeOf, typeInfo, hi, Builtin.lenOf, Builtin.firstCells, storeCells]
      | some ad => simp [Builtin.append_, run_underlying ht, sizeOf, typeInfo, hi, Builtin.lenOf, Builtin.firstCells, storeCells, loadCells, loadCellsFrom]
    · obtain ⟨ad, rfl, _⟩ := hr h0
      have hrun := run_append_grow (P := P) (w := w) t ty 5 i z ht hi hz a0 0 0 [] (by simp) (by simp) ad l.length c (l.map ub) (by simp [hsize]) (hr.news ad rfl) (by omega) (by simp at hbig ⊢; omega) (growslice_fits (by omega) (by rw [hby]; simp at hbig ⊢; omega))
      have hge := grownCap_ge w (0 + l.length) 0 5
      have hcm := grownCap_le_maxLen w (0 + l.length) 0 5 (by simp at hbig; unfold maxLen; omega)
      have e0 : 0 + l.length = ([] ++ l).length := by simp
      rw [e0] at hrun hge hcm
      refine ⟨_, _, _, none, hrun, .inl ⟨⟨by simp, .inr ⟨w.heap.size, _, _, rfl, Nat.zero_le _, heap_alloc_new w.drew _, hge, hcm, ?_, ?_⟩⟩, .inr fun g e => (by cases e; exact hW)⟩, ⟨rfl, rfl, rfl, by simp, fun k hk _ => Below.heap_alloc w.drew _ k hk⟩, .inr fun g e => (by cases e), .inl rfl, .inr rfl, fun g e => .inr (by cases e; simp)⟩
      · simp only [Array.size_append, List.size_toArray, size_zeroCells, hzs, List.length_nil, List.length_map, List.nil_append, Nat.mul_one] at hge ⊢
        omega
      · simp only [Array.toList_append, List.nil_append, Nat.mul_one]
        exact List.take_left' (by simp)
theorem wpList_append_onto' {P : Program} (w W : World) (row : Option Nat) {ops : Array Oper} {rest : List Oper} {o : Oper} {a : Act} {Q : Exit → Act → World → Prop} (hgd : o.guard = none) (s x : Operand) (t : TypeId)
    (ho : o.op = .call { callee := .builtin .append, args := #[s, x], argTypes := #[t, t] })
    (i : TypeInfo) (z : Value) (ht : P.underlying t = some (.slice 5)) (hi : P.info? 5 = some i) (hz : i.zero = some z) (hsize : i.size = 1) (hby : i.bytes = 1) (hzs : z.cells.size = 1)
    (v : Value) (xs : List UInt8) (hs : a.eval s = v) (hown : Onto W row w v xs) (hW : W.heap.size ≤ w.heap.size) (B : Nat) (A : Option Addr) (c : Nat) (l : List UInt8) (hx : a.eval x = .slice A l.length c) (hr : RB w B A l)
    (hbig : xs.length + l.length ≤ 140737488355328)
    (h : ∀ p cap w' r, Onto W row w' (.slice p (xs ++ l).length cap) (xs ++ l) → w.grownBy w' r → Wrote W row r → (r = none ∨ r = v.ownBlock) → ((Value.slice p (xs ++ l).length cap).ownBlock = v.ownBlock ∨ (Value.slice p (xs ++ l).length cap).ownBlock = some w.heap.size) → wpList P ops Q rest (a.put o.dst (.slice p (xs ++ l).length cap)) w') : wpList P ops Q (o :: rest) a w := by
  refine wpList_plain hgd fun K hK => ?_
  obtain ⟨p, cap, w', r, hrun, h2, h3, h4, h5, h6, _⟩ := run_append_onto (P := P) w W row o.type i z t ht hi hz hsize hby hzs v xs hown hW B A c l hr hbig
  unfold Oper.wp execOp
  simp only [ho, resolve, invoke, builtin, Sem.run_bind, Sem.run_pure, Result.andThen_ok, List.map_toArray, List.map_cons, List.map_nil, hs, hx, hrun]
  exact hK _ _ (h p cap w' r h2 h3 h4 h5 h6)
/-- What a function tells that lays bytes behind what may be written: the bytes; of the blocks that were there row alone may have turned. -/
def OwnPost (row : Option Nat) (w : World) (l : List UInt8) (e : Ending) (w' : World) : Prop :=
  ∃ (p : Option Addr) (c : Nat) (L : List UInt8), e = .returned (.slice p L.length c) ∧ Hid (L = l) ∧ L.length ≤ c ∧ Onto w row w' (.slice p L.length c) L ∧ w.grownBy w' row
/-- The first k of what is laid behind. -/
def outL (low : List UInt8) (k : Nat) : List UInt8 := (List.range k).map fun q => if q + 1 < low.length then up (low.getD (low.length - 1 - q) 0) else low.getD 0 0
theorem outL_succ (low : List UInt8) (k : Nat) : outL low (k + 1) = outL low k ++ [if k + 1 < low.length then up (low.getD (low.length - 1 - k) 0) else low.getD 0 0] := by
  unfold outL; rw [List.range_succ, List.map_append]; rfl
theorem outL_all (n : Nat) : outL (lowL n) (lowL n).length = numL n := by
  obtain ⟨d, t, e1, e2⟩ := lowL_num n
  rw [e1, e2]
  unfold outL
  apply List.ext_getElem
  · simp
  · intro i h1 h2
    simp at h1
    by_cases hi : i < t.length
    · rw [List.getElem_append_left (by simpa using hi)]
      simp [hi, List.getD]
      rw [show t.length - i = (t.length - 1 - i) + 1 by omega, List.getElem?_cons_succ, List.getElem?_eq_getElem (by omega)]
      rfl
    · obtain rfl : i = t.length := by omega
      simp
set_option maxRecDepth 100000 in
set_option maxHeartbeats 2000000 in
theorem put_any (row : Option Nat) (p : Option Addr) (cap : Nat) (l : List UInt8) (n : Int) (w : World) (h : Onto w row w (.slice p l.length cap) l) (hown0 : ∀ g, (Value.slice p l.length cap).ownBlock = some g → g < w.heap.size) (hl : l.length ≤ 70368744177664) :
    Calls Try.prog 36 #[.slice p l.length cap, .int .i64 n] w (OwnPost row w (l ++ numL (heldW n))) := by
  obtain ⟨i0, hi, hz0, hz1, hz2⟩ := info_parts info_byte
  obtain ⟨N, hN⟩ : ∃ N, N = heldW n := ⟨_, rfl⟩
  have hN1 := heldW_le n
  rw [← hN] at hN1
  have hmm : max 0 (min n 1099511627776) = (N : Int) := by rw [hN]; unfold heldW; split; omega; split <;> omega
  rw [← hN]
  have hll := numL_len N (by omega)
  have hlow := lowL_len N
  rw [← outL_all N]
  obtain ⟨low, hlw⟩ : ∃ low, low = lowL N := ⟨_, rfl⟩
  rw [← hlw] at hlow ⊢
  have hl6 : low.length ≤ 6 := by omega
  have hl1 : 1 ≤ low.length := by omega
  have Hlow := Lib.hid hlw
  clear hN hll hlow hlw
  go_enter Try.func36, Try.ntmps36
  go_wp2_with fail
  clear hmm
  go_loopw [1, 5] (fun t v wr => ∃ (m cp : Nat) (q : Option Addr) (don : List UInt8), t = .int .i64 m ∧ v = .slice q don.length cp ∧ m ≤ N ∧ Hid (don ++ lowL m = low) ∧ wr.ownsRow w.heap.size 5 1 (.slice q don.length cp) don.length (don.map ub) ∧ Below w.heap.size w wr) (fun t _ _ => (intOf t).toNat)
  case atStart => exact ⟨N, 0, none, [], rfl, rfl, Nat.le_refl _, by rw [Hlow.out]; rfl, World.ownsRow_nil _ _ _ _, Below.refl _ _⟩
  case round =>
    obtain ⟨m, cp, q, don, rfl, rfl, hm, hdl, hown, hb⟩ := hrel
    have hs := hb.size
    have hdlen : don.length < low.length := by
      have h1 := congrArg List.length hdl.out
      have h2 := numL_len m (by omega)
      rw [← lowL_len m] at h2
      simp at h1; omega
    have e1 : bits .and .i64 (m : Int) 127 = ((m % 128 : Nat) : Int) := by rw [and127 _ (by omega) (by omega)]; omega
    obtain ⟨r, hr⟩ : ∃ r, r = m % 128 := ⟨_, rfl⟩
    rw [← hr] at e1
    have hr1 : r < 128 := by omega
    have hrb := ub_ofNat r (by omega)
    have hnew : RB (wr.alloc (.cells #[.int .u8 (r : Int)] 5)) (wr.heap.size + 1) (some ⟨wr.heap.size, 0, none⟩) [byteOf r] := by
      have := rb_new1 wr (byteOf r) 5 (0, 0)
      rwa [byteOf_nat r (by omega)] at this
    obtain ⟨m2, hm2⟩ : ∃ m2 : Nat, (m : Int) / 128 = (m2 : Int) := ⟨m / 128, by omega⟩
    by_cases hlast : m < 128
    · obtain rfl : m2 = 0 := by omega
      have Hr := Lib.hid hr
      clear hr hrb
      go_wp2_with (at_builtin; refine wpList_append_bytes _ rfl _ _ _ rfl w.heap.size 5 i0 _ Try.underlying22 hi hz0 hz1 hz2 rfl _ don rfl (hown.alloc _) (wr.heap.size + 1) _ 1 [byteOf r] rfl hnew (by simp; omega) (by simp; omega) ?_; intro p1 cap1 w2 hown1 hg1 _)
      have hlo : low = don ++ [byteOf r] := by
        have h1 := hdl.out
        rw [lowL_small m hlast] at h1
        rw [← h1, Hr.out, Nat.mod_eq_of_lt hlast]
      have hdl1 : don.length + 1 ≤ low.length := by rw [hlo]; simp
      have hdl2 : low.length ≤ don.length + 1 := by rw [hlo]; simp
      have hb1 := (hb.alloc hs _).grown hg1 (by simp; omega) fun k e => ((hown.alloc (.cells #[.int .u8 (r : Int)] 5)).lt k e).1
      have hfar := hown1.lt
      rw [← hlo] at hown1
      obtain ⟨ad, rfl, hadb, hcells⟩ := RB.of_own hown1 hl1
      have had := (hfar ad.block rfl).1
      have h2 : Onto w row w2 (.slice p l.length cap) l := h.keep fun g e => hb1.block g (hown0 g e)
      have hne : (Value.slice p l.length cap).ownBlock ≠ some ad.block := fun e => by have := hown0 _ e; omega
      have hgr : w.grownBy w2 row := ⟨hb1.os, hb1.tape, hb1.output, hb1.size, fun k hk _ => hb1.block k hk⟩
      have hs1 := hb1.size
      clear hfar hown hown1 hg1 hnew hlo hdl Hr hlast
      go_loopw [0, 6] (fun v i wr => ∃ (k cp2 : Nat) (p2 : Option Addr) (xs : List UInt8), k ≤ low.length ∧ i = .int .i64 ((low.length : Int) - 1 - k) ∧ v = .slice p2 xs.length cp2 ∧ Hid (xs = l ++ outL low k) ∧ Onto w row wr (.slice p2 xs.length cp2) xs ∧ (Value.slice p2 xs.length cp2).ownBlock ≠ some ad.block ∧ w.grownBy wr row ∧ Hid (wr.heap[ad.block]? = w2.heap[ad.block]?) ∧ w2.heap.size ≤ wr.heap.size) (fun _ i _ => (intOf i + 1).toNat)
      case atStart => exact ⟨0, cap, p, l, Nat.zero_le _, by congr 1; omega, rfl, by show l = l ++ outL low 0; simp [outL], h2, hne, hgr, rfl, Nat.le_refl _⟩
      case round =>
        obtain ⟨k, cp2, p2, xs, hk, rfl, rfl, hxs, hown, hne2, hb2, hblk, hsz⟩ := hrel
        have hs2 : w.heap.size ≤ wr.heap.size := hb2.size
        have hxl : xs.length ≤ l.length + k := by rw [hxs.out]; simp [outL]
        by_cases hlt : k < low.length
        · have hxs' : Hid (l ++ outL low (k + 1) = xs ++ [if k + 1 < low.length then up (low.getD (low.length - 1 - k) 0) else low.getD 0 0]) := by
            show _ = _
            rw [outL_succ, hxs.out, List.append_assoc]
          by_cases hj0 : k + 1 = low.length
          · rw [show (low.length : Int) - 1 - k = 0 by omega]
            have hck : wr.cell? ad = some (.int .u8 low[0].toNat) := by
              have := (World.cell?_of_block (w := w2) (w' := wr) (a := ad.add 0) hblk.out).trans (hcells 0 (by omega))
              simpa [Addr.add, ub] using this
            have hgd : low.getD 0 0 = low[0] := by simp [List.getD, show 0 < low.length by omega]
            rw [if_neg (by omega), hgd] at hxs'
            have hk1 : low.length ≤ k + 1 := by omega
            clear hgd hxs hj0
            generalize low[0] = cj at hck hxs'
            have hnew : RB (wr.alloc (.cells #[.int .u8 (cj.toNat : Int)] 5)) (wr.heap.size + 1) (some ⟨wr.heap.size, 0, none⟩) [cj] := rb_new1 wr cj 5 (0, 0)
            go_wp2_with (at_builtin; refine wpList_append_onto' _ w row rfl _ _ _ rfl i0 _ Try.underlying22 hi hz0 hz1 hz2 rfl _ xs rfl (hown.alloc _) (by simp; omega) (wr.heap.size + 1) _ 1 [cj] rfl hnew (by simp; omega) ?_; intro p3 cap3 w3 r3 hown3 hg3 hwr3 hrr3 hob3)
            go_roundw
            case rel =>
              have hadne : some ad.block ≠ r3 := by
                rcases hrr3 with e' | e'
                · rw [e']; intro e; cases e
                · rw [e']; exact fun e => hne2 e.symm
              refine ⟨k + 1, cap3, p3, xs ++ [cj], by omega, by congr 1; omega, by simp, hxs'.out.symm, hown3, ?_, grow_more (grow_more hb2 (World.grownBy_alloc wr _ none) (.inr fun g e => (by cases e))) hg3 hwr3, ?_, by have := hg3.size; simp at this; omega⟩
              · rcases hob3 with e | e
                · rw [e]; exact hne2
                · rw [e]; simp; omega
              · exact (hg3.block _ (by simp; omega) hadne).trans ((Below.heap_alloc wr _ _ (by omega)).trans hblk.out)
            case measure => simp [intOf]
          · obtain ⟨j, hj⟩ : ∃ j : Nat, (low.length : Int) - 1 - k = j := ⟨low.length - 1 - k, by omega⟩
            rw [hj]
            have hjl : j < low.length := by omega
            have hck : wr.cell? (ad.add j) = some (.int .u8 low[j].toNat) := (World.cell?_of_block (by rw [block_add]; exact hblk.out)).trans (hcells j hjl)
            have hgd : low.getD (low.length - 1 - k) 0 = low[j] := by rw [show low.length - 1 - k = j by omega]; simp [List.getD, hjl]
            have hd256 := low[j].toNat_lt
            rw [if_pos (by omega), hgd] at hxs'
            have hj1 : (0 : Int) < (j : Int) := by omega
            have hj2 : j + k + 1 ≤ low.length := by omega
            have hj3 : low.length ≤ j + k + 1 := by omega
            clear hgd hxs hj hj0
            generalize low[j] = cj at hck hxs' hd256
            obtain ⟨X, hX⟩ : ∃ X, X = cj.toNat % 128 + 128 := ⟨_, rfl⟩
            have hor : bits .or .u8 (cj.toNat : Int) 128 = (X : Int) := by rw [or128 _ (by omega) (by omega), hX]; omega
            have hnew : RB (wr.alloc (.cells #[.int .u8 (X : Int)] 5)) (wr.heap.size + 1) (some ⟨wr.heap.size, 0, none⟩) [up cj] := by
              have := rb_new1 wr (byteOf X) 5 (0, 0)
              rw [byteOf_nat X (by omega)] at this
              unfold up; rwa [← hX]
            clear hX
            go_wp2_with (at_builtin; refine wpList_append_onto' _ w row rfl _ _ _ rfl i0 _ Try.underlying22 hi hz0 hz1 hz2 rfl _ xs rfl (hown.alloc _) (by simp; omega) (wr.heap.size + 1) _ 1 [up cj] rfl hnew (by simp; omega) ?_; intro p3 cap3 w3 r3 hown3 hg3 hwr3 hrr3 hob3)
            go_roundw
            case rel =>
              have hadne : some ad.block ≠ r3 := by
                rcases hrr3 with e' | e'
                · rw [e']; intro e; cases e
                · rw [e']; exact fun e => hne2 e.symm
              refine ⟨k + 1, cap3, p3, xs ++ [up cj], by omega, by congr 1; omega, by simp, hxs'.out.symm, hown3, ?_, grow_more (grow_more hb2 (World.grownBy_alloc wr _ none) (.inr fun g e => (by cases e))) hg3 hwr3, ?_, by have := hg3.size; simp at this; omega⟩
              · rcases hob3 with e | e
                · rw [e]; exact hne2
                · rw [e]; simp; omega
              · exact (hg3.block _ (by simp; omega) hadne).trans ((Below.heap_alloc wr _ _ (by omega)).trans hblk.out)
            case measure => simp [intOf]
        · obtain rfl : k = low.length := by omega
          go_wp2
          go_ret
          obtain ⟨p2', c2', he, hle⟩ := hown.slice
          cases he
          exact ⟨p2, cp2, xs, rfl, hxs, hle, hown, hb2⟩
    · have hm2' : m2 = m / 128 := by omega
      have hdl2 : Hid ((don ++ [byteOf r]) ++ lowL m2 = low) := by
        show _ = _
        have h1 := hdl.out
        rw [lowL_big m (by omega), ← hr, ← hm2'] at h1
        rw [← h1]; simp
      clear hr hrb hm2'
      have hm20 : ((m2 : Int) == 0) = false := by simp; omega
      go_wp2_with (at_builtin; refine wpList_append_bytes _ rfl _ _ _ rfl w.heap.size 5 i0 _ Try.underlying22 hi hz0 hz1 hz2 rfl _ don rfl (hown.alloc _) (wr.heap.size + 1) _ 1 [byteOf r] rfl hnew (by simp; omega) (by simp; omega) ?_; intro p1 cap1 w2 hown1 hg1 _)
      go_roundw
      case rel =>
        exact ⟨m2, cap1, p1, don ++ [byteOf r], rfl, by simp, by omega, hdl2, hown1, (hb.alloc hs _).grown hg1 (by simp; omega) fun k e => (hown.lt k e).1⟩
      case measure => simp [intOf]; omega

set_option maxRecDepth 100000 in
theorem puttext_any (row : Option Nat) (B : Nat) (p A : Option Addr) (cap c : Nat) (l s : List UInt8) (w : World) (h : Onto w row w (.slice p l.length cap) l) (hown0 : ∀ g, (Value.slice p l.length cap).ownBlock = some g → g < w.heap.size) (hs : RB w B A s) (hB : B ≤ w.heap.size) (hsr : 0 < s.length → ∀ ad, A = some ad → row ≠ some ad.block) (hl : l.length ≤ 70368744177000) (hsl : s.length ≤ 70368744177664) :
    Calls Try.prog 35 #[.slice p l.length cap, .slice A s.length c] w (OwnPost row w (l ++ numL (heldW s.length) ++ s)) := by
  obtain ⟨i0, hi, hz0, hz1, hz2⟩ := info_parts info_byte
  go_enter Try.func35, Try.ntmps35
  go_wp2_with fail
  refine (put_any row p cap l s.length _ h hown0 (by omega)).mono ?_
  rintro e w1 ⟨p1, c1, L1, rfl, hL1, _, hown1, hb1⟩
  have hn : L1.length ≤ l.length + 6 := by
    rw [hL1.out]
    have := (numL_len (heldW s.length) (by have := heldW_le s.length; omega)).2
    simp; omega
  have hs1 : RB w1 B A s := fun hn => by
    obtain ⟨ad, e, hb, hc⟩ := hs hn
    exact ⟨ad, e, hb, fun j hj => (World.cell?_of_block (hb1.block _ (by rw [block_add]; omega) (by rw [block_add]; exact fun e' => hsr hn ad e e'.symm))).trans (hc j hj)⟩
  go_wp2_with (at_builtin; refine wpList_append_onto' _ w row rfl _ _ _ rfl i0 _ Try.underlying22 hi hz0 hz1 hz2 rfl _ L1 rfl hown1 hb1.size B A c s rfl hs1 (by omega) ?_; intro p2 cap2 w2 r2 hown2 hg2 hwr2 _ _)
  go_ret
  obtain ⟨p2', c2', he, hle⟩ := hown2.slice
  cases he
  exact ⟨p2, cap2, L1 ++ s, by rw [List.length_append]; rfl, by rw [← hL1.out]; rfl, hle, hown2, grow_more hb1 hg2 hwr2⟩

/-- What a scan without a bound comes to, the bound asked at the end. -/
def refF (l : List UInt8) (most : Int) (k acc : Nat) : Option (Nat × Nat) := if most < (acc : Int) then none else scanL most acc k ((l.take 6).drop k)
theorem refF_start (l : List UInt8) (most : Int) (h : l[0]? ≠ some 128) : readL l most = refF l most 0 0 := by
  unfold readL refF
  rw [if_neg h, List.drop_zero]
  split
  · rename_i h0
    cases l.take 6 with
    | nil => rfl
    | cons d t => rw [scanL, if_pos (by omega)]
  · rfl
theorem refF_end (l : List UInt8) (most : Int) (k acc : Nat) (h : (l.take 6).length ≤ k) : refF l most k acc = none := by
  unfold refF
  split
  · rfl
  · rw [List.drop_eq_nil_of_le h]; rfl
theorem refF_step (l : List UInt8) (most : Int) (k acc : Nat) (h : k < l.length) (h6 : k < 6) : refF l most k acc = if l[k].toNat < 128 then (if most < ((acc * 128 + l[k].toNat % 128 : Nat) : Int) then none else some (acc * 128 + l[k].toNat % 128, k + 1)) else refF l most (k + 1) (acc * 128 + l[k].toNat % 128) := by
  have hd : (l.take 6).drop k = l[k] :: (l.take 6).drop (k + 1) := by
    rw [List.drop_eq_getElem_cons (by simp; omega)]; simp
  unfold refF
  rw [hd, scanL]
  by_cases h1 : most < (acc : Int)
  · rw [if_pos h1]
    split
    · rw [if_pos (by omega)]
    · rw [if_pos (by omega)]
  · rw [if_neg h1]
    by_cases h2 : most < ((acc * 128 + l[k].toNat % 128 : Nat) : Int)
    · rw [if_pos h2]
      split <;> rfl
    · rw [if_neg h2, if_neg h2, if_neg h2]
/-- What the reference tells of what is read. -/
def RefTold (o : Option (Nat × Nat)) (w : World) (e : Ending) (w' : World) : Prop :=
  ∃ (n k : Nat) (ok : Bool), e = .returned (.tuple #[.int .i64 n, .int .i64 k, .bool ok]) ∧ w = w' ∧ Hid (o = if ok then some (n, k) else none)
set_option maxRecDepth 100000 in
set_option maxHeartbeats 2000000 in
theorem refparse_any (p B : Nat) (l : List UInt8) (er : Int) (most : Int) (w : World) (h : RD 55 w p B l er) :
    Calls Try.prog 39 #[.pointer (some ⟨p, 0, none⟩), .int .i64 most] w (RefTold (readL l most) w) := by
  obtain ⟨A, c, hp, hr, h1, h2, h3⟩ := h
  obtain ⟨hc0, hc1, hf0, hf1⟩ := cells2 hp
  clear hp hc1 hf0 hf1
  go_enter Try.func39, Try.ntmps39
  go_wp2
  go_loop [7, 10] (fun t i => ∃ k acc : Nat, k ≤ 6 ∧ k ≤ l.length ∧ i = .int .i64 k ∧ t = .int .i64 acc ∧ acc < 128 ^ k ∧ Hid (readL l most = if k = 0 ∧ l[0]? = some 128 then none else refF l most k acc)) (fun _ i => 6 - (intOf i).toNat)
  case atStart =>
    refine ⟨0, 0, by omega, Nat.zero_le _, rfl, rfl, by simp, ?_⟩
    show _ = _
    by_cases h0 : l[0]? = some 128
    · rw [if_pos ⟨rfl, h0⟩]; unfold readL; rw [if_pos h0]
    · rw [if_neg (fun e => h0 e.2)]; exact refF_start l most h0
  case round =>
    obtain ⟨k, acc, hk, hkle, rfl, rfl, hacc, hrd⟩ := hrel
    by_cases hk6 : k < 6
    · by_cases hkl : k < l.length
      · obtain ⟨ad, rfl, hb, hcell⟩ := hr.at_ hkl
        have hacc5 : acc < 34359738368 := Nat.lt_of_lt_of_le hacc (Nat.le_trans (Nat.pow_le_pow_right (by decide) (show k ≤ 5 by omega)) (by decide))
        have hd256 := l[k].toNat_lt
        have hkl' : ((k : Int) == (l.length : Int)) = false := by simp; omega
        have hstep := Lib.hid (refF_step l most k acc hkl hk6)
        by_cases h128 : k = 0 ∧ l[0]? = some 128
        · have hrd' : Hid (readL l most = none) := by show _ = _; rw [hrd.out, if_pos h128]
          obtain ⟨rfl, hl0⟩ := h128
          have e0 : l[0].toNat = 128 := by
            have : l[0] = 128 := by simpa [hkl] using hl0
            rw [this]; rfl
          rw [e0] at hcell
          have hcell' : w.cell? ad = some (.int .u8 128) := by simpa [Addr.add] using hcell
          clear hl0 e0 hcell hstep
          go_wp2
          go_ret3
          exact ⟨0, 0, false, rfl, rfl, hrd'⟩
        · have hrd' : Hid (readL l most = refF l most k acc) := by show _ = _; rw [hrd.out, if_neg h128]
          by_cases hk0 : k = 0
          · subst hk0
            have hd128 : (((l[0].toNat : Nat) : Int) == 128) = false := by
              have : l[0].toNat ≠ 128 := fun e => h128 ⟨rfl, by simp [hkl]; exact UInt8.toNat.inj e⟩
              simp; omega
            have hcell0 : w.cell? ad = some (.int .u8 l[0].toNat) := by simpa [Addr.add] using hcell
            clear h128 hcell
            generalize l[0].toNat = d at hcell0 hd256 hd128 hstep
            obtain ⟨x, hx⟩ : ∃ x, x = d % 128 := ⟨_, rfl⟩
            have hx1 : x < 128 := by omega
            have e1 : bits .and .i64 (d : Int) 127 = (x : Int) := by rw [and127 _ (by omega) (by omega)]; omega
            obtain ⟨y, hy⟩ : ∃ y, y = acc * 128 + x := ⟨_, rfl⟩
            have hy1 : y < 4398046511104 := by omega
            have e3 : bits .or .i64 ((acc : Int) * 128) (x : Int) = (y : Int) := by rw [or7 acc x hacc5 hx1, hy]
            have hst : Hid (readL l most = if d < 128 then (if most < (y : Int) then none else some (y, 0 + 1)) else refF l most (0 + 1) y) := by
              show _ = _
              rw [hrd'.out, hstep.out, hy, hx]
            have Hy : y < 128 ^ (0 + 1) := by rw [Nat.pow_succ]; omega
            clear hx hy hrd hrd' hstep
            by_cases hdl : d < 128
            · have hend : Hid (readL l most = if decide ((y : Int) ≤ most) = true then some (y, 0 + 1) else none) := by
                show _ = _
                rw [hst.out, if_pos hdl]
                by_cases hmost : most < (y : Int)
                · rw [if_pos hmost, if_neg (by simp; omega)]
                · rw [if_neg hmost, if_pos (by simp; omega)]
              clear hst
              go_wp2
              go_ret3
              exact ⟨y, 0 + 1, decide ((y : Int) ≤ most), rfl, rfl, hend⟩
            · have hend : Hid (readL l most = if 0 + 1 = 0 ∧ l[0]? = some 128 then none else refF l most (0 + 1) y) := by
                show _ = _
                rw [hst.out, if_neg hdl, if_neg (by omega)]
              clear hst
              go_wp2
              go_round
              case rel => exact ⟨0 + 1, y, by omega, by omega, by go_num, rfl, Hy, hend⟩
              case measure => simp [intOf] <;> omega
          · have hk0' : ((k : Int) == 0) = false := by simp; omega
            clear h128
            generalize l[k].toNat = d at hcell hd256 hstep
            obtain ⟨x, hx⟩ : ∃ x, x = d % 128 := ⟨_, rfl⟩
            have hx1 : x < 128 := by omega
            have e1 : bits .and .i64 (d : Int) 127 = (x : Int) := by rw [and127 _ (by omega) (by omega)]; omega
            obtain ⟨y, hy⟩ : ∃ y, y = acc * 128 + x := ⟨_, rfl⟩
            have hy1 : y < 4398046511104 := by omega
            have e3 : bits .or .i64 ((acc : Int) * 128) (x : Int) = (y : Int) := by rw [or7 acc x hacc5 hx1, hy]
            have hst : Hid (readL l most = if d < 128 then (if most < (y : Int) then none else some (y, k + 1)) else refF l most (k + 1) y) := by
              show _ = _
              rw [hrd'.out, hstep.out, hy, hx]
            have Hy : y < 128 ^ (k + 1) := by rw [Nat.pow_succ]; omega
            clear hx hy hrd hrd' hstep
            by_cases hdl : d < 128
            · have hend : Hid (readL l most = if decide ((y : Int) ≤ most) = true then some (y, k + 1) else none) := by
                show _ = _
                rw [hst.out, if_pos hdl]
                by_cases hmost : most < (y : Int)
                · rw [if_pos hmost, if_neg (by simp; omega)]
                · rw [if_neg hmost, if_pos (by simp; omega)]
              clear hst
              go_wp2
              go_ret3
              exact ⟨y, k + 1, decide ((y : Int) ≤ most), rfl, rfl, hend⟩
            · have hend : Hid (readL l most = if k + 1 = 0 ∧ l[0]? = some 128 then none else refF l most (k + 1) y) := by
                show _ = _
                rw [hst.out, if_neg hdl, if_neg (by omega)]
              clear hst
              go_wp2
              go_round
              case rel => exact ⟨k + 1, y, by omega, by omega, by go_num, rfl, Hy, hend⟩
              case measure => simp [intOf] <;> omega
      · have hrd' : Hid (readL l most = none) := by
          show _ = _
          rw [hrd.out]
          split
          · rfl
          · exact refF_end l most k acc (by simp; omega)
        clear hrd
        have hkl' : ((k : Int) == (l.length : Int)) = true := by simp; omega
        go_wp2
        go_ret3
        exact ⟨0, 0, false, rfl, rfl, hrd'⟩
    · have hrd' : Hid (readL l most = none) := by
        show _ = _
        rw [hrd.out, if_neg (by omega)]
        exact refF_end l most k acc (by simp; omega)
      clear hrd
      go_wp2
      go_ret3
      exact ⟨0, 0, false, rfl, rfl, hrd'⟩
end Go.Proofs.Ytfjijpejoocngaa
