/- LeastTakes: what is added and taken away again is as it was; what has no count is not named. -/
import Derived.Test.YtdoaacfonkgokaaBetween
import Derived.Laws.IdiomStrings
namespace Go.Proofs.Ytdoaacfonkgokaa
open Go.RowKit Go.Maps

/-- What a tally of texts at p, made and filled by the law, is good for. -/
def MineS (B : Nat) (w wr : World) (p n : Nat) (f : List UInt8 → Int) : Prop :=
  ∃ ob, Tally_string wr p ob n f ∧ (∀ b, ob = some b → B ≤ b) ∧ B ≤ p ∧ Below B w wr ∧ B ≤ wr.heap.size
theorem mineS_new {w w1 : World} (h : NewPost_string w (.returned (.pointer (some ⟨w.heap.size, 0, none⟩))) w1) : MineS w.heap.size w w1 w.heap.size 0 (fun _ => 0) :=
  ⟨none, h.2.1, (fun b e => by cases e), Nat.le_refl _, h.2.2, h.2.2.size⟩
theorem mineS_alloc {B : Nat} {w wr : World} {p n : Nat} {f : List UInt8 → Int} (h : MineS B w wr p n f) (o : Obj) : MineS B w (wr.alloc o) p n f := by
  obtain ⟨ob, ht, h1, h2, h3, h4⟩ := h
  exact ⟨ob, ht.below ((Below.refl _ _).alloc (Nat.le_refl _) o), h1, h2, h3.alloc h4 o, by simp; omega⟩
theorem mineS_below {B : Nat} {w wr w' : World} {p n : Nat} {f : List UInt8 → Int} (h : MineS B w wr p n f) (hb : Below wr.heap.size wr w') : MineS B w w' p n f := by
  obtain ⟨ob, ht, h1, h2, h3, h4⟩ := h
  exact ⟨ob, ht.below hb, h1, h2, h3.trans (hb.mono h4), Nat.le_trans h4 hb.size⟩
def AddPostS (B : Nat) (w : World) (p n : Nat) (f : List UInt8 → Int) (v : Int) (e : Ending) (w' : World) : Prop := e = .returned (.int .i64 v) ∧ MineS B w w' p (n + 1) f
theorem mineS_add {B : Nat} {w wr : World} {p n : Nat} {f : List UInt8 → Int} (h : MineS B w wr p n f) (k : List UInt8) (v : Int) (hk : k.length ≤ maxLen) (hn : n < 1000000) :
    Calls Try.prog 21 #[.pointer (some ⟨p, 0, none⟩), encStr k, .int .i64 v] wr (AddPostS B w p n (upd f k (heldN (f k) v)) (heldN (f k) v)) := by
  obtain ⟨ob, ht, h1, h2, h3, h4⟩ := h
  refine (add_string p ob n f k v wr ht hk hn).mono ?_
  rintro e w' ⟨rfl, ob', ht', hto, hob⟩
  refine ⟨rfl, ob', ht', fun b e => ?_, h2, h3.trans (hto.below h2 h1 h4), Nat.le_trans h4 hto.size⟩
  rcases hob b e with h | h
  · exact h1 b h
  · omega

theorem u64_range (x : Int) : 0 ≤ IntKind.u64.wrap x ∧ IntKind.u64.wrap x ≤ 18446744073709551615 := by
  have e : IntKind.u64.wrap x = x % 18446744073709551616 := by unfold IntKind.wrap; rfl
  rw [e]; omega
theorem conv_byte (w : World) (x : Int) (o : Obj) : (convert 46 9 (.slice (some ⟨w.heap.size + 1, 0, none⟩) 1 1)).run Try.prog ((w.alloc o).alloc (.cells #[.int .u8 (x % 256)] 5)) = .ok (encStr [UInt8.ofNat (x % 256).toNat]) ((w.alloc o).alloc (.cells #[.int .u8 (x % 256)] 5)) := by
  refine run_convert_bytes_back _ 46 9 5 ⟨w.heap.size + 1, 0, none⟩ 1 [UInt8.ofNat (x % 256).toNat] Try.underlying46 Try.underlying5 Try.underlying9 ?_
  intro j hj
  obtain rfl : j = 0 := by simpa using hj
  have hb : 0 ≤ x % 256 ∧ x % 256 < 256 := by omega
  have hn : ((UInt8.ofNat (x % 256).toNat).toNat : Int) = x % 256 := by
    rw [UInt8.toNat_ofNat']; omega
  simp only [List.getElem_cons_zero, hn]
  simp [Addr.add]

theorem heldN_le (n m : Int) : heldN n m ≤ n + m ∨ heldN n m ≤ 0 := by unfold heldN; split; omega; split <;> omega
theorem upd_upd {α : Type} [DecidableEq α] (f : α → Int) (k : α) (a b : Int) : upd (upd f k a) k b = upd f k b := by funext j; unfold upd; split <;> rfl
theorem upd_self {α : Type} [DecidableEq α] (f : α → Int) (k : α) : upd f k (f k) = f := by
  funext j; unfold upd; split
  · rename_i h; rw [h]
  · rfl
theorem keys_nodup {ks : List (List UInt8)} (h : ks.Pairwise (· < ·)) : ks.Nodup := h.imp fun {a b} (h : a < b) => fun (e : a = b) => by subst e; exact List.lt_irrefl _ h
theorem keys_len {k1 k2 : List (List UInt8)} (h1 : k1.Pairwise (· < ·)) (h2 : k2.Pairwise (· < ·)) (h : ∀ k, k ∈ k2 ↔ k ∈ k1) : k2.length = k1.length :=
  ((List.perm_ext_iff_of_nodup (keys_nodup h2) (keys_nodup h1)).2 h).length_eq
theorem nodup_sub {α : Type} [DecidableEq α] (l : List α) : ∀ m : List α, l.Nodup → (∀ x, x ∈ l → x ∈ m) → l.length ≤ m.length := by
  induction l with
  | nil => intro m _ _; simp
  | cons a l ih =>
    intro m hn hm
    obtain ⟨ha, hl⟩ := List.nodup_cons.1 hn
    have h1 := ih (m.erase a) hl fun x hx => (List.mem_erase_of_ne (fun e : x = a => ha (by rw [← e]; exact hx))).2 (hm x (by simp [hx]))
    have ham := hm a (by simp)
    rw [List.length_erase_of_mem ham] at h1
    have := List.length_pos_of_mem ham
    simp
    omega
theorem keys_less {k1 k2 : List (List UInt8)} (h2 : k2.Pairwise (· < ·)) (h : ∀ k, k ∈ k2 → k ∈ k1) : k2.length ≤ k1.length :=
  nodup_sub _ _ (keys_nodup h2) h
theorem mineS_of {B : Nat} {w wr : World} {p n : Nat} {f : List UInt8 → Int} (h : MineS B w wr p n f) (k : List UInt8) (hk : k.length ≤ maxLen) : Calls Try.prog 22 #[.pointer (some ⟨p, 0, none⟩), encStr k] wr fun e w' => e = .returned (.int .i64 (f k)) ∧ wr = w' := by
  obtain ⟨ob, ht, _⟩ := h
  exact of_string p ob n f k wr ht hk
def KeysMine (B : Nat) (w : World) (p n : Nat) (f : List UInt8 → Int) (e : Ending) (w' : World) : Prop :=
  ∃ (q : Option Addr) (ks : List (List UInt8)) (cap : Nat), e = .returned (.slice q ks.length cap) ∧ ks.Pairwise (· < ·) ∧ (∀ k, k ∈ ks ↔ f k ≠ 0) ∧ ks.length ≤ n ∧ MineS B w w' p n f
theorem mineS_keys {B : Nat} {w wr : World} {p n : Nat} {f : List UInt8 → Int} (h : MineS B w wr p n f) (hn : n ≤ 1000000) : Calls Try.prog 23 #[.pointer (some ⟨p, 0, none⟩)] wr (KeysMine B w p n f) := by
  have hm := h
  obtain ⟨ob, ht, _⟩ := h
  refine (keys_string p ob n f wr ht hn).mono ?_
  rintro e w' ⟨sv, ks, rfl, h1, h2, h3, hown, hb⟩
  obtain ⟨q, cap, rfl⟩ := own_slice hown
  exact ⟨q, ks, cap, rfl, h1, h2, h3, mineS_below hm hb⟩

set_option maxRecDepth 100000 in
set_option maxHeartbeats 4000000 in
theorem takes_small (sv : Value) (l : List (Int × Int)) (k : List UInt8) (n : Int) (w : World) (h : PRow w sv l) (hl : l.length ≤ 60) (hk : k.length ≤ 50) : Calls Try.prog 7 #[sv, encStr k, .int .i64 n] w (Holds w) := by
  obtain ⟨A, cap, rfl, hc⟩ := prow_form h
  have Hc := Lib.hid hc
  clear h hc
  have hu := (u64_range n).1
  go_enter Try.func7, Try.ntmps7
  have hN : 1 ≤ 1 + IntKind.u64.wrap n % 1000 ∧ 1 + IntKind.u64.wrap n % 1000 ≤ 1000 := by omega
  go_wp2_with fail
  generalize 1 + IntKind.u64.wrap n % 1000 = N at hN ⊢
  obtain ⟨hN1, hN2⟩ := hN
  refine (new_string _).mono ?_
  rintro e w1 ⟨rfl, hnew⟩
  have hm1 := Lib.hid (mineS_new ⟨rfl, hnew⟩)
  clear hnew
  go_wp2_with fail
  go_loopw [29] (fun i wr => ∃ j : Nat, j ≤ l.length ∧ i = .int .i64 j ∧ ∃ f, MineS w.heap.size w wr w.heap.size j f ∧ ∀ k, f k ≤ 49 * j) (fun i _ => l.length - (intOf i).toNat)
  case atStart => exact ⟨0, Nat.zero_le _, rfl, _, hm1.out, fun k => by show (0 : Int) ≤ _; omega⟩
  case round =>
    obtain ⟨j, hj, rfl, f, hm, hf⟩ := hrel
    have Hm := Lib.hid hm
    have Hf := Lib.hid hf
    clear hf
    by_cases hlt : j < l.length
    · obtain ⟨b, off, rfl, hbl, hk0, hk1⟩ := Hc.out j hlt
      obtain ⟨ob, _, _, _, hbw, _⟩ := hm
      have hk0' := (hbw.cell (p := ⟨b, off + j * 2, none⟩) hbl).trans hk0
      have hk1' := (hbw.cell (p := ⟨b, off + j * 2 + 1, none⟩) hbl).trans hk1
      clear hbw hk0 hk1
      have hconv := conv_byte wr l[j].1 (.cells #[.int .i64 l[j].1, .int .i64 l[j].2] 28)
      have hu2 := (u64_range l[j].2).1
      go_wp2_with fail
      refine (mineS_add (mineS_alloc (mineS_alloc Hm.out _) _) _ _ (by unfold maxLen; simp) (by omega)).mono ?_
      rintro e w3 ⟨rfl, hm3⟩
      have Hm3 := Lib.hid hm3
      clear hm3 hconv
      go_wp2
      go_roundw
      case rel =>
        refine ⟨j + 1, by omega, by go_num, _, Hm3.out, fun k' => ?_⟩
        have := Hf.out k'
        have h50 := heldN_le (f [UInt8.ofNat (l[j].1 % 256).toNat]) (IntKind.u64.wrap l[j].2 % 50)
        have h51 := Hf.out [UInt8.ofNat (l[j].1 % 256).toNat]
        unfold upd
        split <;> omega
      case measure => simp [intOf]; omega
    · have hf0 := (hm.choose_spec.1.2.1 k).1
      have hfk := Hf.out k
      have hj60 : (j : Int) ≤ 60 := by omega
      have hfk2 : f k ≤ 2940 := by omega
      have hkm : k.length ≤ maxLen := by unfold maxLen; omega
      have e1 : heldN (f k) N = f k + N := by unfold heldN; rw [if_neg (by omega), if_neg (by omega)]
      have e2 : heldN (f k + N) (-N) = f k := by unfold heldN; rw [if_neg (by omega), if_neg (by omega)]; omega
      have e3 : heldN (f k) (-f k - N) = 0 := by unfold heldN; rw [if_neg (by omega), if_pos (by omega)]
      have E1 := Lib.hid e1
      have E2 := Lib.hid e2
      have E3 := Lib.hid e3
      have hjb : j ≤ 60 := by omega
      clear e1 e2 e3 hm hfk hj60
      go_wp2_with fail
      refine (mineS_of Hm.out k hkm).mono ?_
      rintro e w' ⟨rfl, rfl⟩
      go_wp2_with fail
      refine (mineS_keys Hm.out (by omega)).mono ?_
      rintro e w4 ⟨q, ks, cap1, rfl, hk1, hk2, hk3, hm4⟩
      have Hk1 := Lib.hid hk1
      have Hk2 := Lib.hid hk2
      have Hm4 := Lib.hid hm4
      have hksl : ks.length ≤ 60 := by omega
      clear hk1 hk2 hk3 hm4
      go_wp2_with fail
      have hadd := mineS_add Hm4.out k N hkm (by omega)
      rw [E1.out] at hadd
      refine hadd.mono ?_
      rintro e w5 ⟨rfl, hm5⟩
      have Hm5 := Lib.hid hm5
      clear hm5 hadd
      go_wp2_with fail
      have hadd := mineS_add Hm5.out k (-N) hkm (by omega)
      rw [upd_same, E2.out, upd_upd, upd_self] at hadd
      refine hadd.mono ?_
      rintro e w6 ⟨rfl, hm6⟩
      have Hm6 := Lib.hid hm6
      clear hm6 hadd
      go_wp2_with fail
      refine (mineS_keys Hm6.out (by omega)).mono ?_
      rintro e w7 ⟨q2, ks2, cap2, rfl, hk1, hk2, hk3, hm7⟩
      have hlen := Lib.hid (keys_len Hk1.out hk1 fun k' => (hk2 k').trans (Hk2.out k').symm)
      rw [hlen.out]
      have Hm7 := Lib.hid hm7
      clear hk1 hk2 hk3 hm7
      go_wp2_with fail
      have hadd := mineS_add Hm7.out k (-f k - N) hkm (by omega)
      rw [E3.out] at hadd
      refine hadd.mono ?_
      rintro e w8 ⟨rfl, hm8⟩
      have Hm8 := Lib.hid hm8
      clear hm8 hadd
      go_wp2_with fail
      have hof := mineS_of Hm8.out k hkm
      rw [upd_same] at hof
      refine hof.mono ?_
      rintro e w' ⟨rfl, rfl⟩
      clear hof
      go_wp2_with fail
      refine (mineS_keys Hm8.out (by omega)).mono ?_
      rintro e w9 ⟨q3, ks3, cap3, rfl, hk1, hk2, hk3, hm9⟩
      have hle := keys_less (k1 := ks) hk1 fun k' hk' => (Hk2.out k').2 (by
        have := (hk2 k').1 hk'
        by_cases e : k' = k
        · rw [e, upd_same] at this; exact absurd rfl this
        · rwa [upd_other _ e] at this)
      have Hm9 := Lib.hid hm9
      clear hk1 hk2 hm9
      go_wp2_with (go_at_call 9; refine (awake_any _).mono ?_; rintro e w' ⟨rfl, hb⟩)
      go_ret
      obtain ⟨_, _, _, _, hbw, hsz⟩ := Hm9.out
      exact ⟨rfl, hbw.trans (hb.mono hsz)⟩

set_option maxRecDepth 100000 in
theorem takes_big (sv : Value) (l : List (Int × Int)) (k : List UInt8) (n : Int) (w : World) (h : PRow w sv l) (hl : l.length ≤ 9223372036854775807) (hk : k.length ≤ maxLen) (hb : 60 < l.length ∨ 50 < k.length) : Calls Try.prog 7 #[sv, encStr k, .int .i64 n] w (Holds w) := by
  obtain ⟨A, cap, rfl, _⟩ := prow_form h
  unfold maxLen at hk
  clear h
  by_cases h1 : 60 < l.length
  · clear hb
    go_enter Try.func7, Try.ntmps7
    go_wp2_with (go_at_call 9; refine (awake_any _).mono ?_; rintro e w' ⟨rfl, hb⟩)
    go_ret
    exact ⟨rfl, hb⟩
  · have h2 : 50 < k.length := by omega
    clear hb
    go_enter Try.func7, Try.ntmps7
    go_wp2_with (go_at_call 9; refine (awake_any _).mono ?_; rintro e w' ⟨rfl, hb⟩)
    go_ret
    exact ⟨rfl, hb⟩
theorem takes_any (sv : Value) (l : List (Int × Int)) (s : ByteArray) (n : Int) (w : World) (h : PRow w sv l) (hl : l.length ≤ 9223372036854775807) (hs : s.size ≤ maxLen) : Calls Try.prog 7 #[sv, .string s, .int .i64 n] w (Holds w) := by
  have e : Value.string s = encStr s.data.toList := rfl
  have hk : s.data.toList.length ≤ maxLen := by rw [Array.length_toList]; exact hs
  rw [e]
  by_cases hb : 60 < l.length ∨ 50 < s.data.toList.length
  · exact takes_big sv l _ n w h hl hk hb
  · exact takes_small sv l _ n w h (by omega) (by omega)
end Go.Proofs.Ytdoaacfonkgokaa
