/- The law's own insert: a row with one more laid in by its spot. -/
import Derived.Test.YtbebbnkolpgndaaFSame
import Derived.Test.YtbebbnkolpgndaaPlcMoves
namespace Go.Proofs.Ytbebbnkolpgndaa
open Go.RowKit

theorem fown_lit (w : World) (base : Nat) (h : base ≤ w.heap.size) : FOwn (w.alloc (.cells #[] 34)) base (.slice (some ⟨w.heap.size, 0, none⟩) 0 0) [] :=
  World.ownsRow_lit (base := base) (e := 34) (size := 4) w #[] 0 h (by omega) rfl
theorem FLies.drop {w : World} {B o : Nat} {l : List Fd} (h : FLies w (some ⟨B, o, none⟩) l) (k : Nat) : FLies w (some ⟨B, o + k * 4, none⟩) (l.drop k) := fun hn => by
  obtain ⟨B', o', e, hB, hc⟩ := h (by rw [List.length_drop] at hn; omega)
  simp at e
  obtain ⟨rfl, rfl⟩ := e
  refine ⟨B, o + k * 4, rfl, hB, fun j hj => ?_⟩
  have hj2 : k + j < l.length := by rw [List.length_drop] at hj; omega
  have e : (l.drop k)[j] = l[k + j] := List.getElem_drop
  have hx := hc (k + j) hj2
  rw [e]
  rw [show o + (k + j) * 4 = o + k * 4 + j * 4 by omega] at hx
  exact hx
theorem flies_grown {w w' : World} {A : Option Addr} {l : List Fd} {row : Option Nat} (h : FLies w A l) (hg : w.grownBy w' row) (hn : ∀ ad, A = some ad → some ad.block ≠ row) : FLies w' A l := fun hp => by
  obtain ⟨B, o, rfl, hB, hc⟩ := h hp
  have hk := hg.block B hB (hn _ rfl)
  refine ⟨B, o, rfl, Nat.lt_of_lt_of_le hB hg.size, fun j hj => ?_⟩
  obtain ⟨h0, h1, h2, h3⟩ := hc j hj
  exact ⟨(World.cell?_of_block (a := ⟨B, o + j * 4, none⟩) hk).trans h0, (World.cell?_of_block (a := ⟨B, o + j * 4 + 1, none⟩) hk).trans h1, (World.cell?_of_block (a := ⟨B, o + j * 4 + 2, none⟩) hk).trans h2, (World.cell?_of_block (a := ⟨B, o + j * 4 + 3, none⟩) hk).trans h3⟩
theorem FOwn.grown {w0 w w' : World} {n : Nat} {v : Value} {xs : List Fd} (h : FOwn w n v xs) (hb : Below n w0 w) (hg : w.grownBy w' v.ownBlock) (hn : n ≤ w.heap.size) : Below n w0 w' := fown_below h hb hg hn
/-- An append as one step of a region that draws. -/
theorem step_fapp {w : World} {ops : Array Oper} {o : Oper} {a : Act} {K : Act → World → Prop} {Q : Exit → Act → World → Prop} {E : Prop} (hgd : o.guard = none) (s x : Operand) (ho : o.op = .call { callee := .builtin .append, args := #[s, x], argTypes := #[28, 28] })
    (base : Nat) (v : Value) (n : Nat) (xs : List Fd) (m : Nat) (l : List Fd) (A : Option Addr) (c : Nat) (hs : a.eval s = v) (hx : a.eval x = .slice A m c) (hn : xs.length = n) (hm : l.length = m) (hown : FOwn w base v xs) (hl : FLies w A l) (hA : A = none → l = [] ∧ c = 0) (h63 : n + m ≤ 1000000) (hbase : base ≤ w.heap.size)
    (h : ∀ q cap w', FOwn w' base (.slice q (n + m) cap) (xs ++ l) → w.grownBy w' v.ownBlock → K (a.put o.dst (.slice q (n + m) cap)) w') :
    if Region.wanted o (yielded ops a.tmps) = true then Oper.wp Try.prog o a w K Q else E := by
  subst hn
  subst hm
  rw [if_pos (by simp [Region.wanted, hgd])]
  exact oper_fapp s x ho hs hx hown hl hA h63 hbase h
theorem fown_less {w : World} {a b : Nat} {v : Value} {l : List Fd} (h : FOwn w a v l) (hab : b ≤ a) : FOwn w b v l := by
  refine ⟨h.1, ?_⟩
  rcases h.2 with h0 | ⟨g, cap, cur, e, hb, h1⟩
  · exact .inl h0
  · exact .inr ⟨g, cap, cur, e, Nat.le_trans hab hb, h1⟩
theorem FOwn.plain {w : World} {base n c : Nat} {q : Option Addr} {l : List Fd} (h : FOwn w base (.slice q n c) l) : (q = none → l = [] ∧ c = 0) ∧ ∀ ad, q = some ad → ∃ B o, ad = ⟨B, o, none⟩ := by
  rcases h.2 with ⟨e, e2⟩ | ⟨g, cap, cur, e, _⟩
  · simp at e
    obtain ⟨rfl, rfl, rfl⟩ := e
    exact ⟨fun _ => ⟨List.length_eq_zero_iff.1 e2, rfl⟩, fun ad e => (by cases e)⟩
  · simp at e
    obtain ⟨rfl, rfl, rfl⟩ := e
    exact ⟨fun e => (by cases e), fun ad e => (by cases e; exact ⟨g, 0, rfl⟩)⟩
/-- A row of the call's own, to which may be appended. -/
def IPost (l : List Fd) (w : World) (e : Ending) (w' : World) : Prop :=
  ∃ A c, e = .returned (.slice A l.length c) ∧ FOwn w' w.heap.size (.slice A l.length c) l ∧ Below w.heap.size w w'
theorem ins_end {w w6 w' : World} {q : Option Addr} {n k cap : Nat} {l m : List Fd} (h : FOwn w' w6.heap.size (.slice q n cap) m) (hb : Below w6.heap.size w6 w') (hb6 : Below w.heap.size w w6) (e : l = m) (hn : k = m.length) : IPost l w (.returned (.slice q k cap)) w' := by
  subst e
  subst hn
  obtain ⟨_, rfl, _, _⟩ := h.lies
  exact ⟨q, cap, rfl, fown_less h hb6.size, hb6.trans (hb.mono hb6.size)⟩
theorem tw_spec (P : Fd → Bool) : ∀ l : List Fd, (l.takeWhile P).length ≤ l.length ∧ (∀ i (h : i < l.length), i < (l.takeWhile P).length → P l[i] = true) ∧ (∀ h : (l.takeWhile P).length < l.length, P l[(l.takeWhile P).length] = false) ∧ l.takeWhile P = l.take (l.takeWhile P).length ∧ l.dropWhile P = l.drop (l.takeWhile P).length
  | [] => by simp
  | a :: l => by
    obtain ⟨h1, h2, h3, h4, h5⟩ := tw_spec P l
    cases hp : P a with
    | false => simp [hp]
    | true =>
      have e : (a :: l).takeWhile P = a :: l.takeWhile P := by simp [hp]
      have e2 : (a :: l).dropWhile P = l.dropWhile P := by simp [hp]
      rw [e, e2]
      refine ⟨by simpa using h1, fun i h hi => ?_, fun h => ?_, ?_, ?_⟩
      · cases i with
        | zero => exact hp
        | succ i => exact h2 i (by simpa using h) (by simpa using hi)
      · simpa using h3 (by simpa using h)
      · simpa using h4
      · simpa using h5
/-- How many stand ahead of f. -/
def insK (l : List Fd) (f : Fd) : Nat := (l.takeWhile (fun g => ltS g.2 f.2)).length
theorem ins_spec (l : List Fd) (f : Fd) : insK l f ≤ l.length ∧ (∀ i (h : i < l.length), i < insK l f → ltS l[i].2 f.2 = true) ∧ (∀ h : insK l f < l.length, ltS l[insK l f].2 f.2 = false) ∧ insT l f = l.take (insK l f) ++ f :: l.drop (insK l f) := by
  unfold insK insT
  obtain ⟨h1, h2, h3, h4, h5⟩ := tw_spec (fun g => ltS g.2 f.2) l
  refine ⟨h1, h2, h3, ?_⟩
  rw [← h4, ← h5]
set_option maxHeartbeats 4000000 in
theorem ins_any (A : Option Addr) (c : Nat) (l : List Fd) (f : Fd) (w : World) (hl : l.length ≤ 1000) (hc : l.length ≤ c) (hN : A = none → l = [] ∧ c = 0) (hP : ∀ ad, A = some ad → ∃ B o, ad = ⟨B, o, none⟩) (hA : FLies w A l) :
    Calls Try.prog 20 #[.slice A l.length c, .agg #[.int .i64 f.1.1, .int .i64 f.1.2, .int .i64 f.2.1, .int .i64 f.2.2]] w (IPost (insT l f) w) := by
  have HA := Lib.hid hA
  have HN := Lib.hid hN
  have HP := Lib.hid hP
  obtain ⟨hK, h1, h2, h3⟩ := ins_spec l f
  have HLt := Lib.hid h1
  have HNl := Lib.hid h2
  have HT := Lib.hid h3
  clear h1 h2 h3 hA hN hP
  generalize insK l f = K at *
  have hb0 := (Below.refl w.heap.size w).alloc (Nat.le_refl _) (.cells #[.int .i64 f.1.1, .int .i64 f.1.2, .int .i64 f.2.1, .int .i64 f.2.2] 34)
  have hy0 := heap_alloc_new w (.cells #[.int .i64 f.1.1, .int .i64 f.1.2, .int .i64 f.2.1, .int .i64 f.2.2] 34)
  have HB0 := Lib.hid hb0
  have HY0 := Lib.hid hy0
  clear hb0 hy0
  go_enter Try.func20, Try.ntmps20
  go_wp2_with fail
  go_loopw [5] (fun v5 wr => ∃ i : Nat, i ≤ K ∧ v5 = .int .i64 i ∧ Below w.heap.size w wr ∧ wr.heap[w.heap.size]? = some (.cells #[.int .i64 f.1.1, .int .i64 f.1.2, .int .i64 f.2.1, .int .i64 f.2.2] 34 (0, 0))) (fun v5 _ => l.length - (intOf v5).toNat)
  case atStart => exact ⟨0, Nat.zero_le _, rfl, HB0.out, HY0.out⟩
  case round =>
    obtain ⟨i, hi, rfl, hB, hY⟩ := hrel
    have HB := Lib.hid hB
    have HY := Lib.hid hY
    have hs := hB.size
    obtain ⟨m0, m1, m2, m3⟩ := cells4p hY
    clear hB hY
    by_cases hi1 : i < l.length
    · obtain ⟨B, o, rfl, hBs, hcs⟩ := (HA.out.below HB.out) (by omega)
      obtain ⟨k0, k1, k2, k3⟩ := hcs i hi1
      clear hcs
      have hd1 : ((i : Nat) < l.length) = True := by simp [hi1]
      by_cases hiK : i < K
      · have hlt := HLt.out i hi1 hiK
        generalize l[i] = g at *
        simp [ltS] at hlt
        by_cases hb : g.2.1 < f.2.1
        · have e1 : decide (g.2.1 < f.2.1) = true := by simpa using hb
          go_wp2_with fail
          go_quiet (fail)
          go_wp2_with fail
          go_roundw
          case rel => exact ⟨i + 1, by omega, by go_num, drewN_below HB.out nq, HY.out⟩
          case measure => simp [intOf]; omega
        · have e1 : decide (g.2.1 < f.2.1) = false := by simpa using hb
          have e2 : (g.2.1 == f.2.1) = true := by simp; omega
          have e3 : decide (g.2.2 < f.2.2) = true := by simp; omega
          go_wp2_with fail
          go_quiet (fail)
          go_wp2_with fail
          go_roundw
          case rel => exact ⟨i + 1, by omega, by go_num, drewN_below HB.out nq, HY.out⟩
          case measure => simp [intOf]; omega
      · obtain rfl : K = i := by omega
        have hlt := HNl.out hi1
        have hcap : K ≤ c := by omega
        generalize l[K] = g at *
        simp [ltS] at hlt
        by_cases hb : g.2.1 = f.2.1
        · have e1 : decide (g.2.1 < f.2.1) = false := by simp; omega
          have e2 : (g.2.1 == f.2.1) = true := by simpa using hb
          have e3 : decide (g.2.2 < f.2.2) = false := by simp; omega
          go_wp2_with fail
          go_quiet (fail)
          obtain ⟨w6, hw6⟩ : ∃ w6, w6 = wr.drewN nq := ⟨_, rfl⟩
          go_wp2_with fail
          rw [← hw6]
          have HB6 : Hid (Below w.heap.size w w6) := Lib.hid (by rw [hw6]; exact drewN_below HB.out nq)
          have HY6 : Hid (w6.heap[w.heap.size]? = some (.cells #[.int .i64 f.1.1, .int .i64 f.1.2, .int .i64 f.2.1, .int .i64 f.2.2] 34 (0, 0))) := Lib.hid (by rw [hw6]; exact HY.out)
          have hs6 := lt_size HY6.out
          have hs7 := HB6.out.size
          have HA6 := Lib.hid (HA.out.below HB6.out)
          clear hw6 m0 m1 m2 m3 HB HY hs
          obtain ⟨m0, m1, m2, m3⟩ := cells4p HY6.out
          have HBa : Hid (Below w6.heap.size w6 (w6.alloc (.cells #[] 34)).drew) := Lib.hid ((Below.refl _ _).alloc (Nat.le_refl _) _).drew
          have HBb : Hid (Below w6.heap.size w6 ((w6.alloc (.cells #[] 34)).alloc (.cells #[.int .i64 f.1.1, .int .i64 f.1.2, .int .i64 f.2.1, .int .i64 f.2.2] 34)).drew) := Lib.hid (((Below.refl _ _).alloc (Nat.le_refl _) _).alloc (by simp) _).drew
          have HBc : Hid (Below w6.heap.size w6 ((w6.alloc (.cells #[.int .i64 f.1.1, .int .i64 f.1.2, .int .i64 f.2.1, .int .i64 f.2.2] 34)).alloc (.cells #[] 34)).drew) := Lib.hid (((Below.refl _ _).alloc (Nat.le_refl _) _).alloc (by simp) _).drew
          have HYa : Hid ((w6.alloc (.cells #[] 34)).heap[w.heap.size]? = some (.cells #[.int .i64 f.1.1, .int .i64 f.1.2, .int .i64 f.2.1, .int .i64 f.2.2] 34 (0, 0))) := Lib.hid ((((Below.refl _ _).alloc (Nat.le_refl _) _).block _ hs6).trans HY6.out)
          obtain ⟨a0, a1, a2, a3⟩ := cells4p HYa.out
          have HOa : Hid (FOwn (w6.alloc (.cells #[] 34)).drew w6.heap.size (.slice (some ⟨w6.heap.size, 0, none⟩) 0 0) []) := Lib.hid (World.ownsRow.drew (fown_lit w6 w6.heap.size (Nat.le_refl _)))
          have HOb : Hid (FOwn ((w6.alloc (.cells #[] 34)).alloc (.cells #[.int .i64 f.1.1, .int .i64 f.1.2, .int .i64 f.2.1, .int .i64 f.2.2] 34)).drew w6.heap.size (.slice (some ⟨w6.heap.size, 0, none⟩) 0 0) []) := Lib.hid (World.ownsRow.drew (World.ownsRow.alloc (fown_lit w6 w6.heap.size (Nat.le_refl _)) _))
          have HOc : Hid (FOwn ((w6.alloc (.cells #[.int .i64 f.1.1, .int .i64 f.1.2, .int .i64 f.2.1, .int .i64 f.2.2] 34)).alloc (.cells #[] 34)).drew w6.heap.size (.slice (some ⟨w6.heap.size + 1, 0, none⟩) 0 0) []) := Lib.hid (by
            have := World.ownsRow.drew (fown_lit (w6.alloc (.cells #[.int .i64 f.1.1, .int .i64 f.1.2, .int .i64 f.2.1, .int .i64 f.2.2] 34)) w6.heap.size (by simp))
            unfold FOwn
            simpa using this)
          have HXb : Hid (FLies ((w6.alloc (.cells #[] 34)).alloc (.cells #[.int .i64 f.1.1, .int .i64 f.1.2, .int .i64 f.2.1, .int .i64 f.2.2] 34)).drew (some ⟨w6.heap.size + 1, 0, none⟩) [f]) := Lib.hid ((fown_one_at (w6.alloc (.cells #[] 34)) f (by simp)).below (Below.drew (Below.refl _ _)))
          have HXc : Hid (FLies ((w6.alloc (.cells #[.int .i64 f.1.1, .int .i64 f.1.2, .int .i64 f.2.1, .int .i64 f.2.2] 34)).alloc (.cells #[] 34)).drew (some ⟨w6.heap.size, 0, none⟩) [f]) := Lib.hid ((fown_one_at w6 f rfl).below (((Below.refl _ _).alloc (by simp) _).drew))
          have HTK := Lib.hid (HA6.out.take K)
          have HDK := Lib.hid (HA6.out.drop K)
          have hlt : (l.take K).length = K := by simp; omega
          have hld : (l.drop K).length = l.length - K := by simp
          generalize l.take K = T1 at *
          generalize l.drop K = T2 at *
          go_region_law (first
            | (refine step_fapp (by rfl) (.tmp 48) (.tmp 51) (by rfl) w6.heap.size (.slice (some ⟨w6.heap.size, 0, none⟩) 0 0) 0 [] (K) (T1) (some ⟨B, o, none⟩) (c) (by rfl) (by rfl) rfl (hlt) HOa.out ((HTK.out).below HBa.out) (by intro h; cases h) (by omega) (by first | (simp; done) | (simp; omega)) ?_; intro q3 cap3 w7 hown hgr; have HO7 : Hid (FOwn w7 w6.heap.size (.slice q3 (K) cap3) (T1)) := Lib.hid (by simpa using hown); have HB7 := Lib.hid (HOa.out.grown HBa.out hgr (by first | (simp; done) | (simp; omega))); have hs8 := HB7.out.size; have HX8 : Hid (FLies (w7.alloc (.cells #[.int .i64 f.1.1, .int .i64 f.1.2, .int .i64 f.2.1, .int .i64 f.2.2] 34)) (some ⟨w7.heap.size, 0, none⟩) [f]) := Lib.hid (fown_one_at w7 f rfl); have HO8 : Hid (FOwn (w7.alloc (.cells #[.int .i64 f.1.1, .int .i64 f.1.2, .int .i64 f.2.1, .int .i64 f.2.2] 34)) w6.heap.size (.slice q3 K cap3) T1) := Lib.hid (World.ownsRow.alloc HO7.out _); have HB8 : Hid (Below w6.heap.size w6 (w7.alloc (.cells #[.int .i64 f.1.1, .int .i64 f.1.2, .int .i64 f.2.1, .int .i64 f.2.2] 34))) := Lib.hid (HB7.out.alloc hs8 _); have HY7 := Lib.hid ((HB7.out.block _ hs6).trans HY6.out); obtain ⟨n0, n1, n2, n3⟩ := cells4p HY7.out; clear hown hgr)
            | (refine step_fapp (by rfl) (.tmp 48) (.tmp 51) (by rfl) w6.heap.size (.slice (some ⟨w6.heap.size, 0, none⟩) 0 0) 0 [] (K) (T1) (some ⟨B, o, none⟩) (c) (by rfl) (by rfl) rfl (hlt) HOb.out ((HTK.out).below HBb.out) (by intro h; cases h) (by omega) (by first | (simp; done) | (simp; omega)) ?_; intro q3 cap3 w7 hown hgr; have HO7 : Hid (FOwn w7 w6.heap.size (.slice q3 (K) cap3) (T1)) := Lib.hid (by simpa using hown); have HB7 := Lib.hid (HOb.out.grown HBb.out hgr (by first | (simp; done) | (simp; omega))); have hs8 := HB7.out.size; have HX8 := Lib.hid (flies_grown HXb.out hgr (by simp [Value.ownBlock])); clear hown hgr)
            | (refine step_fapp (by rfl) (.tmp 48) (.tmp 51) (by rfl) w6.heap.size (.slice (some ⟨w6.heap.size + 1, 0, none⟩) 0 0) 0 [] (K) (T1) (some ⟨B, o, none⟩) (c) (by rfl) (by rfl) rfl (hlt) HOc.out ((HTK.out).below HBc.out) (by intro h; cases h) (by omega) (by first | (simp; done) | (simp; omega)) ?_; intro q3 cap3 w7 hown hgr; have HO7 : Hid (FOwn w7 w6.heap.size (.slice q3 (K) cap3) (T1)) := Lib.hid (by simpa using hown); have HB7 := Lib.hid (HOc.out.grown HBc.out hgr (by first | (simp; done) | (simp; omega))); have hs8 := HB7.out.size; have HX8 := Lib.hid (flies_grown HXc.out hgr (by simp [Value.ownBlock])); clear hown hgr)
            | (refine step_fapp (by rfl) (.tmp 52) (.tmp 54) (by rfl) w6.heap.size (.slice q3 (K) cap3) (K) (T1) 1 [f] (some ⟨w7.heap.size, 0, none⟩) 1 (by rfl) (by rfl) (hlt) rfl HO8.out HX8.out (by intro h; cases h) (by omega) (by first | omega | (simp; omega)) ?_; intro q4 cap4 w9 hown hgr; have HO9 := Lib.hid hown; have HB9 := Lib.hid (HO8.out.grown HB8.out hgr (by first | omega | (simp; omega))); have HD9 := Lib.hid (HDK.out.below HB9.out); have hs9 := HB9.out.size; clear hown hgr)
            | (refine step_fapp (by rfl) (.tmp 52) (.tmp 54) (by rfl) w6.heap.size (.slice q3 (K) cap3) (K) (T1) 1 [f] (some ⟨w6.heap.size + 1, 0, none⟩) 1 (by rfl) (by rfl) (hlt) rfl HO7.out HX8.out (by intro h; cases h) (by omega) (by first | omega | (simp; omega)) ?_; intro q4 cap4 w9 hown hgr; have HO9 := Lib.hid hown; have HB9 := Lib.hid (HO7.out.grown HB7.out hgr (by first | omega | (simp; omega))); have HD9 := Lib.hid (HDK.out.below HB9.out); have hs9 := HB9.out.size; clear hown hgr)
            | (refine step_fapp (by rfl) (.tmp 52) (.tmp 54) (by rfl) w6.heap.size (.slice q3 (K) cap3) (K) (T1) 1 [f] (some ⟨w6.heap.size, 0, none⟩) 1 (by rfl) (by rfl) (hlt) rfl HO7.out HX8.out (by intro h; cases h) (by omega) (by first | omega | (simp; omega)) ?_; intro q4 cap4 w9 hown hgr; have HO9 := Lib.hid hown; have HB9 := Lib.hid (HO7.out.grown HB7.out hgr (by first | omega | (simp; omega))); have HD9 := Lib.hid (HDK.out.below HB9.out); have hs9 := HB9.out.size; clear hown hgr)
            | (refine step_fapp (by rfl) (.tmp 55) (.tmp 58) (by rfl) w6.heap.size (.slice q4 (K + 1) cap4) (K + 1) (T1 ++ [f]) (l.length - K) (T2) (some ⟨B, o + K * 4, none⟩) (c - K) (by rfl) (by first | rfl | (go_simp; done) | (go_simp; intro h; omega)) (by simp; omega) (hld) HO9.out HD9.out (by intro h; cases h) (by first | omega | (simp; omega)) (by first | omega | (simp; omega)) ?_; intro q5 cap5 w10 hown hgr; have HO10 := Lib.hid hown; have HB10 := Lib.hid (HO9.out.grown HB9.out hgr (by first | omega | (simp; omega))); clear hown hgr))
          all_goals
            go_wp2_with fail
            go_ret
            exact ins_end HO10.out HB10.out HB6.out (HT.out.trans (by simp)) (by simp; first | done | omega)
        · have e1 : decide (g.2.1 < f.2.1) = false := by simp; omega
          have e2 : (g.2.1 == f.2.1) = false := by simpa using hb
          go_wp2_with fail
          go_quiet (fail)
          obtain ⟨w6, hw6⟩ : ∃ w6, w6 = wr.drewN nq := ⟨_, rfl⟩
          go_wp2_with fail
          rw [← hw6]
          have HB6 : Hid (Below w.heap.size w w6) := Lib.hid (by rw [hw6]; exact drewN_below HB.out nq)
          have HY6 : Hid (w6.heap[w.heap.size]? = some (.cells #[.int .i64 f.1.1, .int .i64 f.1.2, .int .i64 f.2.1, .int .i64 f.2.2] 34 (0, 0))) := Lib.hid (by rw [hw6]; exact HY.out)
          have hs6 := lt_size HY6.out
          have hs7 := HB6.out.size
          have HA6 := Lib.hid (HA.out.below HB6.out)
          clear hw6 m0 m1 m2 m3 HB HY hs
          obtain ⟨m0, m1, m2, m3⟩ := cells4p HY6.out
          have HBa : Hid (Below w6.heap.size w6 (w6.alloc (.cells #[] 34)).drew) := Lib.hid ((Below.refl _ _).alloc (Nat.le_refl _) _).drew
          have HBb : Hid (Below w6.heap.size w6 ((w6.alloc (.cells #[] 34)).alloc (.cells #[.int .i64 f.1.1, .int .i64 f.1.2, .int .i64 f.2.1, .int .i64 f.2.2] 34)).drew) := Lib.hid (((Below.refl _ _).alloc (Nat.le_refl _) _).alloc (by simp) _).drew
          have HBc : Hid (Below w6.heap.size w6 ((w6.alloc (.cells #[.int .i64 f.1.1, .int .i64 f.1.2, .int .i64 f.2.1, .int .i64 f.2.2] 34)).alloc (.cells #[] 34)).drew) := Lib.hid (((Below.refl _ _).alloc (Nat.le_refl _) _).alloc (by simp) _).drew
          have HYa : Hid ((w6.alloc (.cells #[] 34)).heap[w.heap.size]? = some (.cells #[.int .i64 f.1.1, .int .i64 f.1.2, .int .i64 f.2.1, .int .i64 f.2.2] 34 (0, 0))) := Lib.hid ((((Below.refl _ _).alloc (Nat.le_refl _) _).block _ hs6).trans HY6.out)
          obtain ⟨a0, a1, a2, a3⟩ := cells4p HYa.out
          have HOa : Hid (FOwn (w6.alloc (.cells #[] 34)).drew w6.heap.size (.slice (some ⟨w6.heap.size, 0, none⟩) 0 0) []) := Lib.hid (World.ownsRow.drew (fown_lit w6 w6.heap.size (Nat.le_refl _)))
          have HOb : Hid (FOwn ((w6.alloc (.cells #[] 34)).alloc (.cells #[.int .i64 f.1.1, .int .i64 f.1.2, .int .i64 f.2.1, .int .i64 f.2.2] 34)).drew w6.heap.size (.slice (some ⟨w6.heap.size, 0, none⟩) 0 0) []) := Lib.hid (World.ownsRow.drew (World.ownsRow.alloc (fown_lit w6 w6.heap.size (Nat.le_refl _)) _))
          have HOc : Hid (FOwn ((w6.alloc (.cells #[.int .i64 f.1.1, .int .i64 f.1.2, .int .i64 f.2.1, .int .i64 f.2.2] 34)).alloc (.cells #[] 34)).drew w6.heap.size (.slice (some ⟨w6.heap.size + 1, 0, none⟩) 0 0) []) := Lib.hid (by
            have := World.ownsRow.drew (fown_lit (w6.alloc (.cells #[.int .i64 f.1.1, .int .i64 f.1.2, .int .i64 f.2.1, .int .i64 f.2.2] 34)) w6.heap.size (by simp))
            unfold FOwn
            simpa using this)
          have HXb : Hid (FLies ((w6.alloc (.cells #[] 34)).alloc (.cells #[.int .i64 f.1.1, .int .i64 f.1.2, .int .i64 f.2.1, .int .i64 f.2.2] 34)).drew (some ⟨w6.heap.size + 1, 0, none⟩) [f]) := Lib.hid ((fown_one_at (w6.alloc (.cells #[] 34)) f (by simp)).below (Below.drew (Below.refl _ _)))
          have HXc : Hid (FLies ((w6.alloc (.cells #[.int .i64 f.1.1, .int .i64 f.1.2, .int .i64 f.2.1, .int .i64 f.2.2] 34)).alloc (.cells #[] 34)).drew (some ⟨w6.heap.size, 0, none⟩) [f]) := Lib.hid ((fown_one_at w6 f rfl).below (((Below.refl _ _).alloc (by simp) _).drew))
          have HTK := Lib.hid (HA6.out.take K)
          have HDK := Lib.hid (HA6.out.drop K)
          have hlt : (l.take K).length = K := by simp; omega
          have hld : (l.drop K).length = l.length - K := by simp
          generalize l.take K = T1 at *
          generalize l.drop K = T2 at *
          go_region_law (first
            | (refine step_fapp (by rfl) (.tmp 48) (.tmp 51) (by rfl) w6.heap.size (.slice (some ⟨w6.heap.size, 0, none⟩) 0 0) 0 [] (K) (T1) (some ⟨B, o, none⟩) (c) (by rfl) (by rfl) rfl (hlt) HOa.out ((HTK.out).below HBa.out) (by intro h; cases h) (by omega) (by first | (simp; done) | (simp; omega)) ?_; intro q3 cap3 w7 hown hgr; have HO7 : Hid (FOwn w7 w6.heap.size (.slice q3 (K) cap3) (T1)) := Lib.hid (by simpa using hown); have HB7 := Lib.hid (HOa.out.grown HBa.out hgr (by first | (simp; done) | (simp; omega))); have hs8 := HB7.out.size; have HX8 : Hid (FLies (w7.alloc (.cells #[.int .i64 f.1.1, .int .i64 f.1.2, .int .i64 f.2.1, .int .i64 f.2.2] 34)) (some ⟨w7.heap.size, 0, none⟩) [f]) := Lib.hid (fown_one_at w7 f rfl); have HO8 : Hid (FOwn (w7.alloc (.cells #[.int .i64 f.1.1, .int .i64 f.1.2, .int .i64 f.2.1, .int .i64 f.2.2] 34)) w6.heap.size (.slice q3 K cap3) T1) := Lib.hid (World.ownsRow.alloc HO7.out _); have HB8 : Hid (Below w6.heap.size w6 (w7.alloc (.cells #[.int .i64 f.1.1, .int .i64 f.1.2, .int .i64 f.2.1, .int .i64 f.2.2] 34))) := Lib.hid (HB7.out.alloc hs8 _); have HY7 := Lib.hid ((HB7.out.block _ hs6).trans HY6.out); obtain ⟨n0, n1, n2, n3⟩ := cells4p HY7.out; clear hown hgr)
            | (refine step_fapp (by rfl) (.tmp 48) (.tmp 51) (by rfl) w6.heap.size (.slice (some ⟨w6.heap.size, 0, none⟩) 0 0) 0 [] (K) (T1) (some ⟨B, o, none⟩) (c) (by rfl) (by rfl) rfl (hlt) HOb.out ((HTK.out).below HBb.out) (by intro h; cases h) (by omega) (by first | (simp; done) | (simp; omega)) ?_; intro q3 cap3 w7 hown hgr; have HO7 : Hid (FOwn w7 w6.heap.size (.slice q3 (K) cap3) (T1)) := Lib.hid (by simpa using hown); have HB7 := Lib.hid (HOb.out.grown HBb.out hgr (by first | (simp; done) | (simp; omega))); have hs8 := HB7.out.size; have HX8 := Lib.hid (flies_grown HXb.out hgr (by simp [Value.ownBlock])); clear hown hgr)
            | (refine step_fapp (by rfl) (.tmp 48) (.tmp 51) (by rfl) w6.heap.size (.slice (some ⟨w6.heap.size + 1, 0, none⟩) 0 0) 0 [] (K) (T1) (some ⟨B, o, none⟩) (c) (by rfl) (by rfl) rfl (hlt) HOc.out ((HTK.out).below HBc.out) (by intro h; cases h) (by omega) (by first | (simp; done) | (simp; omega)) ?_; intro q3 cap3 w7 hown hgr; have HO7 : Hid (FOwn w7 w6.heap.size (.slice q3 (K) cap3) (T1)) := Lib.hid (by simpa using hown); have HB7 := Lib.hid (HOc.out.grown HBc.out hgr (by first | (simp; done) | (simp; omega))); have hs8 := HB7.out.size; have HX8 := Lib.hid (flies_grown HXc.out hgr (by simp [Value.ownBlock])); clear hown hgr)
            | (refine step_fapp (by rfl) (.tmp 52) (.tmp 54) (by rfl) w6.heap.size (.slice q3 (K) cap3) (K) (T1) 1 [f] (some ⟨w7.heap.size, 0, none⟩) 1 (by rfl) (by rfl) (hlt) rfl HO8.out HX8.out (by intro h; cases h) (by omega) (by first | omega | (simp; omega)) ?_; intro q4 cap4 w9 hown hgr; have HO9 := Lib.hid hown; have HB9 := Lib.hid (HO8.out.grown HB8.out hgr (by first | omega | (simp; omega))); have HD9 := Lib.hid (HDK.out.below HB9.out); have hs9 := HB9.out.size; clear hown hgr)
            | (refine step_fapp (by rfl) (.tmp 52) (.tmp 54) (by rfl) w6.heap.size (.slice q3 (K) cap3) (K) (T1) 1 [f] (some ⟨w6.heap.size + 1, 0, none⟩) 1 (by rfl) (by rfl) (hlt) rfl HO7.out HX8.out (by intro h; cases h) (by omega) (by first | omega | (simp; omega)) ?_; intro q4 cap4 w9 hown hgr; have HO9 := Lib.hid hown; have HB9 := Lib.hid (HO7.out.grown HB7.out hgr (by first | omega | (simp; omega))); have HD9 := Lib.hid (HDK.out.below HB9.out); have hs9 := HB9.out.size; clear hown hgr)
            | (refine step_fapp (by rfl) (.tmp 52) (.tmp 54) (by rfl) w6.heap.size (.slice q3 (K) cap3) (K) (T1) 1 [f] (some ⟨w6.heap.size, 0, none⟩) 1 (by rfl) (by rfl) (hlt) rfl HO7.out HX8.out (by intro h; cases h) (by omega) (by first | omega | (simp; omega)) ?_; intro q4 cap4 w9 hown hgr; have HO9 := Lib.hid hown; have HB9 := Lib.hid (HO7.out.grown HB7.out hgr (by first | omega | (simp; omega))); have HD9 := Lib.hid (HDK.out.below HB9.out); have hs9 := HB9.out.size; clear hown hgr)
            | (refine step_fapp (by rfl) (.tmp 55) (.tmp 58) (by rfl) w6.heap.size (.slice q4 (K + 1) cap4) (K + 1) (T1 ++ [f]) (l.length - K) (T2) (some ⟨B, o + K * 4, none⟩) (c - K) (by rfl) (by first | rfl | (go_simp; done) | (go_simp; intro h; omega)) (by simp; omega) (hld) HO9.out HD9.out (by intro h; cases h) (by first | omega | (simp; omega)) (by first | omega | (simp; omega)) ?_; intro q5 cap5 w10 hown hgr; have HO10 := Lib.hid hown; have HB10 := Lib.hid (HO9.out.grown HB9.out hgr (by first | omega | (simp; omega))); clear hown hgr))
          all_goals
            go_wp2_with fail
            go_ret
            exact ins_end HO10.out HB10.out HB6.out (HT.out.trans (by simp)) (by simp; first | done | omega)
    · obtain rfl : K = i := by omega
      cases A with
      | none =>
        obtain ⟨rfl, rfl⟩ := HN.out rfl
        obtain rfl : K = 0 := by simpa using hK
        go_wp2_with fail
        go_quiet (fail)
        obtain ⟨w6, hw6⟩ : ∃ w6, w6 = wr.drewN nq := ⟨_, rfl⟩
        go_wp2_with fail
        rw [← hw6]
        have HB6 : Hid (Below w.heap.size w w6) := Lib.hid (by rw [hw6]; exact drewN_below HB.out nq)
        have HY6 : Hid (w6.heap[w.heap.size]? = some (.cells #[.int .i64 f.1.1, .int .i64 f.1.2, .int .i64 f.2.1, .int .i64 f.2.2] 34 (0, 0))) := Lib.hid (by rw [hw6]; exact HY.out)
        have hs6 := lt_size HY6.out
        have hs7 := HB6.out.size
        have HA6 := Lib.hid (HA.out.below HB6.out)
        clear hw6 m0 m1 m2 m3 HB HY hs
        obtain ⟨m0, m1, m2, m3⟩ := cells4p HY6.out
        have HBa : Hid (Below w6.heap.size w6 (w6.alloc (.cells #[] 34)).drew) := Lib.hid ((Below.refl _ _).alloc (Nat.le_refl _) _).drew
        have HBb : Hid (Below w6.heap.size w6 ((w6.alloc (.cells #[] 34)).alloc (.cells #[.int .i64 f.1.1, .int .i64 f.1.2, .int .i64 f.2.1, .int .i64 f.2.2] 34)).drew) := Lib.hid (((Below.refl _ _).alloc (Nat.le_refl _) _).alloc (by simp) _).drew
        have HBc : Hid (Below w6.heap.size w6 ((w6.alloc (.cells #[.int .i64 f.1.1, .int .i64 f.1.2, .int .i64 f.2.1, .int .i64 f.2.2] 34)).alloc (.cells #[] 34)).drew) := Lib.hid (((Below.refl _ _).alloc (Nat.le_refl _) _).alloc (by simp) _).drew
        have HYa : Hid ((w6.alloc (.cells #[] 34)).heap[w.heap.size]? = some (.cells #[.int .i64 f.1.1, .int .i64 f.1.2, .int .i64 f.2.1, .int .i64 f.2.2] 34 (0, 0))) := Lib.hid ((((Below.refl _ _).alloc (Nat.le_refl _) _).block _ hs6).trans HY6.out)
        obtain ⟨a0, a1, a2, a3⟩ := cells4p HYa.out
        have HOa : Hid (FOwn (w6.alloc (.cells #[] 34)).drew w6.heap.size (.slice (some ⟨w6.heap.size, 0, none⟩) 0 0) []) := Lib.hid (World.ownsRow.drew (fown_lit w6 w6.heap.size (Nat.le_refl _)))
        have HOb : Hid (FOwn ((w6.alloc (.cells #[] 34)).alloc (.cells #[.int .i64 f.1.1, .int .i64 f.1.2, .int .i64 f.2.1, .int .i64 f.2.2] 34)).drew w6.heap.size (.slice (some ⟨w6.heap.size, 0, none⟩) 0 0) []) := Lib.hid (World.ownsRow.drew (World.ownsRow.alloc (fown_lit w6 w6.heap.size (Nat.le_refl _)) _))
        have HOc : Hid (FOwn ((w6.alloc (.cells #[.int .i64 f.1.1, .int .i64 f.1.2, .int .i64 f.2.1, .int .i64 f.2.2] 34)).alloc (.cells #[] 34)).drew w6.heap.size (.slice (some ⟨w6.heap.size + 1, 0, none⟩) 0 0) []) := Lib.hid (by
          have := World.ownsRow.drew (fown_lit (w6.alloc (.cells #[.int .i64 f.1.1, .int .i64 f.1.2, .int .i64 f.2.1, .int .i64 f.2.2] 34)) w6.heap.size (by simp))
          unfold FOwn
          simpa using this)
        have HXb : Hid (FLies ((w6.alloc (.cells #[] 34)).alloc (.cells #[.int .i64 f.1.1, .int .i64 f.1.2, .int .i64 f.2.1, .int .i64 f.2.2] 34)).drew (some ⟨w6.heap.size + 1, 0, none⟩) [f]) := Lib.hid ((fown_one_at (w6.alloc (.cells #[] 34)) f (by simp)).below (Below.drew (Below.refl _ _)))
        have HXc : Hid (FLies ((w6.alloc (.cells #[.int .i64 f.1.1, .int .i64 f.1.2, .int .i64 f.2.1, .int .i64 f.2.2] 34)).alloc (.cells #[] 34)).drew (some ⟨w6.heap.size, 0, none⟩) [f]) := Lib.hid ((fown_one_at w6 f rfl).below (((Below.refl _ _).alloc (by simp) _).drew))
        have HTK : Hid (FLies w6 none ([] : List Fd)) := Lib.hid (fun h => absurd h (Nat.lt_irrefl _))
        have HDK := HTK
        go_region_law (first
          | (refine step_fapp (by rfl) (.tmp 48) (.tmp 51) (by rfl) w6.heap.size (.slice (some ⟨w6.heap.size, 0, none⟩) 0 0) 0 [] (0) ([]) (none) (0) (by rfl) (by rfl) rfl rfl HOa.out ((HTK.out).below HBa.out) (by intro _; exact ⟨rfl, rfl⟩) (by omega) (by first | (simp; done) | (simp; omega)) ?_; intro q3 cap3 w7 hown hgr; have HO7 : Hid (FOwn w7 w6.heap.size (.slice q3 (0) cap3) ([])) := Lib.hid (by simpa using hown); have HB7 := Lib.hid (HOa.out.grown HBa.out hgr (by first | (simp; done) | (simp; omega))); have hs8 := HB7.out.size; have HX8 : Hid (FLies (w7.alloc (.cells #[.int .i64 f.1.1, .int .i64 f.1.2, .int .i64 f.2.1, .int .i64 f.2.2] 34)) (some ⟨w7.heap.size, 0, none⟩) [f]) := Lib.hid (fown_one_at w7 f rfl); have HO8 : Hid (FOwn (w7.alloc (.cells #[.int .i64 f.1.1, .int .i64 f.1.2, .int .i64 f.2.1, .int .i64 f.2.2] 34)) w6.heap.size (.slice q3 0 cap3) []) := Lib.hid (World.ownsRow.alloc HO7.out _); have HB8 : Hid (Below w6.heap.size w6 (w7.alloc (.cells #[.int .i64 f.1.1, .int .i64 f.1.2, .int .i64 f.2.1, .int .i64 f.2.2] 34))) := Lib.hid (HB7.out.alloc hs8 _); have HY7 := Lib.hid ((HB7.out.block _ hs6).trans HY6.out); obtain ⟨n0, n1, n2, n3⟩ := cells4p HY7.out; clear hown hgr)
          | (refine step_fapp (by rfl) (.tmp 48) (.tmp 51) (by rfl) w6.heap.size (.slice (some ⟨w6.heap.size, 0, none⟩) 0 0) 0 [] (0) ([]) (none) (0) (by rfl) (by rfl) rfl rfl HOb.out ((HTK.out).below HBb.out) (by intro _; exact ⟨rfl, rfl⟩) (by omega) (by first | (simp; done) | (simp; omega)) ?_; intro q3 cap3 w7 hown hgr; have HO7 : Hid (FOwn w7 w6.heap.size (.slice q3 (0) cap3) ([])) := Lib.hid (by simpa using hown); have HB7 := Lib.hid (HOb.out.grown HBb.out hgr (by first | (simp; done) | (simp; omega))); have hs8 := HB7.out.size; have HX8 := Lib.hid (flies_grown HXb.out hgr (by simp [Value.ownBlock])); clear hown hgr)
          | (refine step_fapp (by rfl) (.tmp 48) (.tmp 51) (by rfl) w6.heap.size (.slice (some ⟨w6.heap.size + 1, 0, none⟩) 0 0) 0 [] (0) ([]) (none) (0) (by rfl) (by rfl) rfl rfl HOc.out ((HTK.out).below HBc.out) (by intro _; exact ⟨rfl, rfl⟩) (by omega) (by first | (simp; done) | (simp; omega)) ?_; intro q3 cap3 w7 hown hgr; have HO7 : Hid (FOwn w7 w6.heap.size (.slice q3 (0) cap3) ([])) := Lib.hid (by simpa using hown); have HB7 := Lib.hid (HOc.out.grown HBc.out hgr (by first | (simp; done) | (simp; omega))); have hs8 := HB7.out.size; have HX8 := Lib.hid (flies_grown HXc.out hgr (by simp [Value.ownBlock])); clear hown hgr)
          | (refine step_fapp (by rfl) (.tmp 52) (.tmp 54) (by rfl) w6.heap.size (.slice q3 (0) cap3) (0) ([]) 1 [f] (some ⟨w7.heap.size, 0, none⟩) 1 (by rfl) (by rfl) rfl rfl HO8.out HX8.out (by intro h; cases h) (by omega) (by first | omega | (simp; omega)) ?_; intro q4 cap4 w9 hown hgr; have HO9 := Lib.hid hown; have HB9 := Lib.hid (HO8.out.grown HB8.out hgr (by first | omega | (simp; omega))); have HD9 := Lib.hid (HDK.out.below HB9.out); have hs9 := HB9.out.size; clear hown hgr)
          | (refine step_fapp (by rfl) (.tmp 52) (.tmp 54) (by rfl) w6.heap.size (.slice q3 (0) cap3) (0) ([]) 1 [f] (some ⟨w6.heap.size + 1, 0, none⟩) 1 (by rfl) (by rfl) rfl rfl HO7.out HX8.out (by intro h; cases h) (by omega) (by first | omega | (simp; omega)) ?_; intro q4 cap4 w9 hown hgr; have HO9 := Lib.hid hown; have HB9 := Lib.hid (HO7.out.grown HB7.out hgr (by first | omega | (simp; omega))); have HD9 := Lib.hid (HDK.out.below HB9.out); have hs9 := HB9.out.size; clear hown hgr)
          | (refine step_fapp (by rfl) (.tmp 52) (.tmp 54) (by rfl) w6.heap.size (.slice q3 (0) cap3) (0) ([]) 1 [f] (some ⟨w6.heap.size, 0, none⟩) 1 (by rfl) (by rfl) rfl rfl HO7.out HX8.out (by intro h; cases h) (by omega) (by first | omega | (simp; omega)) ?_; intro q4 cap4 w9 hown hgr; have HO9 := Lib.hid hown; have HB9 := Lib.hid (HO7.out.grown HB7.out hgr (by first | omega | (simp; omega))); have HD9 := Lib.hid (HDK.out.below HB9.out); have hs9 := HB9.out.size; clear hown hgr)
          | (refine step_fapp (by rfl) (.tmp 55) (.tmp 58) (by rfl) w6.heap.size (.slice q4 (0 + 1) cap4) (0 + 1) ([] ++ [f]) (0) ([]) (none) (0) (by rfl) (by first | rfl | (go_simp; done) | (go_simp; intro h; omega)) (by rfl) (by rfl) HO9.out HD9.out (by intro _; exact ⟨rfl, rfl⟩) (by first | omega | (simp; omega)) (by first | omega | (simp; omega)) ?_; intro q5 cap5 w10 hown hgr; have HO10 := Lib.hid hown; have HB10 := Lib.hid (HO9.out.grown HB9.out hgr (by first | omega | (simp; omega))); clear hown hgr))
        all_goals
          go_wp2_with fail
          go_ret
          exact ins_end HO10.out HB10.out HB6.out (HT.out.trans (by simp)) (by simp; first | done | omega)
      | some ad =>
        obtain ⟨B, o, rfl⟩ := HP.out ad rfl
        by_cases hck : c = K
        · obtain rfl : K = c := hck.symm
          go_wp2_with fail
          go_quiet (fail)
          obtain ⟨w6, hw6⟩ : ∃ w6, w6 = wr.drewN nq := ⟨_, rfl⟩
          go_wp2_with fail
          rw [← hw6]
          have HB6 : Hid (Below w.heap.size w w6) := Lib.hid (by rw [hw6]; exact drewN_below HB.out nq)
          have HY6 : Hid (w6.heap[w.heap.size]? = some (.cells #[.int .i64 f.1.1, .int .i64 f.1.2, .int .i64 f.2.1, .int .i64 f.2.2] 34 (0, 0))) := Lib.hid (by rw [hw6]; exact HY.out)
          have hs6 := lt_size HY6.out
          have hs7 := HB6.out.size
          have HA6 := Lib.hid (HA.out.below HB6.out)
          clear hw6 m0 m1 m2 m3 HB HY hs
          obtain ⟨m0, m1, m2, m3⟩ := cells4p HY6.out
          have HBa : Hid (Below w6.heap.size w6 (w6.alloc (.cells #[] 34)).drew) := Lib.hid ((Below.refl _ _).alloc (Nat.le_refl _) _).drew
          have HBb : Hid (Below w6.heap.size w6 ((w6.alloc (.cells #[] 34)).alloc (.cells #[.int .i64 f.1.1, .int .i64 f.1.2, .int .i64 f.2.1, .int .i64 f.2.2] 34)).drew) := Lib.hid (((Below.refl _ _).alloc (Nat.le_refl _) _).alloc (by simp) _).drew
          have HBc : Hid (Below w6.heap.size w6 ((w6.alloc (.cells #[.int .i64 f.1.1, .int .i64 f.1.2, .int .i64 f.2.1, .int .i64 f.2.2] 34)).alloc (.cells #[] 34)).drew) := Lib.hid (((Below.refl _ _).alloc (Nat.le_refl _) _).alloc (by simp) _).drew
          have HYa : Hid ((w6.alloc (.cells #[] 34)).heap[w.heap.size]? = some (.cells #[.int .i64 f.1.1, .int .i64 f.1.2, .int .i64 f.2.1, .int .i64 f.2.2] 34 (0, 0))) := Lib.hid ((((Below.refl _ _).alloc (Nat.le_refl _) _).block _ hs6).trans HY6.out)
          obtain ⟨a0, a1, a2, a3⟩ := cells4p HYa.out
          have HOa : Hid (FOwn (w6.alloc (.cells #[] 34)).drew w6.heap.size (.slice (some ⟨w6.heap.size, 0, none⟩) 0 0) []) := Lib.hid (World.ownsRow.drew (fown_lit w6 w6.heap.size (Nat.le_refl _)))
          have HOb : Hid (FOwn ((w6.alloc (.cells #[] 34)).alloc (.cells #[.int .i64 f.1.1, .int .i64 f.1.2, .int .i64 f.2.1, .int .i64 f.2.2] 34)).drew w6.heap.size (.slice (some ⟨w6.heap.size, 0, none⟩) 0 0) []) := Lib.hid (World.ownsRow.drew (World.ownsRow.alloc (fown_lit w6 w6.heap.size (Nat.le_refl _)) _))
          have HOc : Hid (FOwn ((w6.alloc (.cells #[.int .i64 f.1.1, .int .i64 f.1.2, .int .i64 f.2.1, .int .i64 f.2.2] 34)).alloc (.cells #[] 34)).drew w6.heap.size (.slice (some ⟨w6.heap.size + 1, 0, none⟩) 0 0) []) := Lib.hid (by
            have := World.ownsRow.drew (fown_lit (w6.alloc (.cells #[.int .i64 f.1.1, .int .i64 f.1.2, .int .i64 f.2.1, .int .i64 f.2.2] 34)) w6.heap.size (by simp))
            unfold FOwn
            simpa using this)
          have HXb : Hid (FLies ((w6.alloc (.cells #[] 34)).alloc (.cells #[.int .i64 f.1.1, .int .i64 f.1.2, .int .i64 f.2.1, .int .i64 f.2.2] 34)).drew (some ⟨w6.heap.size + 1, 0, none⟩) [f]) := Lib.hid ((fown_one_at (w6.alloc (.cells #[] 34)) f (by simp)).below (Below.drew (Below.refl _ _)))
          have HXc : Hid (FLies ((w6.alloc (.cells #[.int .i64 f.1.1, .int .i64 f.1.2, .int .i64 f.2.1, .int .i64 f.2.2] 34)).alloc (.cells #[] 34)).drew (some ⟨w6.heap.size, 0, none⟩) [f]) := Lib.hid ((fown_one_at w6 f rfl).below (((Below.refl _ _).alloc (by simp) _).drew))
          have HTK := Lib.hid (HA6.out.take K)
          have HDK : Hid (FLies w6 (some ⟨B, o, none⟩) (l.drop K)) := Lib.hid (fun h => by simp at h; omega)
          have hlt : (l.take K).length = K := by simp; omega
          have hld : (l.drop K).length = l.length - K := by simp
          generalize l.take K = T1 at *
          generalize l.drop K = T2 at *
          go_region_law (first
            | (refine step_fapp (by rfl) (.tmp 48) (.tmp 51) (by rfl) w6.heap.size (.slice (some ⟨w6.heap.size, 0, none⟩) 0 0) 0 [] (K) (T1) (some ⟨B, o, none⟩) (K) (by rfl) (by rfl) rfl (hlt) HOa.out ((HTK.out).below HBa.out) (by intro h; cases h) (by omega) (by first | (simp; done) | (simp; omega)) ?_; intro q3 cap3 w7 hown hgr; have HO7 : Hid (FOwn w7 w6.heap.size (.slice q3 (K) cap3) (T1)) := Lib.hid (by simpa using hown); have HB7 := Lib.hid (HOa.out.grown HBa.out hgr (by first | (simp; done) | (simp; omega))); have hs8 := HB7.out.size; have HX8 : Hid (FLies (w7.alloc (.cells #[.int .i64 f.1.1, .int .i64 f.1.2, .int .i64 f.2.1, .int .i64 f.2.2] 34)) (some ⟨w7.heap.size, 0, none⟩) [f]) := Lib.hid (fown_one_at w7 f rfl); have HO8 : Hid (FOwn (w7.alloc (.cells #[.int .i64 f.1.1, .int .i64 f.1.2, .int .i64 f.2.1, .int .i64 f.2.2] 34)) w6.heap.size (.slice q3 K cap3) T1) := Lib.hid (World.ownsRow.alloc HO7.out _); have HB8 : Hid (Below w6.heap.size w6 (w7.alloc (.cells #[.int .i64 f.1.1, .int .i64 f.1.2, .int .i64 f.2.1, .int .i64 f.2.2] 34))) := Lib.hid (HB7.out.alloc hs8 _); have HY7 := Lib.hid ((HB7.out.block _ hs6).trans HY6.out); obtain ⟨n0, n1, n2, n3⟩ := cells4p HY7.out; clear hown hgr)
            | (refine step_fapp (by rfl) (.tmp 48) (.tmp 51) (by rfl) w6.heap.size (.slice (some ⟨w6.heap.size, 0, none⟩) 0 0) 0 [] (K) (T1) (some ⟨B, o, none⟩) (K) (by rfl) (by rfl) rfl (hlt) HOb.out ((HTK.out).below HBb.out) (by intro h; cases h) (by omega) (by first | (simp; done) | (simp; omega)) ?_; intro q3 cap3 w7 hown hgr; have HO7 : Hid (FOwn w7 w6.heap.size (.slice q3 (K) cap3) (T1)) := Lib.hid (by simpa using hown); have HB7 := Lib.hid (HOb.out.grown HBb.out hgr (by first | (simp; done) | (simp; omega))); have hs8 := HB7.out.size; have HX8 := Lib.hid (flies_grown HXb.out hgr (by simp [Value.ownBlock])); clear hown hgr)
            | (refine step_fapp (by rfl) (.tmp 48) (.tmp 51) (by rfl) w6.heap.size (.slice (some ⟨w6.heap.size + 1, 0, none⟩) 0 0) 0 [] (K) (T1) (some ⟨B, o, none⟩) (K) (by rfl) (by rfl) rfl (hlt) HOc.out ((HTK.out).below HBc.out) (by intro h; cases h) (by omega) (by first | (simp; done) | (simp; omega)) ?_; intro q3 cap3 w7 hown hgr; have HO7 : Hid (FOwn w7 w6.heap.size (.slice q3 (K) cap3) (T1)) := Lib.hid (by simpa using hown); have HB7 := Lib.hid (HOc.out.grown HBc.out hgr (by first | (simp; done) | (simp; omega))); have hs8 := HB7.out.size; have HX8 := Lib.hid (flies_grown HXc.out hgr (by simp [Value.ownBlock])); clear hown hgr)
            | (refine step_fapp (by rfl) (.tmp 52) (.tmp 54) (by rfl) w6.heap.size (.slice q3 (K) cap3) (K) (T1) 1 [f] (some ⟨w7.heap.size, 0, none⟩) 1 (by rfl) (by rfl) (hlt) rfl HO8.out HX8.out (by intro h; cases h) (by omega) (by first | omega | (simp; omega)) ?_; intro q4 cap4 w9 hown hgr; have HO9 := Lib.hid hown; have HB9 := Lib.hid (HO8.out.grown HB8.out hgr (by first | omega | (simp; omega))); have HD9 := Lib.hid (HDK.out.below HB9.out); have hs9 := HB9.out.size; clear hown hgr)
            | (refine step_fapp (by rfl) (.tmp 52) (.tmp 54) (by rfl) w6.heap.size (.slice q3 (K) cap3) (K) (T1) 1 [f] (some ⟨w6.heap.size + 1, 0, none⟩) 1 (by rfl) (by rfl) (hlt) rfl HO7.out HX8.out (by intro h; cases h) (by omega) (by first | omega | (simp; omega)) ?_; intro q4 cap4 w9 hown hgr; have HO9 := Lib.hid hown; have HB9 := Lib.hid (HO7.out.grown HB7.out hgr (by first | omega | (simp; omega))); have HD9 := Lib.hid (HDK.out.below HB9.out); have hs9 := HB9.out.size; clear hown hgr)
            | (refine step_fapp (by rfl) (.tmp 52) (.tmp 54) (by rfl) w6.heap.size (.slice q3 (K) cap3) (K) (T1) 1 [f] (some ⟨w6.heap.size, 0, none⟩) 1 (by rfl) (by rfl) (hlt) rfl HO7.out HX8.out (by intro h; cases h) (by omega) (by first | omega | (simp; omega)) ?_; intro q4 cap4 w9 hown hgr; have HO9 := Lib.hid hown; have HB9 := Lib.hid (HO7.out.grown HB7.out hgr (by first | omega | (simp; omega))); have HD9 := Lib.hid (HDK.out.below HB9.out); have hs9 := HB9.out.size; clear hown hgr)
            | (refine step_fapp (by rfl) (.tmp 55) (.tmp 58) (by rfl) w6.heap.size (.slice q4 (K + 1) cap4) (K + 1) (T1 ++ [f]) (l.length - K) (T2) (some ⟨B, o, none⟩) (0) (by rfl) (by first | rfl | (go_simp; done) | (go_simp; intro h; omega)) (by simp; omega) (hld) HO9.out HD9.out (by intro h; cases h) (by first | omega | (simp; omega)) (by first | omega | (simp; omega)) ?_; intro q5 cap5 w10 hown hgr; have HO10 := Lib.hid hown; have HB10 := Lib.hid (HO9.out.grown HB9.out hgr (by first | omega | (simp; omega))); clear hown hgr))
          all_goals
            go_wp2_with fail
            go_ret
            exact ins_end HO10.out HB10.out HB6.out (HT.out.trans (by simp)) (by simp; first | done | omega)
        · have hcap : K ≤ c := by omega
          go_wp2_with fail
          go_quiet (fail)
          obtain ⟨w6, hw6⟩ : ∃ w6, w6 = wr.drewN nq := ⟨_, rfl⟩
          go_wp2_with fail
          rw [← hw6]
          have HB6 : Hid (Below w.heap.size w w6) := Lib.hid (by rw [hw6]; exact drewN_below HB.out nq)
          have HY6 : Hid (w6.heap[w.heap.size]? = some (.cells #[.int .i64 f.1.1, .int .i64 f.1.2, .int .i64 f.2.1, .int .i64 f.2.2] 34 (0, 0))) := Lib.hid (by rw [hw6]; exact HY.out)
          have hs6 := lt_size HY6.out
          have hs7 := HB6.out.size
          have HA6 := Lib.hid (HA.out.below HB6.out)
          clear hw6 m0 m1 m2 m3 HB HY hs
          obtain ⟨m0, m1, m2, m3⟩ := cells4p HY6.out
          have HBa : Hid (Below w6.heap.size w6 (w6.alloc (.cells #[] 34)).drew) := Lib.hid ((Below.refl _ _).alloc (Nat.le_refl _) _).drew
          have HBb : Hid (Below w6.heap.size w6 ((w6.alloc (.cells #[] 34)).alloc (.cells #[.int .i64 f.1.1, .int .i64 f.1.2, .int .i64 f.2.1, .int .i64 f.2.2] 34)).drew) := Lib.hid (((Below.refl _ _).alloc (Nat.le_refl _) _).alloc (by simp) _).drew
          have HBc : Hid (Below w6.heap.size w6 ((w6.alloc (.cells #[.int .i64 f.1.1, .int .i64 f.1.2, .int .i64 f.2.1, .int .i64 f.2.2] 34)).alloc (.cells #[] 34)).drew) := Lib.hid (((Below.refl _ _).alloc (Nat.le_refl _) _).alloc (by simp) _).drew
          have HYa : Hid ((w6.alloc (.cells #[] 34)).heap[w.heap.size]? = some (.cells #[.int .i64 f.1.1, .int .i64 f.1.2, .int .i64 f.2.1, .int .i64 f.2.2] 34 (0, 0))) := Lib.hid ((((Below.refl _ _).alloc (Nat.le_refl _) _).block _ hs6).trans HY6.out)
          obtain ⟨a0, a1, a2, a3⟩ := cells4p HYa.out
          have HOa : Hid (FOwn (w6.alloc (.cells #[] 34)).drew w6.heap.size (.slice (some ⟨w6.heap.size, 0, none⟩) 0 0) []) := Lib.hid (World.ownsRow.drew (fown_lit w6 w6.heap.size (Nat.le_refl _)))
          have HOb : Hid (FOwn ((w6.alloc (.cells #[] 34)).alloc (.cells #[.int .i64 f.1.1, .int .i64 f.1.2, .int .i64 f.2.1, .int .i64 f.2.2] 34)).drew w6.heap.size (.slice (some ⟨w6.heap.size, 0, none⟩) 0 0) []) := Lib.hid (World.ownsRow.drew (World.ownsRow.alloc (fown_lit w6 w6.heap.size (Nat.le_refl _)) _))
          have HOc : Hid (FOwn ((w6.alloc (.cells #[.int .i64 f.1.1, .int .i64 f.1.2, .int .i64 f.2.1, .int .i64 f.2.2] 34)).alloc (.cells #[] 34)).drew w6.heap.size (.slice (some ⟨w6.heap.size + 1, 0, none⟩) 0 0) []) := Lib.hid (by
            have := World.ownsRow.drew (fown_lit (w6.alloc (.cells #[.int .i64 f.1.1, .int .i64 f.1.2, .int .i64 f.2.1, .int .i64 f.2.2] 34)) w6.heap.size (by simp))
            unfold FOwn
            simpa using this)
          have HXb : Hid (FLies ((w6.alloc (.cells #[] 34)).alloc (.cells #[.int .i64 f.1.1, .int .i64 f.1.2, .int .i64 f.2.1, .int .i64 f.2.2] 34)).drew (some ⟨w6.heap.size + 1, 0, none⟩) [f]) := Lib.hid ((fown_one_at (w6.alloc (.cells #[] 34)) f (by simp)).below (Below.drew (Below.refl _ _)))
          have HXc : Hid (FLies ((w6.alloc (.cells #[.int .i64 f.1.1, .int .i64 f.1.2, .int .i64 f.2.1, .int .i64 f.2.2] 34)).alloc (.cells #[] 34)).drew (some ⟨w6.heap.size, 0, none⟩) [f]) := Lib.hid ((fown_one_at w6 f rfl).below (((Below.refl _ _).alloc (by simp) _).drew))
          have HTK := Lib.hid (HA6.out.take K)
          have HDK := Lib.hid (HA6.out.drop K)
          have hlt : (l.take K).length = K := by simp; omega
          have hld : (l.drop K).length = l.length - K := by simp
          generalize l.take K = T1 at *
          generalize l.drop K = T2 at *
          go_region_law (first
            | (refine step_fapp (by rfl) (.tmp 48) (.tmp 51) (by rfl) w6.heap.size (.slice (some ⟨w6.heap.size, 0, none⟩) 0 0) 0 [] (K) (T1) (some ⟨B, o, none⟩) (c) (by rfl) (by rfl) rfl (hlt) HOa.out ((HTK.out).below HBa.out) (by intro h; cases h) (by omega) (by first | (simp; done) | (simp; omega)) ?_; intro q3 cap3 w7 hown hgr; have HO7 : Hid (FOwn w7 w6.heap.size (.slice q3 (K) cap3) (T1)) := Lib.hid (by simpa using hown); have HB7 := Lib.hid (HOa.out.grown HBa.out hgr (by first | (simp; done) | (simp; omega))); have hs8 := HB7.out.size; have HX8 : Hid (FLies (w7.alloc (.cells #[.int .i64 f.1.1, .int .i64 f.1.2, .int .i64 f.2.1, .int .i64 f.2.2] 34)) (some ⟨w7.heap.size, 0, none⟩) [f]) := Lib.hid (fown_one_at w7 f rfl); have HO8 : Hid (FOwn (w7.alloc (.cells #[.int .i64 f.1.1, .int .i64 f.1.2, .int .i64 f.2.1, .int .i64 f.2.2] 34)) w6.heap.size (.slice q3 K cap3) T1) := Lib.hid (World.ownsRow.alloc HO7.out _); have HB8 : Hid (Below w6.heap.size w6 (w7.alloc (.cells #[.int .i64 f.1.1, .int .i64 f.1.2, .int .i64 f.2.1, .int .i64 f.2.2] 34))) := Lib.hid (HB7.out.alloc hs8 _); have HY7 := Lib.hid ((HB7.out.block _ hs6).trans HY6.out); obtain ⟨n0, n1, n2, n3⟩ := cells4p HY7.out; clear hown hgr)
            | (refine step_fapp (by rfl) (.tmp 48) (.tmp 51) (by rfl) w6.heap.size (.slice (some ⟨w6.heap.size, 0, none⟩) 0 0) 0 [] (K) (T1) (some ⟨B, o, none⟩) (c) (by rfl) (by rfl) rfl (hlt) HOb.out ((HTK.out).below HBb.out) (by intro h; cases h) (by omega) (by first | (simp; done) | (simp; omega)) ?_; intro q3 cap3 w7 hown hgr; have HO7 : Hid (FOwn w7 w6.heap.size (.slice q3 (K) cap3) (T1)) := Lib.hid (by simpa using hown); have HB7 := Lib.hid (HOb.out.grown HBb.out hgr (by first | (simp; done) | (simp; omega))); have hs8 := HB7.out.size; have HX8 := Lib.hid (flies_grown HXb.out hgr (by simp [Value.ownBlock])); clear hown hgr)
            | (refine step_fapp (by rfl) (.tmp 48) (.tmp 51) (by rfl) w6.heap.size (.slice (some ⟨w6.heap.size + 1, 0, none⟩) 0 0) 0 [] (K) (T1) (some ⟨B, o, none⟩) (c) (by rfl) (by rfl) rfl (hlt) HOc.out ((HTK.out).below HBc.out) (by intro h; cases h) (by omega) (by first | (simp; done) | (simp; omega)) ?_; intro q3 cap3 w7 hown hgr; have HO7 : Hid (FOwn w7 w6.heap.size (.slice q3 (K) cap3) (T1)) := Lib.hid (by simpa using hown); have HB7 := Lib.hid (HOc.out.grown HBc.out hgr (by first | (simp; done) | (simp; omega))); have hs8 := HB7.out.size; have HX8 := Lib.hid (flies_grown HXc.out hgr (by simp [Value.ownBlock])); clear hown hgr)
            | (refine step_fapp (by rfl) (.tmp 52) (.tmp 54) (by rfl) w6.heap.size (.slice q3 (K) cap3) (K) (T1) 1 [f] (some ⟨w7.heap.size, 0, none⟩) 1 (by rfl) (by rfl) (hlt) rfl HO8.out HX8.out (by intro h; cases h) (by omega) (by first | omega | (simp; omega)) ?_; intro q4 cap4 w9 hown hgr; have HO9 := Lib.hid hown; have HB9 := Lib.hid (HO8.out.grown HB8.out hgr (by first | omega | (simp; omega))); have HD9 := Lib.hid (HDK.out.below HB9.out); have hs9 := HB9.out.size; clear hown hgr)
            | (refine step_fapp (by rfl) (.tmp 52) (.tmp 54) (by rfl) w6.heap.size (.slice q3 (K) cap3) (K) (T1) 1 [f] (some ⟨w6.heap.size + 1, 0, none⟩) 1 (by rfl) (by rfl) (hlt) rfl HO7.out HX8.out (by intro h; cases h) (by omega) (by first | omega | (simp; omega)) ?_; intro q4 cap4 w9 hown hgr; have HO9 := Lib.hid hown; have HB9 := Lib.hid (HO7.out.grown HB7.out hgr (by first | omega | (simp; omega))); have HD9 := Lib.hid (HDK.out.below HB9.out); have hs9 := HB9.out.size; clear hown hgr)
            | (refine step_fapp (by rfl) (.tmp 52) (.tmp 54) (by rfl) w6.heap.size (.slice q3 (K) cap3) (K) (T1) 1 [f] (some ⟨w6.heap.size, 0, none⟩) 1 (by rfl) (by rfl) (hlt) rfl HO7.out HX8.out (by intro h; cases h) (by omega) (by first | omega | (simp; omega)) ?_; intro q4 cap4 w9 hown hgr; have HO9 := Lib.hid hown; have HB9 := Lib.hid (HO7.out.grown HB7.out hgr (by first | omega | (simp; omega))); have HD9 := Lib.hid (HDK.out.below HB9.out); have hs9 := HB9.out.size; clear hown hgr)
            | (refine step_fapp (by rfl) (.tmp 55) (.tmp 58) (by rfl) w6.heap.size (.slice q4 (K + 1) cap4) (K + 1) (T1 ++ [f]) (l.length - K) (T2) (some ⟨B, o + K * 4, none⟩) (c - K) (by rfl) (by first | rfl | (go_simp; done) | (go_simp; intro h; omega)) (by simp; omega) (hld) HO9.out HD9.out (by intro h; cases h) (by first | omega | (simp; omega)) (by first | omega | (simp; omega)) ?_; intro q5 cap5 w10 hown hgr; have HO10 := Lib.hid hown; have HB10 := Lib.hid (HO9.out.grown HB9.out hgr (by first | omega | (simp; omega))); clear hown hgr))
          all_goals
            go_wp2_with fail
            go_ret
            exact ins_end HO10.out HB10.out HB6.out (HT.out.trans (by simp)) (by simp; first | done | omega)
theorem ins_own {base : Nat} {A : Option Addr} {c : Nat} {l : List Fd} (f : Fd) {w : World} (hl : l.length ≤ 1000) (h : FOwn w base (.slice A l.length c) l) :
    Calls Try.prog 20 #[.slice A l.length c, .agg #[.int .i64 f.1.1, .int .i64 f.1.2, .int .i64 f.2.1, .int .i64 f.2.2]] w (IPost (insT l f) w) :=
  ins_any A c l f w hl h.lies.2.2.2 h.plain.1 h.plain.2 h.lies.1
end Go.Proofs.Ytbebbnkolpgndaa
