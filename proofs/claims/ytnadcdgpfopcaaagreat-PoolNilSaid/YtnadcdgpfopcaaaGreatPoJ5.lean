/- Calls of layer 10's scripts: which are light. -/
import Derived.Test.YtnadcdgpfopcaaaGreatPoJ4
namespace Go.Proofs.YtnadcdgpfopcaaaGreat
open Go.RowKit

/-- What a call holds. -/
structure Cal where
  dO : Int
  n : Int
  keep : Int
  page : Int
  A : Option Addr
  c : Nat
  d : List UInt8
  A2 : Option Addr
  c2 : Nat
  pk : List Bool
instance : Inhabited Cal := ⟨⟨0, 0, 0, 0, none, 0, [], none, 0, []⟩⟩
/-- A call's cells at b, o. -/
structure CalC (W : World) (b o : Nat) (d : Cal) : Prop where
  k0 : W.cell? ⟨b, o, none⟩ = some (.int .i64 d.dO)
  k1 : W.cell? ⟨b, o + 1, none⟩ = some (.int .i64 d.n)
  k2 : W.cell? ⟨b, o + 2, none⟩ = some (.int .i64 d.keep)
  k3 : W.cell? ⟨b, o + 3, none⟩ = some (.int .i64 d.page)
  k4 : W.cell? ⟨b, o + 4, none⟩ = some (.slice d.A d.d.length d.c)
  k5 : W.cell? ⟨b, o + 5, none⟩ = some (.slice d.A2 d.pk.length d.c2)
def CalAt (W : World) (A : Option Addr) (i : Nat) (d : Cal) : Prop := ∃ b o, A = some ⟨b, o, none⟩ ∧ b < W.heap.size ∧ CalC W b (o + i * 6) d
theorem CalC.below {w w' : World} {b o : Nat} {d : Cal} (h : CalC w b o d) (hlt : b < w.heap.size) (hb : Below w.heap.size w w') : CalC w' b o d :=
  ⟨(hb.cell (p := ⟨b, o, none⟩) hlt).trans h.k0, (hb.cell (p := ⟨b, o + 1, none⟩) hlt).trans h.k1, (hb.cell (p := ⟨b, o + 2, none⟩) hlt).trans h.k2, (hb.cell (p := ⟨b, o + 3, none⟩) hlt).trans h.k3, (hb.cell (p := ⟨b, o + 4, none⟩) hlt).trans h.k4, (hb.cell (p := ⟨b, o + 5, none⟩) hlt).trans h.k5⟩
def CalsLie (W : World) (A : Option Addr) (l : List Cal) : Prop := ∀ i (h : i < l.length), CalAt W A i l[i]
theorem CalsLie.below {w w' : World} {A : Option Addr} {l : List Cal} (h : CalsLie w A l) (hb : Below w.heap.size w w') : CalsLie w' A l := fun i hi => by
  obtain ⟨b, o, e, hlt, k⟩ := h i hi
  exact ⟨b, o, e, Nat.lt_of_lt_of_le hlt hb.size, k.below hlt hb⟩
/-- Which scripts are light. -/
def LightC (B P : Int) (l : List Cal) : Prop := B ≤ 24 ∧ P ≤ 8 ∧ l.length ≤ 120 ∧ ∀ d ∈ l, d.d.length ≤ 60 ∧ d.pk.length ≤ 80
def HeavyPost (B P : Int) (l : List Cal) (w : World) (e : Ending) (w' : World) : Prop := ∃ k : Int, e = .returned (.int .i64 k) ∧ (k ≤ 0 → LightC B P l) ∧ Below w.heap.size w w'
set_option maxRecDepth 100000 in
set_option maxHeartbeats 4000000 in
theorem heavy_calls (B P Sp K U : Int) (A : Option Addr) (m : Nat) (l : List Cal) (w : World) (h : CalsLie w A l) (hl : l.length ≤ maxLen) : Calls Tryz.prog 24 #[.agg #[.int .i64 B, .int .i64 P, .int .i64 Sp, .int .i64 K, .int .i64 U], .slice A l.length m] w (HeavyPost B P l w) := by
  obtain ⟨W, hW⟩ : ∃ W, w.alloc (.cells #[.int .i64 B, .int .i64 P, .int .i64 Sp, .int .i64 K, .int .i64 U] 23) = W := ⟨_, rfl⟩
  have HBW : Hid (Below w.heap.size w W) := Lib.hid (by rw [← hW]; exact (Below.refl _ _).alloc (Nat.le_refl _) _)
  have HX : Hid (W.heap[w.heap.size]? = some (.cells #[.int .i64 B, .int .i64 P, .int .i64 Sp, .int .i64 K, .int .i64 U] 23 (0, 0))) := Lib.hid (by rw [← hW]; exact heap_alloc_new _ _)
  have HL := Lib.hid h
  have hmx : maxLen = 9223372036854775807 := rfl
  have hws := HBW.out.size
  obtain ⟨a0, a1, a2, a3, a4⟩ := cfg5 HX.out
  clear h
  go_enter Tryz.func24, Tryz.ntmps24
  by_cases hB : 24 < B
  · go_wp2_with fail
    go_ret
    exact ⟨1, rfl, fun h => absurd h (by decide), HBW.out⟩
  · by_cases hP : 8 < P
    · go_wp2_with fail
      go_ret
      exact ⟨1, rfl, fun h => absurd h (by decide), HBW.out⟩
    · have HBP := Lib.hid (And.intro hB hP)
      go_wp2_with fail
      clear hW
      go_loopw [17] (fun v17 wr => ∃ j : Nat, j ≤ l.length ∧ v17 = .int .i64 j ∧ (0 < j → j ≤ 120) ∧ (∀ i, i < j → ∃ h : i < l.length, l[i].d.length ≤ 60 ∧ l[i].pk.length ≤ 80) ∧ Below w.heap.size w wr) (fun v17 _ => l.length - (intOf v17).toNat)
      case atStart => exact ⟨0, Nat.zero_le _, rfl, fun h => absurd h (by omega), fun i hi => absurd hi (by omega), HBW.out⟩
      case round =>
        obtain ⟨j, hj, rfl, hj120, hall, hb⟩ := hrel
        have HB := Lib.hid hb
        have HA := Lib.hid hall
        have HJ := Lib.hid hj120
        have hs := hb.size
        clear hb hall hj120
        by_cases hlt : j < l.length
        · obtain ⟨b, o, rfl, hbl, k⟩ := (HL.out.below HB.out) j hlt
          obtain ⟨d, hd⟩ : ∃ d, l[j] = d := ⟨_, rfl⟩
          rw [hd] at k
          have HD := Lib.hid hd
          obtain ⟨dn, hdn⟩ : ∃ dn, d.d.length = dn := ⟨_, rfl⟩
          obtain ⟨pn, hpn⟩ : ∃ pn, d.pk.length = pn := ⟨_, rfl⟩
          have HDN := Lib.hid hdn
          have HPN := Lib.hid hpn
          obtain ⟨k0, k1, k2, k3, k4, k5⟩ := k
          rw [hdn] at k4
          rw [hpn] at k5
          clear hd hdn hpn
          by_cases h1 : 120 ≤ j
          · go_wp2_with fail
            go_ret
            exact ⟨(j : Int) + 1, by first | rfl | (simp; done) | (congr 2; omega), fun h => absurd h (by omega), HB.out.alloc hs _⟩
          · by_cases h2 : 60 < dn
            · go_wp2_with fail
              go_ret
              exact ⟨(j : Int) + 1, by first | rfl | (simp; done) | (congr 2; omega), fun h => absurd h (by omega), HB.out.alloc hs _⟩
            · by_cases h3 : 80 < pn
              · go_wp2_with fail
                go_ret
                exact ⟨(j : Int) + 1, by first | rfl | (simp; done) | (congr 2; omega), fun h => absurd h (by omega), HB.out.alloc hs _⟩
              · have H3 := Lib.hid (And.intro h1 (And.intro h2 h3))
                go_wp2_with fail
                go_roundw
                case rel =>
                  refine ⟨j + 1, by omega, by go_num, fun _ => by have := H3.out.1; omega, fun i hi => ?_, HB.out.alloc hs _⟩
                  by_cases e : i = j
                  · subst e
                    exact ⟨hlt, by rw [HD.out, HDN.out]; have := H3.out.2.1; omega, by rw [HD.out, HPN.out]; have := H3.out.2.2; omega⟩
                  · exact HA.out i (by omega)
                case measure => simp [intOf]; omega
        · obtain rfl : j = l.length := by omega
          go_wp2_with fail
          go_ret
          refine ⟨0, rfl, fun _ => ⟨by have := HBP.out.1; omega, by have := HBP.out.2; omega, ?_, fun d hd => ?_⟩, HB.out⟩
          · rcases Nat.eq_zero_or_pos l.length with e | e
            · omega
            · exact HJ.out e
          · obtain ⟨i, hi, e⟩ := List.getElem_of_mem hd
            obtain ⟨h1, h2, h3⟩ := HA.out i hi
            rw [← e]; exact ⟨h2, h3⟩
end Go.Proofs.YtnadcdgpfopcaaaGreat
