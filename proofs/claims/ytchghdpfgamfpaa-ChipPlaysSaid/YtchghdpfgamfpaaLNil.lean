/- ChipNil: for every call the law answers true, and nothing that was there has turned. -/
import Derived.Test.YtchghdpfgamfpaaLOrder
namespace Go.Proofs.Ytchghdpfgamfpaa
open Go.RowKit Go.Shelf

theorem fail_nil (n : Int) (w : World) : Calls Try.prog 18 #[.pointer none, .int .i64 n] w fun e w' => e = .returned (.tuple #[]) ∧ w' = w := by
  go_enter Try.func18, Try.ntmps18
  go_wp2
  go_end0
  exact ⟨rfl, rfl⟩
theorem worn_nil (n : Int) (w : World) : Calls Try.prog 20 #[.pointer none, .int .i64 n] w fun e w' => e = .returned (.tuple #[]) ∧ w' = w := by
  go_enter Try.func20, Try.ntmps20
  go_wp2
  go_end0
  exact ⟨rfl, rfl⟩
theorem cut_nil (n k : Int) (w : World) : Calls Try.prog 22 #[.pointer none, .int .i64 n, .int .i64 k] w fun e w' => e = .returned (.tuple #[]) ∧ w' = w := by
  go_enter Try.func22, Try.ntmps22
  go_wp2
  go_end0
  exact ⟨rfl, rfl⟩
theorem power_nil (w : World) : Calls Try.prog 24 #[.pointer none] w fun e w' => e = .returned (.tuple #[]) ∧ w' = w := by
  go_enter Try.func24, Try.ntmps24
  go_wp2
  go_end0
  exact ⟨rfl, rfl⟩
theorem down_nil (w : World) : Calls Try.prog 28 #[.pointer none] w fun e w' => e = .returned (.bool false) ∧ w' = w := by
  go_enter Try.func28, Try.ntmps28
  go_wp2
  go_ret
  exact ⟨rfl, rfl⟩
theorem bill_nil (w : World) : Calls Try.prog 29 #[.pointer none] w fun e w' => e = .returned (.agg #[.int .i64 0, .int .i64 0, .int .i64 0]) ∧ Below w.heap.size w w' := by
  go_enter Try.func29, Try.ntmps29
  go_wp2
  refine bodyPost_ret (results_cell_row rfl _ _ w.heap.size _ _ _ _ rfl (heap_alloc_new _ _) Try.underlying41 rfl (by kernel_rfl)) rfl ?_
  exact ⟨rfl, (Below.refl _ _).alloc (Nat.le_refl _) _⟩
set_option maxRecDepth 100000 in
set_option maxHeartbeats 2000000 in
theorem blocks_nil (w : World) : Calls Try.prog 34 #[.pointer none] w fun e w' => e = .returned (.slice none 0 0) ∧ Below w.heap.size w w' := by
  refine callsIn_wide.1 (callsIn_of_wp_marks (n := 3) Try.func34 rfl trivial ?_ rfl)
  simp only [Try.ntmps34, List.size_toArray, List.length_cons, List.length_nil, Nat.reduceAdd, Nat.reduceSub, Array.replicate_succ, Array.replicate_zero, List.push_toArray, List.append_toArray, List.nil_append, List.cons_append]
  gi_wp2
  exact ⟨_, results_tmp rfl _ _ _, rfl, (Below.refl _ w).alloc (Nat.le_refl _) _⟩
/-- A call as it lies in memory. -/
structure DoAt (w : World) (b o : Nat) (x : Int × Int × Int × Int × Int) (A : Option Addr) (m c : Nat) : Prop where
  c0 : w.cell? ⟨b, o, none⟩ = some (.int .i64 x.1)
  c1 : w.cell? ⟨b, o + 1, none⟩ = some (.int .i64 x.2.1)
  c2 : w.cell? ⟨b, o + 2, none⟩ = some (.int .i64 x.2.2.1)
  c3 : w.cell? ⟨b, o + 3, none⟩ = some (.int .i64 x.2.2.2.1)
  c4 : w.cell? ⟨b, o + 4, none⟩ = some (.int .i64 x.2.2.2.2)
  c5 : w.cell? ⟨b, o + 5, none⟩ = some (.slice A m c)
theorem DoAt.below {w w' : World} {b o m c : Nat} {x : Int × Int × Int × Int × Int} {A : Option Addr} {B : Nat} (h : DoAt w b o x A m c) (hb : Below B w w') (hB : b < B) : DoAt w' b o x A m c :=
  ⟨(hb.cell (p := ⟨b, o, none⟩) hB).trans h.c0, (hb.cell (p := ⟨b, o + 1, none⟩) hB).trans h.c1, (hb.cell (p := ⟨b, o + 2, none⟩) hB).trans h.c2, (hb.cell (p := ⟨b, o + 3, none⟩) hB).trans h.c3, (hb.cell (p := ⟨b, o + 4, none⟩) hB).trans h.c4, (hb.cell (p := ⟨b, o + 5, none⟩) hB).trans h.c5⟩
set_option maxRecDepth 100000 in
set_option maxHeartbeats 2000000 in
/-- Heavy: 0 says that there are no more than 150 calls, each with no more than 2500 bytes. -/
theorem heavy_any (b o n cap : Nat) (xs : Nat → Int × Int × Int × Int × Int) (As : Nat → Option Addr) (ms cs : Nat → Nat) (w : World) (hb : 0 < n → b < w.heap.size) (hn : n ≤ maxLen) (h : ∀ i, i < n → DoAt w b (o + i * 6) (xs i) (As i) (ms i) (cs i)) :
    Calls Try.prog 10 #[.slice (some ⟨b, o, none⟩) n cap] w fun e w' => ∃ k : Int, e = .returned (.int .i64 k) ∧ (k ≤ 0 → n ≤ 150 ∧ ∀ i, i < n → ms i ≤ 2500) ∧ Below w.heap.size w w' := by
  unfold maxLen at hn
  go_enter Try.func10, Try.ntmps10
  go_wp2
  go_loopw [3, 4, 7] (fun _ _ i wr => ∃ j : Nat, j ≤ n ∧ j ≤ 150 ∧ i = .int .i64 j ∧ (∀ i, i < j → ms i ≤ 2500) ∧ Below w.heap.size w wr) (fun _ _ i _ => n - (intOf i).toNat)
  case atStart => exact ⟨0, Nat.zero_le _, by omega, rfl, fun i hi => by omega, Below.refl _ _⟩
  case round =>
    obtain ⟨j, hj, hj2, rfl, hm, hB⟩ := hrel
    have HB := Lib.hid hB
    have HM := Lib.hid hm
    clear hB hm
    by_cases hjn : j < n
    · obtain ⟨c0, c1, c2, c3, c4, c5⟩ := (h j hjn).below HB.out (hb (by omega))
      have z := HB.out.size
      have b2 : Below w.heap.size w (wr.alloc (.cells #[.int .i64 (xs j).1, .int .i64 (xs j).2.1, .int .i64 (xs j).2.2.1, .int .i64 (xs j).2.2.2.1, .int .i64 (xs j).2.2.2.2, .slice (As j) (ms j) (cs j)] 34)) := HB.out.alloc z _
      have HB2 := Lib.hid b2
      clear b2
      go_wp2
      all_goals first
        | (go_ret; exact ⟨_, rfl, fun hk => by omega, HB2.out⟩)
        | skip
      go_roundw
      case rel =>
        refine ⟨j + 1, by omega, by omega, by simp, fun i hi => ?_, HB2.out⟩
        rcases Nat.lt_or_ge i j with h | h
        · exact HM.out i h
        · obtain rfl : i = j := by omega
          omega
      case measure => simp [intOf]; omega
    · obtain rfl : j = n := by omega
      go_wp2
      go_ret
      exact ⟨0, rfl, fun _ => ⟨hj2, HM.out⟩, HB.out⟩
theorem cells6 {w : World} {p : Nat} {a b c d e f : Value} {t : TypeId} (h : w.heap[p]? = some (.cells #[a, b, c, d, e, f] t (0, 0))) : w.cell? ⟨p, 0, none⟩ = some a ∧ w.cell? ⟨p, 1, none⟩ = some b ∧ w.cell? ⟨p, 2, none⟩ = some c ∧ w.cell? ⟨p, 3, none⟩ = some d ∧ w.cell? ⟨p, 4, none⟩ = some e ∧ w.cell? ⟨p, 5, none⟩ = some f := by
  simp [World.cell?, h]
set_option maxRecDepth 100000 in
set_option maxHeartbeats 8000000 in
theorem nil_law (x : Int × Int × Int × Int × Int) (A : Option Addr) (m c : Nat) (w : World) :
    Calls Try.prog 4 #[.agg #[.int .i64 x.1, .int .i64 x.2.1, .int .i64 x.2.2.1, .int .i64 x.2.2.2.1, .int .i64 x.2.2.2.2, .slice A m c]] w (Holds w) := by
  obtain ⟨x1, x2, x3, x4, x5⟩ := x
  dsimp only
  obtain ⟨o, ho⟩ : ∃ o : Obj, o = .cells #[.int .i64 x1, .int .i64 x2, .int .i64 x3, .int .i64 x4, .int .i64 x5, .slice A m c] 34 := ⟨_, rfl⟩
  have hk : ((w.alloc o).alloc o).heap[w.heap.size]? = some o := by rw [heap_alloc_old _ _ (by simp)]; exact heap_alloc_new _ _
  have hk2 : ((w.alloc o).alloc o).heap[w.heap.size + 1]? = some o := by
    have := heap_alloc_new (w.alloc o) o
    rwa [World.size_alloc] at this
  have hB2 : Below w.heap.size w ((w.alloc o).alloc o) := ((Below.refl _ w).alloc (Nat.le_refl _) _).alloc (by simp) _
  rw [ho] at hk hk2 hB2
  have HV := heavy_any (w.heap.size + 1) 0 1 1 (fun _ => (x1, x2, x3, x4, x5)) (fun _ => A) (fun _ => m) (fun _ => c) _ (fun _ => lt_size hk2) (by unfold maxLen; omega) (fun i hi => by
    obtain rfl : i = 0 := by omega
    obtain ⟨c0, c1, c2, c3, c4, c5⟩ := cells6 hk2
    exact ⟨c0, c1, c2, c3, c4, c5⟩)
  have HH := Lib.hid HV
  have HK := Lib.hid hk
  have HB2 := Lib.hid hB2
  clear HV hk hk2 hB2 ho
  go_enter Try.func4, Try.ntmps4
  have B0 := Lib.hid HB2.out
  go_wp2_with (first
    | (go_at_call 10; (with_reducible refine HH.out.mono ?_); rintro e w1 ⟨k, rfl, _, hb1⟩; have K1 := Lib.hid ((hb1.block _ (lt_size HK.out)).trans HK.out); have B1 := Lib.hid (HB2.out.trans (hb1.mono HB2.out.size)); obtain ⟨d0, d1, d2, d3, d4, d5⟩ := cells6 K1.out; clear hb1)
    | (go_at_call 18; (with_reducible refine (fail_nil x2 w1).mono ?_); rintro e wq ⟨rfl, hwq⟩; obtain rfl := hwq.symm)
    | (go_at_call 20; (with_reducible refine (worn_nil x2 w1).mono ?_); rintro e wq ⟨rfl, hwq⟩; obtain rfl := hwq.symm)
    | (go_at_call 22; (with_reducible refine (cut_nil x2 x3 w1).mono ?_); rintro e wq ⟨rfl, hwq⟩; obtain rfl := hwq.symm)
    | (go_at_call 24; (with_reducible refine (power_nil w1).mono ?_); rintro e wq ⟨rfl, hwq⟩; obtain rfl := hwq.symm)
    | (go_at_call 14; (with_reducible refine (read_nil x4 x5 w1).mono ?_); rintro e w2 ⟨rfl, hb⟩; have K2 := Lib.hid ((hb.block _ (lt_size K1.out)).trans K1.out); have B2 := Lib.hid (B1.out.trans (hb.mono B1.out.size)); obtain ⟨d0, d1, d2, d3, d4, d5⟩ := cells6 K2.out; clear hb)
    | (go_at_call 26; (with_reducible refine (prog_nil A m c x4 x5 w2).mono ?_); rintro e w3 ⟨rfl, hb⟩; have K3 := Lib.hid ((hb.block _ (lt_size K2.out)).trans K2.out); have B3 := Lib.hid (B2.out.trans (hb.mono B2.out.size)); obtain ⟨d0, d1, d2, d3, d4, d5⟩ := cells6 K3.out; clear hb)
    | (go_at_call 16; (with_reducible refine (erase_nil x4 w3).mono ?_); rintro e wq ⟨rfl, hwq⟩; obtain rfl := hwq.symm)
    | (go_at_call 28; (with_reducible refine (down_nil w3).mono ?_); rintro e wq ⟨rfl, hwq⟩; obtain rfl := hwq.symm)
    | (go_at_call 29; (with_reducible refine (bill_nil w3).mono ?_); rintro e w4 ⟨rfl, hb⟩; have K4 := Lib.hid ((hb.block _ (lt_size K3.out)).trans K3.out); have B4 := Lib.hid (B3.out.trans (hb.mono B3.out.size)); obtain ⟨d0, d1, d2, d3, d4, d5⟩ := cells6 K4.out; clear hb)
    | (go_at_call 34; (with_reducible refine (blocks_nil w4).mono ?_); rintro e w5 ⟨rfl, hb⟩; have K5 := Lib.hid ((hb.block _ (lt_size K4.out)).trans K4.out); have B5 := Lib.hid (B4.out.trans (hb.mono B4.out.size)); obtain ⟨d0, d1, d2, d3, d4, d5⟩ := cells6 K5.out; clear hb)
    | (go_at_call 31; (with_reducible refine (block_nil x2 w5).mono ?_); rintro e w6 ⟨v, rfl, ⟨A6, c6, rfl, hv6⟩, hb⟩; have fl6 := field_pages noB.bad noB.next noB.count A6 0 c6; have hn0 : noB.pages.length = 0 := rfl; have K6 := Lib.hid ((hb.block _ (lt_size K5.out)).trans K5.out); have B6 := Lib.hid (B5.out.trans (hb.mono B5.out.size)); obtain ⟨d0, d1, d2, d3, d4, d5⟩ := cells6 K6.out; clear hb)
    | (go_at_call 11; (with_reducible refine (awake_any _).mono ?_); rintro e w9 ⟨rfl, hb9⟩))
  · go_ret
    exact ⟨rfl, B1.out.trans (hb9.mono B1.out.size)⟩
  · go_ret
    exact ⟨rfl, B6.out.trans (hb9.mono B6.out.size)⟩
end Go.Proofs.Ytchghdpfgamfpaa
