/- A scan: Step where it is refused; Found, Root, Seq. -/
import Derived.Test.YtnadcdgpfopcaaaMoG
namespace Go.Proofs.Ytnadcdgpfopcaaa
open Go.RowKit Go.Shelf

section
variable {w w' : World} {s c cap : Nat} {x y Y F : Nat → Prop} {v : Value} {A : Option Addr} {M : MS} {S S' : LS}
/-- What a refused step tells. -/
def NoStep (er : Int) (w : World) (e : Ending) (w' : World) : Prop := e = .returned (.tuple #[.bool false, .int .i64 er]) ∧ Below w.heap.size w w'
theorem MParts.below (h : MParts w s c v A cap M) (hb : Below w.heap.size w w') : MParts w' s c v A cap M := by
  have hc : ∀ j u, w.cell? ⟨s, j, none⟩ = some u → w'.cell? ⟨s, j, none⟩ = some u := fun j u e => (hb.cell (p := ⟨s, j, none⟩) h.lt).trans e
  have hp := hb.block s h.lt
  exact ⟨Nat.lt_of_lt_of_le h.lt hb.size, hc _ _ h.c0, hc _ _ h.c1, hc _ _ h.c2, hc _ _ h.c3, hc _ _ h.c4, hc _ _ h.c5, hc _ _ h.c6, hc _ _ h.c7, fun j => by have := h.fr j; simp only [World.frozen?, hp] at this ⊢; exact this⟩
set_option maxRecDepth 100000 in
set_option maxHeartbeats 2000000 in
theorem m_step_nil (n : Int) (w : World) : Calls Try.prog 15 #[.pointer none, .int .i64 n] w (NoStep 1 w) := by
  refine callsIn_wide.1 (callsIn_of_wp_marks (n := 3) Try.func15 rfl trivial ?_ rfl)
  simp only [Try.ntmps15, List.size_toArray, List.length_cons, List.length_nil, Nat.reduceAdd, Nat.reduceSub, Array.replicate_succ, Array.replicate_zero, List.push_toArray, List.append_toArray, List.nil_append, List.cons_append]
  have HB := Lib.hid ((Below.refl w.heap.size w).alloc (Nat.le_refl _) (.cells #[.pointer none] 41))
  gi_wp2_with (refine ⟨trivial, ?_⟩; (try refine ⟨wide_depth _, ?_⟩); gi_at_call 34; refine (callsIn_wide.2 (m_is_nil _)).mono ?_; rintro e w1 ⟨rfl, hw1⟩; obtain rfl := hw1)
  exact ⟨.tuple #[.bool false, .int .i64 1], by simp [results, Try.results15, go_sem], rfl, HB.out⟩
set_option maxRecDepth 100000 in
set_option maxHeartbeats 2000000 in
theorem m_step_arg (n : Int) (h : MParts w s c v A cap M) (hn : n < 1) : Calls Try.prog 15 #[PtrV s, .int .i64 n] w (NoStep 1 w) := by
  refine callsIn_wide.1 (callsIn_of_wp_marks (n := 3) Try.func15 rfl trivial ?_ rfl)
  simp only [Try.ntmps15, List.size_toArray, List.length_cons, List.length_nil, Nat.reduceAdd, Nat.reduceSub, Array.replicate_succ, Array.replicate_zero, List.push_toArray, List.append_toArray, List.nil_append, List.cons_append]
  have HB := Lib.hid ((Below.refl w.heap.size w).alloc (Nat.le_refl _) (.cells #[PtrV s] 41))
  have HP := Lib.hid (h.below HB.out)
  clear h
  gi_wp2_with (refine ⟨trivial, ?_⟩; (try refine ⟨wide_depth _, ?_⟩); gi_at_call 34; refine (callsIn_wide.2 (m_is HP.out)).mono ?_; rintro e w1 ⟨rfl, hw1⟩; obtain rfl := hw1)
  exact ⟨.tuple #[.bool false, .int .i64 1], by simp [results, Try.results15, go_sem], rfl, HB.out⟩
set_option maxRecDepth 100000 in
set_option maxHeartbeats 2000000 in
theorem m_step_dark (n : Int) (h : ScanAt w s c Y v A cap M) (hn : 1 ≤ n) (hd : M.S.dark = true) : Calls Try.prog 15 #[PtrV s, .int .i64 n] w (NoStep 2 w) := by
  refine callsIn_wide.1 (callsIn_of_wp_marks (n := 3) Try.func15 rfl trivial ?_ rfl)
  simp only [Try.ntmps15, List.size_toArray, List.length_cons, List.length_nil, Nat.reduceAdd, Nat.reduceSub, Array.replicate_succ, Array.replicate_zero, List.push_toArray, List.append_toArray, List.nil_append, List.cons_append]
  have HB := Lib.hid ((Below.refl w.heap.size w).alloc (Nat.le_refl _) (.cells #[PtrV s] 41))
  have hp := h.parts.below HB.out
  have bx := (Boxed.new w 41 (PtrV s)).cell
  have c0 := hp.c0
  have HP := Lib.hid hp
  have HC := Lib.hid (h.chip.below HB.out)
  have HD := Lib.hid hd
  clear h hp hd
  gi_wp2_with (first
    | (refine ⟨trivial, ?_⟩; (try refine ⟨wide_depth _, ?_⟩); gi_at_call 34; refine (callsIn_wide.2 (m_is HP.out)).mono ?_; rintro e w1 ⟨rfl, hw1⟩; obtain rfl := hw1)
    | (refine ⟨trivial, ?_⟩; (try refine ⟨wide_depth _, ?_⟩); gi_at_call 35; refine (callsIn_wide.2 (held_down HC.out)).mono ?_; rintro e w1 ⟨rfl, hw1⟩; obtain rfl := hw1.symm; rw [HD.out]))
  exact ⟨.tuple #[.bool false, .int .i64 2], by simp [results, Try.results15, go_sem], rfl, HB.out⟩
theorem FOwn.plainM {w : World} {base n c : Nat} {q : Option Addr} {l : List Fd} (h : FOwn w base (.slice q n c) l) : (q = none → l = [] ∧ c = 0) := fun e => by
  subst e
  rcases h.2 with ⟨e, e2⟩ | ⟨g, cap, cur, e, -⟩
  · simp at e
    exact ⟨List.eq_nil_of_length_eq_zero e2, e.2⟩
  · simp at e
/-- What is told lies in new memory. -/
def FPost (l : List Fd) (w : World) (e : Ending) (w' : World) : Prop :=
  ∃ A c, e = .returned (.slice A l.length c) ∧ FLies w' A l ∧ (∀ ad, A = some ad → w.heap.size ≤ ad.block) ∧ (A = none → l.length = 0 ∧ c = 0) ∧ Below w.heap.size w w'
set_option maxRecDepth 100000 in
theorem clonef_any (A : Option Addr) (c : Nat) (l : List Fd) (w : World) (h : FLies w A l) (hA : A = none → l = [] ∧ c = 0) (hl : l.length ≤ 100000) :
    Calls Try.prog 43 #[.slice A l.length c] w (FPost l w) := by
  rcases A with _ | ad
  · obtain ⟨rfl, rfl⟩ := hA rfl
    have hnil := fun w => Lib.run_eql_slice_nil (P := Try.prog) w 45 49 none 0 0 0 0 Try.underlying45
    go_enter Try.func43, Try.ntmps43
    go_wp2
    go_ret
    exact ⟨none, 0, rfl, fun h => absurd h (by simp), fun _ e => (by cases e), fun _ => ⟨rfl, rfl⟩, Below.refl _ _⟩
  · have hnil := fun w => Lib.run_eql_slice_nil (P := Try.prog) w 45 49 (some ad) l.length c 0 0 Try.underlying45
    have hown := fown_empty (W := w.alloc (.cells #[] 49)) (B := w.heap.size) (heap_alloc_new w _) (Nat.le_refl _)
    have hf : FLies (w.alloc (.cells #[] 49)) (some ad) l := h.below ((Below.refl _ _).alloc (Nat.le_refl _) _)
    go_enter Try.func43, Try.ntmps43
    go_wp2_with (at_builtin; refine wpList_fapp rfl _ _ rfl w.heap.size _ [] l (some ad) c rfl rfl hown hf (fun e => by cases e) (by simp; omega) (by simp) ?_; intro q qc w7 hown2 hg2)
    go_ret
    obtain ⟨f1, f2, f3, f4⟩ := hown2.lies
    refine ⟨q, qc, by simp, by simpa using f1, f3, fun e => ?_, ((Below.refl _ w).alloc (Nat.le_refl _) _).grown hg2 (by simp) fun k e => (World.ownsRow.lt hown k e).1⟩
    obtain ⟨e1, e2⟩ := hown2.plainM e
    exact ⟨by simp at e1; simp [e1], e2⟩
/-- What is found, when all is through. -/
def MS.tell (M : MS) : List Fd := if M.thr = true then M.fd else []
set_option maxRecDepth 100000 in
set_option maxHeartbeats 1000000 in
theorem m_found (h : ScanAt w s c Y v A cap M) (ok : MOk M) (hfd : M.fd.length ≤ 5000) : Calls Try.prog 19 #[PtrV s] w (FPost M.tell w) := by
  have HP := Lib.hid h.parts
  obtain ⟨q, qc, rfl, _⟩ := own_slice h.own
  obtain ⟨f1, f2, f3, f4⟩ := h.own.lies
  have HF := Lib.hid f1
  have HN := Lib.hid h.own.plainM
  have k4 := h.parts.c4
  have hs := h.lt
  clear h f1 f2 f3 f4
  cases ht : M.thr with
  | true =>
    have HT := Lib.hid ht
    go_enter Try.func19, Try.ntmps19
    go_wp2_with (first
      | (go_at_call 39; refine (m_through HP.out ok).mono ?_; rintro e w1 ⟨rfl, nq, rfl⟩; rw [HT.out])
      | (go_at_call 43; refine (clonef_any q qc M.fd _ (HF.out.below (drewN_below (Below.refl _ _) _)) HN.out (by omega)).mono ?_; rintro e w2 ⟨A2, c2, rfl, g1, g2, g3, g4⟩)
      | fail)
    go_ret
    have hm : M.tell = M.fd := by unfold MS.tell; rw [if_pos HT.out]
    exact ⟨A2, c2, by rw [hm]; rfl, by rw [hm]; exact g1, g2, by rw [hm]; exact g3, (drewN_below (Below.refl _ _) _).trans g4⟩
  | false =>
    have HT := Lib.hid ht
    go_enter Try.func19, Try.ntmps19
    go_wp2_with (first
      | (go_at_call 39; refine (m_through HP.out ok).mono ?_; rintro e w1 ⟨rfl, nq, rfl⟩; rw [HT.out])
      | fail)
    go_ret
    have hm : M.tell = [] := by unfold MS.tell; rw [if_neg (by rw [HT.out]; decide)]
    exact ⟨none, 0, by rw [hm]; rfl, by rw [hm]; exact fun h => absurd h (by simp), fun _ e => (by cases e), fun _ => by rw [hm]; exact ⟨rfl, rfl⟩, drewN_below (Below.refl _ _) _⟩
/-- The root, when all is through. -/
def MS.tells (M : MS) : Bool := M.thr && !(M.rs == 0)
def RootPost (M : MS) (w : World) (e : Ending) (w' : World) : Prop :=
  ∃ (A2 : Option Addr) (c2 : Nat) (L : List UInt8), e = .returned (.tuple #[.agg #[.int .i64 (if M.tells = true then M.rp else 0), .int .i64 (if M.tells = true then M.rs else 0), .slice A2 L.length c2], .bool M.tells]) ∧ Hid (L = if M.tells = true then M.rd else []) ∧ RB w' w'.heap.size A2 L ∧ Below w.heap.size w w'
set_option maxRecDepth 100000 in
set_option maxHeartbeats 2000000 in
theorem m_root (h : ScanAt w s c Y v A cap M) (ok : MOk M) (hrd : M.rd.length ≤ 2000) : Calls Try.prog 17 #[PtrV s] w (RootPost M w) := by
  have HB0 := Lib.hid ((Below.refl w.heap.size w).alloc (Nat.le_refl _) (.cells #[.int .i64 0, .int .i64 0, .slice none 0 0] 28))
  have HS : Hid (ScanAt (w.alloc (.cells #[.int .i64 0, .int .i64 0, .slice none 0 0] 28)) s c (fun b => Y b ∨ New w (w.alloc (.cells #[.int .i64 0, .int .i64 0, .slice none 0 0] 28)) b) v A cap M) := Lib.hid (h.grow (F := fun _ => False) (.of_below HB0.out) fun _ k => k.elim)
  have HP := Lib.hid HS.out.parts
  have HX := Lib.hid (heap_alloc_new w (.cells #[.int .i64 0, .int .i64 0, .slice none 0 0] 28))
  have HXN : Hid (∀ n, ((w.alloc (.cells #[.int .i64 0, .int .i64 0, .slice none 0 0] 28)).drewN n).heap[w.heap.size]? = some (.cells #[.int .i64 0, .int .i64 0, .slice none 0 0] 28 (0, 0))) := Lib.hid fun n => ((drewN_below (Below.refl (w.alloc (.cells #[.int .i64 0, .int .i64 0, .slice none 0 0] 28)).heap.size _) n).block w.heap.size (by simp)).trans HX.out
  have HDT : Hid (RB w w.heap.size A M.rd) := Lib.hid (h.data.rb fun b hb => h.chip.there b hb.1)
  have k5 := h.parts.c5
  have k6 := h.parts.c6
  have k7 := h.parts.c7
  have hs := h.lt
  clear h
  cases ht : M.thr with
  | false =>
    have HT := Lib.hid ht
    have hm : M.tells = false := by unfold MS.tells; rw [ht]; rfl
    have HM := Lib.hid hm
    clear hm ht
    go_enter Try.func17, Try.ntmps17
    go_wp2_with (go_at_call 39; refine (m_through HP.out ok).mono ?_; rintro e w1 ⟨rfl, nq, rfl⟩; rw [HT.out])
    refine bodyPost_ret (results_pair rfl _ _ w.heap.size _ _ rfl rfl (load_sheet (block_set3 (HXN.out nq)))) rfl ?_
    exact ⟨none, 0, [], by rw [HM.out]; rfl, Lib.hid (by rw [HM.out]; rfl), RB.nil, ((((drewN_below HB0.out nq)).setCell (Nat.le_refl _) _).setCell (Nat.le_refl _) _).setCell (Nat.le_refl _) _⟩
  | true =>
    have HT := Lib.hid ht
    by_cases hr : M.rs = 0
    · have hm : M.tells = false := by unfold MS.tells; rw [hr]; simp
      have HM := Lib.hid hm
      rw [hr] at k6
      have c6 := HP.out.c6
      rw [hr] at c6
      clear hm ht k5 k6 k7
      go_enter Try.func17, Try.ntmps17
      go_wp2_with (go_at_call 39; refine (m_through HP.out ok).mono ?_; rintro e w1 ⟨rfl, nq, rfl⟩; rw [HT.out])
      refine bodyPost_ret (results_pair rfl _ _ w.heap.size _ _ rfl rfl (load_sheet (block_set3 (HXN.out nq)))) rfl ?_
      exact ⟨none, 0, [], by rw [HM.out]; rfl, Lib.hid (by rw [HM.out]; rfl), RB.nil, ((((drewN_below HB0.out nq)).setCell (Nat.le_refl _) _).setCell (Nat.le_refl _) _).setCell (Nat.le_refl _) _⟩
    · have hm : M.tells = true := by unfold MS.tells; rw [ht]; simpa using hr
      have HM := Lib.hid hm
      have hr2 : (M.rs == 0) = false := by simpa using hr
      have c5 := HP.out.c5
      have c6 := HP.out.c6
      have c7 := HP.out.c7
      have hbx := lt_size HX.out
      clear hm ht k5 k6 k7
      go_enter Try.func17, Try.ntmps17
      go_wp2_with (first
        | (go_at_call 39; refine (m_through HP.out ok).mono ?_; rintro e w1 ⟨rfl, nq, rfl⟩; rw [HT.out])
        | (go_at_call 42; (obtain ⟨V1, hV1⟩ : ∃ V1, V1 = ((w.alloc (.cells #[.int .i64 0, .int .i64 0, .slice none 0 0] 28)).drewN nq).alloc (.cells #[.int .i64 M.rp, .int .i64 M.rs, .slice A M.rd.length cap] 28) := ⟨_, rfl⟩); rw [← hV1]; have HV1 : Hid (Below w.heap.size w V1) := Lib.hid (by rw [hV1]; exact (drewN_below HB0.out nq).alloc (by simp) _); have HVX : Hid (V1.heap[w.heap.size]? = some (.cells #[.int .i64 0, .int .i64 0, .slice none 0 0] 28 (0, 0))) := Lib.hid (by rw [hV1]; exact (heap_alloc_oldX _ _ (by simp)).trans (HXN.out nq)); have HVY : Hid (V1.heap[w.heap.size + 1]? = some (.cells #[.int .i64 M.rp, .int .i64 M.rs, .slice A M.rd.length cap] 28 (0, 0))) := Lib.hid (by rw [hV1]; have := heap_alloc_new ((w.alloc (.cells #[.int .i64 0, .int .i64 0, .slice none 0 0] 28)).drewN nq) (.cells #[.int .i64 M.rp, .int .i64 M.rs, .slice A M.rd.length cap] 28); simpa using this); clear hV1; refine (cloneb_any w.heap.size A cap M.rd V1 (HDT.out.below HV1.out (Nat.le_refl _)) HV1.out.size (by omega)).mono ?_; rintro e w2 ⟨A2, c2, L2, rfl, hL2, hc2, hr2', hn2, hb2⟩; have x2 := (hb2.block _ (lt_size HVX.out)).trans HVX.out; have y2 := (hb2.block _ (lt_size HVY.out)).trans HVY.out; obtain ⟨p0, p1, p2⟩ := cells3 x2; obtain ⟨q0, q1, q2⟩ := cells3 y2; have fx := frozen3 x2; have fy := frozen3 y2; have fx0 := fx 0; have fx1 := fx 1; have fx2 := fx 2; have fy0 := fy 0; have fy1 := fy 1; have fy2 := fy 2; have X2 := Lib.hid x2; have Y2 := Lib.hid y2; have HR2 := Lib.hid hr2'; have HB2 := Lib.hid (HV1.out.trans (hb2.mono HV1.out.size)); have HL2 := Lib.hid hL2.out; have HN2 := Lib.hid hn2; clear fx fy x2 y2 hr2' hb2 hL2 hn2 hc2)
        | fail)
      refine bodyPost_ret (results_pair rfl _ _ w.heap.size _ _ rfl rfl (load_sheet (block_set3 ((Below.heap_setCell w2 ⟨w.heap.size + 1, 2, none⟩ _ w.heap.size (by show w.heap.size ≠ w.heap.size + 1; omega)).trans X2.out)))) rfl ?_
      have hv := HV1.out.size
      have hy := lt_size HVY.out
      have hfar : ∀ q, q ≤ w.heap.size + 1 → ∀ a', A2 = some a' → 0 < L2.length → a'.block ≠ q := fun q hq a' e _ => by have := HN2.out a' e; omega
      have hf1 := hfar w.heap.size (by omega)
      have hf2 := hfar (w.heap.size + 1) (Nat.le_refl _)
      refine ⟨A2, c2, L2, by rw [HM.out]; rfl, Lib.hid (by rw [HM.out, HL2.out]; rfl), ?_, ((((HB2.out.setCell (p := ⟨w.heap.size + 1, 2, none⟩) (by simp) _).setCell (Nat.le_refl _) _).setCell (Nat.le_refl _) _).setCell (Nat.le_refl _) _)⟩
      have hfin := (((HR2.out.setFar hf2 (Value.slice A2 L2.length c2) (j := 2)).setFar hf1 (Value.int .i64 M.rp) (j := 0)).setFar hf1 (Value.int .i64 M.rs) (j := 1)).setFar hf1 (Value.slice A2 L2.length c2) (j := 2)
      exact hfin.mono (by simp)
/-- The greatest number of those found. -/
def seqL (l : List Fd) : Int := l.foldl (fun m f => max m f.1.2) 0
theorem seqL_snoc (l : List Fd) (f : Fd) : seqL (l ++ [f]) = max (seqL l) f.1.2 := by simp [seqL]
theorem seqL_take {l : List Fd} {j : Nat} (h : j < l.length) : seqL (l.take (j + 1)) = max (seqL (l.take j)) l[j].1.2 := by
  rw [List.take_add_one, List.getElem?_eq_getElem h]
  exact seqL_snoc _ _
set_option maxRecDepth 100000 in
set_option maxHeartbeats 2000000 in
theorem m_seq (h : ScanAt w s c Y v A cap M) (ok : MOk M) (hfd : M.fd.length ≤ 5000) : Calls Try.prog 18 #[PtrV s] w fun e w' => e = .returned (.int .i64 (seqL M.tell)) ∧ Below w.heap.size w w' := by
  have HF := Lib.hid (m_found h ok hfd)
  have hlen : M.tell.length ≤ 5000 := by unfold MS.tell; split; exact hfd; simp
  clear h ok hfd
  obtain ⟨l, hl⟩ : ∃ l, M.tell = l := ⟨_, rfl⟩
  rw [hl] at HF hlen ⊢
  clear hl
  go_enter Try.func18, Try.ntmps18
  go_wp2_with (go_at_call 19; refine HF.out.mono ?_; rintro e w2 ⟨A2, c2, rfl, g1, -, -, g4⟩; have G1 := Lib.hid g1; have G4 := Lib.hid g4; clear g1 g4)
  go_loopw [3, 9] (fun v3 v9 wr => ∃ j : Nat, j ≤ l.length ∧ v9 = .int .i64 j ∧ v3 = .int .i64 (seqL (l.take j)) ∧ Below w2.heap.size w2 wr) (fun _ v9 _ => l.length - (intOf v9).toNat)
  case atStart => exact ⟨0, Nat.zero_le _, rfl, rfl, Below.refl _ _⟩
  case round =>
    obtain ⟨j, hj, rfl, rfl, hb⟩ := hrel
    have HB := Lib.hid hb
    clear hb
    by_cases hlt : j < l.length
    · obtain ⟨B, o, rfl, hB, hc⟩ := G1.out (by omega)
      obtain ⟨k0, k1, k2, k3⟩ := hc j hlt
      have kk : ∀ a u, w2.cell? ⟨B, a, none⟩ = some u → wr.cell? ⟨B, a, none⟩ = some u := fun a u e => (HB.out.cell (p := ⟨B, a, none⟩) hB).trans e
      have r0 := kk _ _ k0
      have r1 := kk _ _ k1
      have r2 := kk _ _ k2
      have r3 := kk _ _ k3
      have HS := Lib.hid (seqL_take hlt)
      obtain ⟨m, hm⟩ : ∃ m, seqL (l.take j) = m := ⟨_, rfl⟩
      rw [hm] at HS ⊢
      generalize l[j] = fd at *
      clear k0 k1 k2 k3 hc kk hm
      rcases Int.le_total m fd.1.2 with hmx | hmx
      all_goals
        go_wp2_with fail
        go_roundw
        case rel => exact ⟨j + 1, by omega, by go_num, by first | (rw [HS.out, Int.max_eq_right hmx]; done) | (rw [HS.out, Int.max_eq_left hmx]; done) | (rw [HS.out]; done), HB.out.alloc HB.out.size _⟩
        case measure => simp [intOf]; omega
    · obtain rfl : j = l.length := by omega
      go_wp2
      go_ret
      exact ⟨by rw [List.take_length]; rfl, G4.out.trans (HB.out.mono G4.out.size)⟩
end
end Go.Proofs.Ytnadcdgpfopcaaa
