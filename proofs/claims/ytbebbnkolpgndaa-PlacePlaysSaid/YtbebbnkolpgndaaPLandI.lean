/- Package place as a table of two maps: found, In, All. (Written by mkfound.py.) -/
import Derived.Test.YtbebbnkolpgndaaPLandL
import Derived.Test.YtbebbnkolpgndaaPCmp
namespace Go.Proofs.Ytbebbnkolpgndaa
open Go.RowKit Go.Maps Go.WideShapes

/-- What a call leaves that tells refs with their spots in a row of its own. -/
def FPost (l : List Fd) (w : World) (e : Ending) (w' : World) : Prop :=
  ∃ A c, e = .returned (.slice A l.length c) ∧ FLies w' A l ∧ (∀ ad, A = some ad → w.heap.size ≤ ad.block) ∧ Below w.heap.size w w'
theorem all1_any (s : P2) (W : World) : Calls Try.prog 24 #[P2V s] W fun e w' => e = .returned (.bool true) ∧ w' = W.alloc (.cells #[.int .i64 s.1, .int .i64 s.2] 24) := by
  go_enter Try.func24, Try.ntmps24
  go_wp2_with fail
  go_ret
  exact ⟨rfl, rfl⟩
theorem in1_any (b : Int) (g : Nat) (s : P2) (W : World) (hg : W.heap[g]? = some (.cells #[.int .i64 b] 3 (0, 0))) : Calls Try.prog 23 #[P2V s, .pointer (some ⟨g, 0, none⟩)] W fun e w' => e = .returned (.bool (s.1 == b)) ∧ w' = W.alloc (.cells #[.int .i64 s.1, .int .i64 s.2] 24) := by
  have hl := lt_size hg
  have h1 := (heap_alloc_old W (.cells #[.int .i64 s.1, .int .i64 s.2] 24) hl).trans hg
  have c0 : (W.alloc (.cells #[.int .i64 s.1, .int .i64 s.2] 24)).cell? ⟨g, 0, none⟩ = some (.int .i64 b) := by simp [World.cell?, h1]
  clear h1 hg
  go_enter Try.func23, Try.ntmps23
  go_wp2_with fail
  go_ret
  exact ⟨rfl, rfl⟩
section
variable {w w' : World} {p : Nat} {x y : Nat → Prop} {T : List Fd}
set_option maxRecDepth 100000 in
set_option maxHeartbeats 2000000 in
theorem foundT_all (h : Tab w p x T) (hl : T.length ≤ 1000) : Calls Try.prog 22 #[.pointer (some ⟨p, 0, none⟩), .func (.func 24) #[] #[]] w (FPost (allT T) w) := by
  have HG := Lib.hid h.gwf.2
  have HN := Lib.hid h.wf.spots
  rcases h.cases with ⟨rfl, h1, -⟩ | ⟨bb, c, h1, h2, h3, h4, h5, h6, h7, h8, h9⟩
  · obtain ⟨d0, d1, -, -⟩ := cells2q h1
    have hr := fun w : World => run_range_nilMap (P := Try.prog) w 52 _ _ mt_refs.ht
    have hn := fun w : World => run_next_nilMap (P := Try.prog) w
    clear h h1 HG HN hl
    go_enter Try.func22, Try.ntmps22
    go_wp2_with fail
    refine wp_loop_rounds 1 ?_
    repeat any_goals (rw [rounds_succ]; go_wp2_with (go_at_call 25; refine (sort_none _ _).mono ?_; rintro e w9 ⟨rfl, rfl⟩))
    go_ret
    exact ⟨none, 0, rfl, (fun hn => absurd hn (Nat.lt_irrefl _)), (fun _ e => nomatch e), (Below.refl _ _).alloc (Nat.le_refl _) _⟩
  obtain ⟨d0, d1, -, -⟩ := cells2q h1
  have HM := Lib.hid h3
  have hcl := h3.lt
  clear h h1 h2 h3 h4 h5 h6 h7 h8 h9
  go_enter Try.func22, Try.ntmps22
  go_wp2_with (at_range; refine wp_range mt_refs rfl _ rfl rfl HM.out HG.out ?_; intro w1 hr1 hg1 hs1)
  go_frame
  have hb1 : Below w.heap.size w w1 := ⟨hg1.os, hg1.tape, hg1.output, hg1.size, fun i hi => hg1.block i hi (by simp)⟩
  have HB1 := Lib.hid hb1
  have HR1 := Lib.hid hr1
  have hsz1 : w.heap.size + 1 ≤ w1.heap.size := by omega
  clear hb1 hr1 hg1 hs1
  go_loopw [5] (fun v3 wr => ∃ (S L : List Fd) (cnt : Nat), RgS 24 Prod.snd Prod.fst wr c w.heap.size T S cnt ∧ L.Perm S ∧ FOwn wr (w.heap.size + 1) v3 L ∧ Below w.heap.size w wr ∧ w.heap.size + 1 ≤ wr.heap.size) (fun _ wr => wr.rangeLeft c w.heap.size)
  case atStart => exact ⟨[], [], _, HR1.out, List.Perm.nil, fown_nil _ _, HB1.out, hsz1⟩
  case round =>
    obtain ⟨S, L, cnt, hr, hp, hO, hB, hsz⟩ := hrel
    have HR := Lib.hid hr
    have HB := Lib.hid hB
    have HO := Lib.hid hO
    have HP := Lib.hid hp
    have hL : L.length ≤ 1000 := by rw [hp.length_eq]; exact Nat.le_trans (Nat.le_refl _) (Nat.le_trans hr.len hl)
    clear hr hB hO hp
    obtain ⟨q, cap, rfl, -⟩ := own_slice HO.out
    go_wp2_with (first
      | (at_next; refine wp_next mt_refs rfl _ rfl rfl HR.out HN.out HG.out (fun hp => ?_) (fun f w2 cnt2 hf hr2 hlt hg2 hs2 hen =>
          have HB2 : Hid (Below w.heap.size wr w2) := Lib.hid ⟨hg2.os, hg2.tape, hg2.output, hg2.size, fun i hi => hg2.block i (by omega) (by simp; omega)⟩
          have HO2 : Hid (FOwn w2 (w.heap.size + 1) (.slice q L.length cap) L) := Lib.hid (own_keep HO.out fun k e => hg2.block k (World.ownsRow.lt HO.out k e).2 (by have := (World.ownsRow.lt HO.out k e).1; simp; omega))
          have HR2 := Lib.hid hr2
          ?_))
      | (go_at_call 24; refine (all1_any f.2 _).mono ?_; rintro e w5 ⟨rfl, rfl⟩)
      | (go_at_call 25; refine (sorted_any HO.out (by omega)).mono ?_; rintro e w9 ⟨rfl, hb9, l9, hp9, hs9, hf9⟩)
      | (at_builtin; refine wpList_fapp rfl _ _ rfl (w.heap.size + 1) (.slice q L.length cap) L [f] (some ⟨wr.heap.size + 1 + 1 + 1, 0, none⟩) 1 rfl rfl (fown_keep HO2.out ((((Below.refl _ _).alloc (Nat.le_refl _) _).alloc (by simp) _ |>.alloc (by simp; omega) _) |>.alloc (by simp; omega) _)) (fown_one_at _ f (by simp [hs2])) (by simp) (by simp; omega) (by simp; omega) ?_; intro q3 cap3 w3 h3 hg3))
    · go_ret
      have e9 : l9 = allT T := all_of HN.out (hp9.trans (HP.out.trans hp)) hs9
      have e8 : (allT T).length = L.length := by rw [← e9, hp9.length_eq]
      exact ⟨q, cap, by rw [e8]; rfl, e9 ▸ hf9, fun ad e => Nat.le_of_succ_le (HO.out.lies.2.2.1 ad e), hb9 _ _ (Nat.le_succ _) HB.out⟩
    · have hO3 : FOwn w3 (w.heap.size + 1) (.slice q3 (L.length + 1) cap3) (L ++ [f]) := by simpa using h3
      have hsz3 := hg3.size
      simp only [World.size_alloc] at hsz3
      have hr3 := ((((HR2.out.kept (World.grownBy_alloc w2 _ none) (by simp) (by simp)).kept (World.grownBy_alloc _ _ none) (by simp) (by simp)).kept (World.grownBy_alloc _ _ none) (by simp) (by simp)).kept (World.grownBy_alloc _ _ none) (by simp) (by simp)).kept hg3 (fun e => by have := (World.ownsRow.lt HO.out _ e.symm).1; omega) (fun e => by have := (World.ownsRow.lt HO.out _ e.symm).1; omega)
      have hb3 := (((((HB.out.trans HB2.out).alloc (by omega) _).alloc (by simp; omega) _).alloc (by simp; omega) _).alloc (by simp; omega) _).grown hg3 (by simp; omega) fun k e => Nat.le_of_succ_le (World.ownsRow.lt HO.out k e).1
      exact ⟨⟨f :: S, L ++ [f], cnt2, hr3, List.perm_append_comm.trans (HP.out.cons f), hO3, hb3, by omega⟩, by rw [hr3.left, HR.out.left]; exact hlt⟩
set_option maxRecDepth 100000 in
set_option maxHeartbeats 2000000 in
theorem foundT_in (b : Int) (g : Nat) (h : Tab w p x T) (hl : T.length ≤ 1000) (hg : w.heap[g]? = some (.cells #[.int .i64 b] 3 (0, 0))) : Calls Try.prog 22 #[.pointer (some ⟨p, 0, none⟩), .func (.func 23) #[] #[.pointer (some ⟨g, 0, none⟩)]] w (FPost (inT T b) w) := by
  have HG := Lib.hid h.gwf.2
  have HN := Lib.hid h.wf.spots
  have HC := Lib.hid hg
  have hgl := lt_size hg
  clear hg
  rcases h.cases with ⟨rfl, h1, -⟩ | ⟨bb, c, h1, h2, h3, h4, h5, h6, h7, h8, h9⟩
  · obtain ⟨d0, d1, -, -⟩ := cells2q h1
    have hr := fun w : World => run_range_nilMap (P := Try.prog) w 52 _ _ mt_refs.ht
    have hn := fun w : World => run_next_nilMap (P := Try.prog) w
    clear h h1 HG HN hl
    go_enter Try.func22, Try.ntmps22
    go_wp2_with fail
    refine wp_loop_rounds 1 ?_
    repeat any_goals (rw [rounds_succ]; go_wp2_with (go_at_call 25; refine (sort_none _ _).mono ?_; rintro e w9 ⟨rfl, rfl⟩))
    go_ret
    exact ⟨none, 0, rfl, (fun hn => absurd hn (Nat.lt_irrefl _)), (fun _ e => nomatch e), (Below.refl _ _).alloc (Nat.le_refl _) _⟩
  obtain ⟨d0, d1, -, -⟩ := cells2q h1
  have HM := Lib.hid h3
  have hcl := h3.lt
  clear h h1 h2 h3 h4 h5 h6 h7 h8 h9
  go_enter Try.func22, Try.ntmps22
  go_wp2_with (at_range; refine wp_range mt_refs rfl _ rfl rfl HM.out HG.out ?_; intro w1 hr1 hg1 hs1)
  go_frame
  have hb1 : Below w.heap.size w w1 := ⟨hg1.os, hg1.tape, hg1.output, hg1.size, fun i hi => hg1.block i hi (by simp)⟩
  have HB1 := Lib.hid hb1
  have HR1 := Lib.hid hr1
  have hsz1 : w.heap.size + 1 ≤ w1.heap.size := by omega
  clear hb1 hr1 hg1 hs1
  go_loopw [5] (fun v3 wr => ∃ (S L : List Fd) (cnt : Nat), RgS 24 Prod.snd Prod.fst wr c w.heap.size T S cnt ∧ L.Perm (S.filter fun f => f.2.1 == b) ∧ FOwn wr (w.heap.size + 1) v3 L ∧ Below w.heap.size w wr ∧ w.heap.size + 1 ≤ wr.heap.size) (fun _ wr => wr.rangeLeft c w.heap.size)
  case atStart => exact ⟨[], [], _, HR1.out, List.Perm.nil, fown_nil _ _, HB1.out, hsz1⟩
  case round =>
    obtain ⟨S, L, cnt, hr, hp, hO, hB, hsz⟩ := hrel
    have HR := Lib.hid hr
    have HB := Lib.hid hB
    have HO := Lib.hid hO
    have HP := Lib.hid hp
    have hL : L.length ≤ 1000 := by rw [hp.length_eq]; exact Nat.le_trans (List.length_filter_le _ _) (Nat.le_trans hr.len hl)
    clear hr hB hO hp
    obtain ⟨q, cap, rfl, -⟩ := own_slice HO.out
    go_wp2_with (first
      | (at_next; refine wp_next mt_refs rfl _ rfl rfl HR.out HN.out HG.out (fun hp => ?_) (fun f w2 cnt2 hf hr2 hlt hg2 hs2 hen =>
          have HB2 : Hid (Below w.heap.size wr w2) := Lib.hid ⟨hg2.os, hg2.tape, hg2.output, hg2.size, fun i hi => hg2.block i (by omega) (by simp; omega)⟩
          have HO2 : Hid (FOwn w2 (w.heap.size + 1) (.slice q L.length cap) L) := Lib.hid (own_keep HO.out fun k e => hg2.block k (World.ownsRow.lt HO.out k e).2 (by have := (World.ownsRow.lt HO.out k e).1; simp; omega))
          have HR2 := Lib.hid hr2
          ?_))
      | (go_at_call 23; refine (in1_any b g f.2 _ ((heap_alloc_old _ _ (by simp; omega)).trans ((heap_alloc_old _ _ (by omega)).trans ((HB2.out.block g hgl).trans ((HB.out.block g hgl).trans HC.out))))).mono ?_; rintro e w5 ⟨rfl, rfl⟩)
      | (go_at_call 25; refine (sorted_any HO.out (by omega)).mono ?_; rintro e w9 ⟨rfl, hb9, l9, hp9, hs9, hf9⟩)
      | (at_builtin; refine wpList_fapp rfl _ _ rfl (w.heap.size + 1) (.slice q L.length cap) L [f] (some ⟨wr.heap.size + 1 + 1 + 1, 0, none⟩) 1 rfl rfl (fown_keep HO2.out ((((Below.refl _ _).alloc (Nat.le_refl _) _).alloc (by simp) _ |>.alloc (by simp; omega) _) |>.alloc (by simp; omega) _)) (fown_one_at _ f (by simp [hs2])) (by simp) (by simp; omega) (by simp; omega) ?_; intro q3 cap3 w3 h3 hg3))
    · go_ret
      have e9 : l9 = inT T b := in_of HN.out (hp9.trans (HP.out.trans (hp.filter _))) hs9
      have e8 : (inT T b).length = L.length := by rw [← e9, hp9.length_eq]
      exact ⟨q, cap, by rw [e8]; rfl, e9 ▸ hf9, fun ad e => Nat.le_of_succ_le (HO.out.lies.2.2.1 ad e), hb9 _ _ (Nat.le_succ _) HB.out⟩
    · have hO3 : FOwn w3 (w.heap.size + 1) (.slice q3 (L.length + 1) cap3) (L ++ [f]) := by simpa using h3
      have hsz3 := hg3.size
      simp only [World.size_alloc] at hsz3
      have hr3 := ((((HR2.out.kept (World.grownBy_alloc w2 _ none) (by simp) (by simp)).kept (World.grownBy_alloc _ _ none) (by simp) (by simp)).kept (World.grownBy_alloc _ _ none) (by simp) (by simp)).kept (World.grownBy_alloc _ _ none) (by simp) (by simp)).kept hg3 (fun e => by have := (World.ownsRow.lt HO.out _ e.symm).1; omega) (fun e => by have := (World.ownsRow.lt HO.out _ e.symm).1; omega)
      have hb3 := (((((HB.out.trans HB2.out).alloc (by omega) _).alloc (by simp; omega) _).alloc (by simp; omega) _).alloc (by simp; omega) _).grown hg3 (by simp; omega) fun k e => Nat.le_of_succ_le (World.ownsRow.lt HO.out k e).1
      refine ⟨⟨f :: S, L ++ [f], cnt2, hr3, ?_, hO3, hb3, by omega⟩, by rw [hr3.left, HR.out.left]; exact hlt⟩
      rw [List.filter_cons, if_pos (by simp [*])]
      exact List.perm_append_comm.trans (HP.out.cons f)
    · have hr3 := ((HR2.out.kept (World.grownBy_alloc w2 (.cells #[.int .i64 f.2.1, .int .i64 f.2.2] 24) none) (by simp) (by simp)).kept (World.grownBy_alloc _ (.cells #[.int .i64 f.1.1, .int .i64 f.1.2] 30) none) (by simp) (by simp)).kept (World.grownBy_alloc _ (.cells #[.int .i64 f.2.1, .int .i64 f.2.2] 24) none) (by simp) (by simp)
      refine ⟨⟨f :: S, L, cnt2, hr3, ?_, fown_keep HO2.out ((((Below.refl _ _).alloc (Nat.le_refl _) _).alloc (by simp) _).alloc (by simp; omega) _), (((HB.out.trans HB2.out).alloc (by omega) _).alloc (by simp; omega) _).alloc (by simp; omega) _, by simp; omega⟩, by rw [hr3.left, HR.out.left]; exact hlt⟩
      rw [List.filter_cons, if_neg (by simp [*])]
      exact HP.out
theorem allT_any (h : Tab w p x T) (hl : T.length ≤ 1000) : Calls Try.prog 18 #[.pointer (some ⟨p, 0, none⟩)] w (FPost (allT T) w) := by
  go_enter Try.func18, Try.ntmps18
  go_wp2_with (go_at_call 22; refine (foundT_all h hl).mono ?_; rintro e w9 ⟨A, c, rfl, h1, h2, h3⟩)
  go_ret
  exact ⟨A, c, rfl, h1, h2, h3⟩
theorem inT_any (b : Int) (h : Tab w p x T) (hl : T.length ≤ 1000) (_hb : (Lit.int .i64 b).wf = true) : Calls Try.prog 17 #[.pointer (some ⟨p, 0, none⟩), .int .i64 b] w (FPost (inT T b) w) := by
  have h0 := heap_alloc_new w (.cells #[.int .i64 b] 3)
  have hb0 : Below w.heap.size w (w.alloc (.cells #[.int .i64 b] 3)) := (Below.refl _ _).alloc (Nat.le_refl _) _
  have HT := Lib.hid (h.below hb0)
  clear h
  go_enter Try.func17, Try.ntmps17
  go_wp2_with (go_at_call 22; refine (foundT_in b w.heap.size HT.out hl h0).mono ?_; rintro e w9 ⟨A, c, rfl, h1, h2, h3⟩)
  go_ret
  exact ⟨A, c, rfl, h1, fun ad e => Nat.le_trans (by simp) (h2 ad e), hb0.trans (h3.mono (by simp))⟩
end
end Go.Proofs.Ytbebbnkolpgndaa
