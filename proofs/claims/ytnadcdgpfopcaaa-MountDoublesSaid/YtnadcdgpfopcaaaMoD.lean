/- A scan: the iterator over the pages that are read: its walk. -/
import Derived.Test.YtnadcdgpfopcaaaMoC
namespace Go.Proofs.Ytnadcdgpfopcaaa
open Go.RowKit Go.Shelf

attribute [local go_sem] Oper.semAt_some

theorem wrTo_succ (S : LS) (P fr en k : Nat) : wrTo S P fr en (k + 1) = wrTo S P fr en k ++ if (tellB S (k : Int)).next = 0 then [] else pgs P k fr en := by
  unfold wrTo
  rw [List.range_succ, List.flatMap_append]
  simp
theorem wrTo_zero (S : LS) (P fr en : Nat) : wrTo S P fr en 0 = [] := rfl
theorem wrTo_prefix (S : LS) (P fr en : Nat) {j k : Nat} (h : j ≤ k) : wrTo S P fr en j <+: wrTo S P fr en k := by
  induction h with
  | refl => exact List.prefix_refl _
  | step _ ih => exact ih.trans (by rw [wrTo_succ]; exact List.prefix_append _ _)
theorem pgs_none {P b fr en : Nat} (h : min en (b * P + P) ≤ max fr (b * P)) : pgs P b fr en = [] := by
  unfold pgs
  rw [show min en (b * P + P) - max fr (b * P) = 0 by omega]
  rfl
theorem pgs_len (P b fr en : Nat) : (pgs P b fr en).length = min en (b * P + P) - max fr (b * P) := by simp [pgs]
/-- The pages of block b up to page k, counted over all. -/
theorem pgs_take {P b fr en f k : Nat} (hf : f = b * P) (h1 : max fr f ≤ k) (h2 : k < min en (f + P)) : (pgs P b fr en).take (k + 1 - max fr f) = (pgs P b fr en).take (k - max fr f) ++ [((b : Int), (k : Int) - (f : Int))] := by
  subst hf
  have hl : k - max fr (b * P) < (pgs P b fr en).length := by rw [pgs_len]; omega
  rw [show k + 1 - max fr (b * P) = (k - max fr (b * P)) + 1 by omega, List.take_add_one, List.getElem?_eq_getElem hl]
  congr 1
  simp only [Option.toList_some, List.cons.injEq, and_true]
  show (List.map _ _)[k - max fr (b * P)]'(by simpa [pgs] using hl) = _
  rw [List.getElem_map, List.getElem_range']
  simp only [Prod.mk.injEq, true_and]
  omega
theorem pgs_full {P b fr en f : Nat} (hf : f = b * P) : (pgs P b fr en).take (min en (f + P) - max fr f) = pgs P b fr en := by
  subst hf
  rw [List.take_of_length_le (by rw [pgs_len]; omega)]
section
variable {w w' W : World} {s c N0 b1 b2 b3 : Nat} {Z : Nat → Prop} {S S' : LS}
theorem tell_same {S S' : LS} (h : S'.bl = S.bl) (i : Int) : tellB S' i = tellB S i := by unfold tellB isL blkL; rw [h]
theorem abides_below {α : Type} {B0 : Nat} {J : List α → World → Prop} (h : AbidesFrom B0 J) {pre : List α} {X Y : World} (hJ : J pre X) (hb : Below X.heap.size X Y) : J pre Y :=
  h _ _ _ none hJ ⟨hb.os, hb.tape, hb.output, hb.size, fun k hk _ => hb.block k hk⟩ (fun _ e => by cases e)
set_option maxRecDepth 100000 in
set_option maxHeartbeats 4000000 in
theorem written_in (n l B P fr en B0 : Nat) (hB : B ≤ 64) (hP : P ≤ 32) (hen : en ≤ 2048) (J Jx : List P2 → World → Prop) (hAb : AbidesFrom B0 J)
    (hY : ∀ pre (x : P2) W, J pre W → pre.length < (wrTo S P fr en B).length → YieldAt Fence.wide (n - 1) Try.prog l (encS x) W (RoundEnds (WKeep N0 s c b1 b2 b3 Z B P fr en S) J Jx pre x W))
    (W : World) (hR : Reads N0 s c b1 b2 b3 Z B P fr en S W) (h0 : J [] W) :
    CallsIn Fence.wide n Try.prog 53 #[.func (.yield l) #[] #[], PtrV b1, PtrV b2, PtrV b3] W (SeqEnds J Jx (wrTo S P fr en B)) := by
  have HR := Lib.hid hR
  have c1 := hR.c1
  have x1 := hR.x1
  clear hR
  refine callsIn_of_wp Try.func53 rfl trivial ?_ rfl
  simp only [Try.ntmps53, List.size_toArray, List.length_cons, List.length_nil, Nat.reduceAdd, Nat.reduceSub, Array.replicate_succ, Array.replicate_zero, List.push_toArray, List.append_toArray, List.nil_append, List.cons_append]
  gi_wp2
  gi_loopw [13] (fun i wr => ∃ b : Nat, b ≤ B ∧ i = .int .i64 b ∧ J (wrTo S P fr en b) wr ∧ Reads N0 s c b1 b2 b3 Z B P fr en S wr)
    (fun i _ => B - (intOf i).toNat)
  case atStart => exact ⟨0, Nat.zero_le _, rfl, h0, HR.out⟩
  case round =>
    obtain ⟨b, hb, rfl, hJ, hk⟩ := hrel
    have HR1 := Lib.hid hk
    have c0 := HR1.out.c0
    have c2 := HR1.out.c2
    have y1 := HR1.out.x1
    have y2 := HR1.out.x2
    have y3 := HR1.out.x3
    clear hk
    by_cases hlt : b < B
    · obtain ⟨f, hf⟩ : ∃ f, f = b * P := ⟨_, rfl⟩
      have hf2 : f ≤ 2048 := by rw [hf]; calc b * P ≤ 64 * 32 := Nat.mul_le_mul (by omega) hP
          _ = 2048 := rfl
      have hmul : IntKind.i64.wrap ((b : Int) * (P : Int)) = (f : Int) := by rw [i64w_id _ (by rw [← Int.natCast_mul, ← hf]; omega), ← Int.natCast_mul, ← hf]
      have HF := Lib.hid hf
      clear hf
      have HN := Lib.hid (wrTo_succ S P fr en b)
      obtain ⟨a, ha⟩ : ∃ a, a = max fr f := ⟨_, rfl⟩
      obtain ⟨t, ht⟩ : ∃ t, t = min en (f + P) := ⟨_, rfl⟩
      have ha2 : max (fr : Int) (f : Int) = (a : Int) := by omega
      have ht2 : min (en : Int) ((f : Int) + (P : Int)) = (t : Int) := by omega
      have hat : f ≤ a := by omega
      have htb : t ≤ 2048 := by omega
      have HA := Lib.hid ha
      have HT := Lib.hid ht
      clear ha ht
      obtain ⟨S1, hS1, eS1, eN1⟩ := HR1.out.chip
      have HC1 := Lib.hid hS1
      have HES := Lib.hid eS1
      obtain ⟨q, hq⟩ : ∃ q, q = tellB S (b : Int) := ⟨_, rfl⟩
      rw [← hq] at HN
      have HQ := Lib.hid hq
      clear hS1 eS1 eN1 hq
      by_cases hta : t ≤ a
      · have HE : Hid (wrTo S P fr en (b + 1) = wrTo S P fr en b) := Lib.hid (by
          rw [HN.out]
          have h1 := HA.out
          have h2 := HT.out
          have h3 := HF.out
          rw [pgs_none (by rw [← h3, ← h1, ← h2]; exact hta)]
          simp)
        gi_wp2
        gi_region
        all_goals
          gi_wp2
          refine ⟨trivial, ?_⟩
          rename_i K hK
          refine hK _ _ ?_
          clear hK K
          gi_wp2
          go_roundw
          case rel => exact ⟨b + 1, by omega, by simp, by rw [HE.out]; exact abides_below hAb hJ (Below.refl _ _).drew, HR1.out.below (Below.refl _ _).drew⟩
          case measure => simp [intOf]; omega
      · by_cases hnx : q.next = 0
        · have HE : Hid (wrTo S P fr en (b + 1) = wrTo S P fr en b) := Lib.hid (by rw [HN.out, if_pos hnx]; simp)
          gi_wp2
          gi_region
          all_goals
            gi_wp2_with (refine ⟨trivial, ?_⟩; refine ⟨wide_depth _, ?_⟩; gi_at_call 33; refine (callsIn_wide.2 (held_block (b : Int) (HC1.out.below (Below.refl _ _).drew))).mono ?_; rintro e w2 ⟨v2, rfl, ⟨A2, c2, rfl, _, _⟩, hb2⟩; rw [tell_same HES.out, ← HQ.out]; have fnx := field_next q.bad q.next q.count A2 q.pages.length c2 w2; rw [hnx] at fnx ⊢)
            go_roundw
            case rel => exact ⟨b + 1, by omega, by simp, by rw [HE.out]; exact abides_below hAb hJ ((Below.refl _ _).drew.trans hb2), HR1.out.below ((Below.refl _ _).drew.trans hb2)⟩
            case measure => simp [intOf]; omega
        · have hnx2 : (q.next == 0) = false := by simpa using hnx
          have HE : Hid (wrTo S P fr en (b + 1) = wrTo S P fr en b ++ pgs P b fr en) := Lib.hid (by rw [HN.out, if_neg hnx])
          clear hnx
          gi_wp2
          gi_region
          all_goals
            gi_wp2_with (refine ⟨trivial, ?_⟩; refine ⟨wide_depth _, ?_⟩; gi_at_call 33; refine (callsIn_wide.2 (held_block (b : Int) (HC1.out.below (Below.refl _ _).drew))).mono ?_; rintro e w2 ⟨v2, rfl, ⟨A2, c2, rfl, _, _⟩, hb2⟩; rw [tell_same HES.out, ← HQ.out]; have fnx := field_next q.bad q.next q.count A2 q.pages.length c2 w2)
            have HB2 := Lib.hid ((Below.refl _ _).drew.trans hb2)
            clear hb2 fnx
            gi_loopw [7] (fun i wi => ∃ k : Nat, a ≤ k ∧ k ≤ t ∧ i = .int .i64 k ∧ J (wrTo S P fr en b ++ (pgs P b fr en).take (k - a)) wi ∧ Reads N0 s c b1 b2 b3 Z B P fr en S wi) (fun i _ => t - (intOf i).toNat)
            case atStart => exact ⟨a, Nat.le_refl _, by omega, rfl, by rw [Nat.sub_self, List.take_zero, List.append_nil]; exact abides_below hAb hJ HB2.out, HR1.out.below HB2.out⟩
            case round =>
              obtain ⟨k, hka, hkt, rfl, hJ2, hk2⟩ := hrel
              by_cases hk : k < t
              · have HTK : Hid (wrTo S P fr en b ++ (pgs P b fr en).take (k + 1 - a) = (wrTo S P fr en b ++ (pgs P b fr en).take (k - a)) ++ [((b : Int), (k : Int) - (f : Int))]) := Lib.hid (by
                  have h1 := HA.out
                  have h2 := HT.out
                  rw [h1, pgs_take HF.out (by omega) (by omega), List.append_assoc])
                have hpre : wrTo S P fr en b ++ (pgs P b fr en).take (k + 1 - a) <+: wrTo S P fr en B := by
                  refine List.IsPrefix.trans ?_ (wrTo_prefix S P fr en (show b + 1 ≤ B by omega))
                  rw [HE.out]
                  exact (List.prefix_append_right_inj _).2 (List.take_prefix _ _)
                have hlen : (wrTo S P fr en b ++ (pgs P b fr en).take (k - a)).length < (wrTo S P fr en B).length := by
                  have := hpre.length_le
                  have e1 := congrArg List.length HTK.out
                  simp only [List.length_append, List.length_singleton] at e1 this ⊢
                  omega
                obtain ⟨fn, tmps, assign, body, hy, hRd⟩ := hY _ ((b : Int), (k : Int) - (f : Int)) wr hJ2 hlen
                have HPR := Lib.hid hpre
                have HK2 := Lib.hid hk2
                clear hlen hpre hk2 hJ2
                gi_wp2_with (refine ⟨wide_depth _, ?_⟩; refine hRd.mono ?_; clear hRd; rintro e W3 (⟨rfl, hJ3, hk3⟩ | ⟨rfl, hJx3⟩))
                · go_roundw
                  case rel => exact ⟨k + 1, by omega, by omega, by simp, by rw [HTK.out]; exact hJ3, hk3 HK2.out⟩
                  case measure => simp [intOf]; omega
                · refine bodyPost_ret (results_none rfl _ _ _) rfl ?_
                  exact ⟨⟨_, rfl⟩, .inr ⟨_, HPR.out, by rw [HTK.out]; exact hJx3⟩⟩
              · obtain rfl : k = t := by omega
                gi_wp2
                go_roundw
                case rel => exact ⟨b + 1, by omega, by simp, by rw [HE.out, ← pgs_full HF.out (fr := fr) (en := en), ← HA.out, ← HT.out]; exact hJ2, hk2⟩
                case measure => simp [intOf]; omega
    · obtain rfl : b = B := by omega
      gi_wp2
      go_end0
      exact ⟨⟨_, rfl⟩, .inl ⟨_, rfl, hJ⟩⟩
theorem written_stops (n B P fr en : Nat) (hB : B ≤ 64) (hP : P ≤ 32) (hen : en ≤ 2048) (w : World) (hR : Reads w.heap.size s c b1 b2 b3 Z B P fr en S w) :
    SeqStopsK Fence.wide n Try.prog 53 #[PtrV b1, PtrV b2, PtrV b3] encS (WKeep w.heap.size s c b1 b2 b3 Z B P fr en S) (fun ys => ys = wrTo S P fr en B) (fun pre => pre <+: wrTo S P fr en B) (wrTo S P fr en B).length w :=
  fun l J Jx W hW hAb _ hY h0 => written_in n l B P fr en W.heap.size hB hP hen J Jx hAb hY W (hR.below hW) h0
end
end Go.Proofs.Ytnadcdgpfopcaaa
