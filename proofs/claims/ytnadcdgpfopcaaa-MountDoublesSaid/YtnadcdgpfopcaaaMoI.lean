/- slices.Backward over a row of what was found: an iterator that leans on two blocks. -/
import Derived.Test.YtnadcdgpfopcaaaMoH
namespace Go.Proofs.Ytnadcdgpfopcaaa
open Go.RowKit Go.Shelf

attribute [local go_sem] Oper.semAt_some

abbrev FdV (f : Fd) : Value := .agg #[.int .i64 f.1.1, .int .i64 f.1.2, .int .i64 f.2.1, .int .i64 f.2.2]
/-- A place of the row and what stands there. -/
abbrev encB (l : List Fd) (x : Fin l.length) : Array Value := #[.int .i64 (x.val : Int), FdV l[x.val]]
/-- From behind. -/
def backL (l : List Fd) : List (Fin l.length) := (List.finRange l.length).reverse
theorem backL_len (l : List Fd) : (backL l).length = l.length := by simp [backL]
theorem backL_take (l : List Fd) {k : Nat} (h : k < l.length) : (backL l).take (l.length - k) = (backL l).take (l.length - (k + 1)) ++ [⟨k, h⟩] := by
  rw [show l.length - k = (l.length - (k + 1)) + 1 by omega, List.take_add_one, List.getElem?_eq_getElem (by rw [backL_len]; omega)]
  congr 1
  simp only [Option.toList_some, List.cons.injEq, and_true]
  unfold backL
  rw [List.getElem_reverse, List.getElem_finRange]
  simp
  omega
/-- What the iterator leans on. -/
def BKeep (Bs : Nat) (A : Option Addr) (W W' : World) : Prop := ∀ b, (b = Bs ∨ ∃ ad, A = some ad ∧ ad.block = b) → W'.heap[b]? = W.heap[b]?
theorem BKeep.trans {Bs : Nat} {A : Option Addr} {X Y Z : World} (h : BKeep Bs A X Y) (k : BKeep Bs A Y Z) : BKeep Bs A X Z := fun b hb => (k b hb).trans (h b hb)
section
variable {w w' W : World}
set_option maxRecDepth 100000 in
set_option maxHeartbeats 2000000 in
theorem back_in (n l Bs cap : Nat) (A : Option Addr) (fd : List Fd) (hlen : fd.length ≤ 100000) (J Jx : List (Fin fd.length) → World → Prop)
    (hY : ∀ pre (x : Fin fd.length) W, J pre W → pre.length < (backL fd).length → YieldAt Fence.wide (n - 1) Try.prog l (encB fd x) W (RoundEnds (BKeep Bs A) J Jx pre x W))
    (W : World) (hBs : W.cell? ⟨Bs, 0, none⟩ = some (.slice A fd.length cap)) (hF : FLies W A fd) (h0 : J [] W) :
    CallsIn Fence.wide n Try.prog 66 #[.func (.yield l) #[] #[], .pointer (some ⟨Bs, 0, none⟩)] W (SeqEnds J Jx (backL fd)) := by
  have HF := Lib.hid hF
  have HBs := Lib.hid hBs
  clear hF
  refine callsIn_of_wp Try.func66 rfl trivial ?_ rfl
  simp only [Try.ntmps66, List.size_toArray, List.length_cons, List.length_nil, Nat.reduceAdd, Nat.reduceSub, Array.replicate_succ, Array.replicate_zero, List.push_toArray, List.append_toArray, List.nil_append, List.cons_append]
  gi_wp2
  gi_loopw [3] (fun i wr => ∃ (z : Int) (k : Nat), z = (k : Int) - 1 ∧ k ≤ fd.length ∧ i = .int .i64 z ∧ J ((backL fd).take (fd.length - k)) wr ∧ BKeep Bs A W wr)
    (fun i _ => (intOf i + 1).toNat)
  case atStart => exact ⟨_, fd.length, rfl, Nat.le_refl _, rfl, by rw [Nat.sub_self]; exact h0, fun _ _ => rfl⟩
  case round =>
    obtain ⟨z, k, hz, hk, rfl, hJ, hkp⟩ := hrel
    have HK := Lib.hid hkp
    have hbx := (World.cell?_of_block (a := ⟨Bs, 0, none⟩) (hkp Bs (.inl rfl))).trans HBs.out
    clear hkp hBs
    rcases k with _ | k
    · have hzn : z < 0 := by omega
      clear hz
      gi_wp2
      go_end0
      rw [List.take_of_length_le (by rw [backL_len]; omega)] at hJ
      exact ⟨⟨_, rfl⟩, .inl ⟨_, rfl, hJ⟩⟩
    · obtain rfl : z = (k : Int) := by omega
      have hkl : k < fd.length := by omega
      obtain ⟨B, o, rfl, hB, hc⟩ := HF.out (by omega)
      obtain ⟨c0, c1, c2, c3⟩ := hc k hkl
      have hbk := HK.out B (.inr ⟨_, rfl, rfl⟩)
      have d0 := (World.cell?_of_block (a := ⟨B, o + k * 4, none⟩) hbk).trans c0
      have d1 := (World.cell?_of_block (a := ⟨B, o + k * 4 + 1, none⟩) hbk).trans c1
      have d2 := (World.cell?_of_block (a := ⟨B, o + k * 4 + 2, none⟩) hbk).trans c2
      have d3 := (World.cell?_of_block (a := ⟨B, o + k * 4 + 3, none⟩) hbk).trans c3
      have HT := Lib.hid (backL_take fd hkl)
      have hpl : ((backL fd).take (fd.length - (k + 1))).length < (backL fd).length := by rw [List.length_take, backL_len]; omega
      obtain ⟨f, hf⟩ : ∃ f, fd[k] = f := ⟨_, rfl⟩
      have hYk : YieldAt Fence.wide (n - 1) Try.prog l #[.int .i64 (k : Int), FdV f] wr (RoundEnds (BKeep Bs (some ⟨B, o, none⟩)) J Jx ((backL fd).take (fd.length - (k + 1))) ⟨k, hkl⟩ wr) := by rw [← hf]; exact hY _ ⟨k, hkl⟩ wr hJ hpl
      obtain ⟨fn, tmps, assign, body, hy, hRd⟩ := hYk
      simp only [hf] at d0 d1 d2 d3
      clear hpl hc c0 c1 c2 c3 hf hbk hJ hz
      gi_wp2_with (refine ⟨wide_depth _, ?_⟩; refine hRd.mono ?_; clear hRd; rintro e W3 (⟨rfl, hJ3, hk3⟩ | ⟨rfl, hJx3⟩))
      · go_roundw
        case rel => exact ⟨_, k, rfl, by omega, rfl, by rw [HT.out]; exact hJ3, HK.out.trans hk3⟩
        case measure => simp [intOf]
      · refine bodyPost_ret (results_none rfl _ _ _) rfl ?_
        exact ⟨⟨_, rfl⟩, .inr ⟨_, List.take_prefix (fd.length - k) _, by rw [HT.out]; exact hJx3⟩⟩
theorem enters_back : ∀ args w, (callFunc 66 args).run Try.prog w = .ok (.enter 66 args) w := enters_of Try.func66 (by kernel_rfl) rfl
theorem back_stops (n Bs cap : Nat) (A : Option Addr) (fd : List Fd) (hlen : fd.length ≤ 100000) (w : World) (hl : Bs < w.heap.size) (hBs : w.cell? ⟨Bs, 0, none⟩ = some (.slice A fd.length cap)) (hF : FLies w A fd) :
    SeqStopsK Fence.wide n Try.prog 66 #[.pointer (some ⟨Bs, 0, none⟩)] (encB fd) (BKeep Bs A) (fun ys => ys = backL fd) (fun pre => pre <+: backL fd) (backL fd).length w :=
  fun l J Jx W hW _ _ hY h0 => back_in n l Bs cap A fd hlen J Jx hY W ((hW.cell (p := ⟨Bs, 0, none⟩) hl).trans hBs) (hF.below hW) h0
set_option maxRecDepth 100000 in
theorem back_any (A : Option Addr) (m c : Nat) (w : World) : Calls Try.prog 56 #[.slice A m c] w fun e w' => e = .returned (.func (.func 66) #[] #[.pointer (some ⟨w.heap.size, 0, none⟩)]) ∧ w' = w.alloc (.cells #[.slice A m c] 45) := by
  go_enter Try.func56, Try.ntmps56
  go_wp2_with fail
  go_ret
  exact ⟨rfl, rfl⟩
end
end Go.Proofs.Ytnadcdgpfopcaaa
