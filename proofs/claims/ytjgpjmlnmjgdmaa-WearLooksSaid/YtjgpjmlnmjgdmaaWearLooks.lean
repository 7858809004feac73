/- WearLooks: who is not looked at changes nothing; lists may be longer than one another: the law's walk. -/
import Derived.Test.YtjgpjmlnmjgdmaaWearApp
import Derived.Test.YtjgpjmlnmjgdmaaWearEnds
namespace Go.Proofs.Ytjgpjmlnmjgdmaa
open Go.RowKit

/-- The same but where nobody looks. -/
structure Spoilt (l : List Int) (b : List Bool) (M : List Int) : Prop where
  len : M.length = l.length
  same : ∀ i (h : i < l.length) (h' : i < M.length) (hb : i < b.length), b[i] = true → l[i] = M[i]
  wf : ∀ y ∈ M, (Lit.int .i64 y).wf = true
theorem Spoilt.set {l M : List Int} {b : List Bool} (h : Spoilt l b M) (j : Nat) {x : Int} (hx : (Lit.int .i64 x).wf = true) (hj : ∀ hb : j < b.length, b[j] = false) : Spoilt l b (M.set j x) := by
  refine ⟨by rw [List.length_set]; exact h.len, fun i h1 h2 hb hbt => ?_, fun y hy => ?_⟩
  · rw [List.getElem_set_ne]
    · exact h.same i h1 (by simpa using h2) hb hbt
    · intro e
      subst e
      rw [hj hb] at hbt
      cases hbt
  · rcases List.mem_or_eq_of_mem_set hy with h' | h'
    · exact h.wf y h'
    · rw [h']; exact hx
theorem Spoilt.start {l : List Int} {b : List Bool} (hw : ∀ y ∈ l, (Lit.int .i64 y).wf = true) : Spoilt l b l := ⟨rfl, fun _ _ _ _ _ => rfl, hw⟩
theorem Spoilt.alike {l M : List Int} {b : List Bool} (h : Spoilt l b M) : Alike (l.zip b) (M.zip b) := alike_zip l M b h.len.symm h.same
theorem IOwn.set {w : World} {base G n c : Nat} {l : List Int} (h : IOwn w base (.slice (some ⟨G, 0, none⟩) n c) l) (j : Nat) (x : Int) : IOwn (w.setCell ⟨G, j, none⟩ (.int .i64 x)) base (.slice (some ⟨G, 0, none⟩) n c) (l.set j x) := by
  have hn := h.arr.2.1
  subst hn
  have := (World.ownsRow.stored h j (.int .i64 x)).1
  unfold IOwn
  rw [List.length_set, List.map_set]
  exact this
theorem IOwn.grown {w0 w w' : World} {n : Nat} {v : Value} {xs : List Int} (h : IOwn w n v xs) (hb : Below n w0 w) (hg : w.grownBy w' v.ownBlock) (hn : n ≤ w.heap.size) : Below n w0 w' :=
  hb.grown hg hn fun k e => (World.ownsRow.lt h k e).1
theorem ia_grown {w w' : World} {A : Option Addr} {l : List Int} {row : Option Nat} (h : IA w A l) (hg : w.grownBy w' row) (hne : ∀ ad, A = some ad → some ad.block ≠ row) : IA w' A l := fun hn => by
  obtain ⟨B, o, e, hB, hc⟩ := h hn
  refine ⟨B, o, e, Nat.lt_of_lt_of_le hB hg.size, fun j hj => ?_⟩
  rw [← hc j hj]
  exact World.cell?_of_block (hg.block B hB (hne _ e))
theorem ba_take {w : World} {A : Option Addr} {b : List Bool} (h : BA w A b) (k : Nat) : BA w A (b.take k) := fun hn => by
  have hn' : 0 < b.length := by simp at hn; omega
  obtain ⟨B, o, e, hB, hc⟩ := h hn'
  refine ⟨B, o, e, hB, fun j hj => ?_⟩
  rw [hc j (by simp at hj; omega)]
  simp
theorem run_call2 {P : Program} {w : World} {o : Oper} {ρ : Operand → Value} (F : FuncId) (x y : Operand) (ts : Array TypeId) (ho : o.op = .call { callee := .value (.func F), args := #[x, y], argTypes := ts }) (hF : ρ (.func F) = .func (.func F) #[] #[]) {v u : Value} (hx : ρ x = v) (hy : ρ y = u) (hc : (callFunc F #[v, u]).run P w = .ok (.enter F #[v, u]) w) :
    (execOp ρ o).run P w = .ok (.enter F #[v, u]) w := by
  simp [execOp, ho, resolve, invoke, hF, hx, hy, hc, go_sem]
theorem step_call2 {w : World} {ops : Array Oper} {o : Oper} {a : Act} {K : Act → World → Prop} {Q : Exit → Act → World → Prop} {E : Prop} (F : FuncId) (hgd : o.guard = none) (x y : Operand) (ts : Array TypeId) (ho : o.op = .call { callee := .value (.func F), args := #[x, y], argTypes := ts }) (hF : a.eval (.func F) = .func (.func F) #[] #[])
    {v u : Value} (hx : a.eval x = v) (hy : a.eval y = u) (hc : (callFunc F #[v, u]).run Try.prog w = .ok (.enter F #[v, u]) w) (r : Value) (R : World → Prop) (hcall : Calls Try.prog F #[v, u] w (fun e w' => e = .returned r ∧ R w')) (h : ∀ w', R w' → K (a.put o.dst r) w') :
    if Region.wanted o (yielded ops a.tmps) = true then Oper.wp Try.prog o a w K Q else E := by
  rw [if_pos (by simp [Region.wanted, hgd])]
  unfold Oper.wp
  rw [run_call2 F x y ts ho hF hx hy hc, Oper.upon_enter]
  refine hcall.mono ?_
  rintro e w' ⟨rfl, hr⟩
  exact h w' hr
set_option maxRecDepth 100000 in
set_option maxHeartbeats 4000000 in
theorem looks_any (A A' : Option Addr) (c c' : Nat) (l : List Int) (b : List Bool) (x most : Int) (w : World) (_hc : l.length ≤ maxLen) (_hc' : b.length ≤ maxLen) (hA : IA w A l) (hA' : BA w A' b) (hw : ∀ y ∈ l, (Lit.int .i64 y).wf = true) (hx : (Lit.int .i64 x).wf = true) (hm : (Lit.int .i64 most).wf = true) (hAn : A = none → l = [] ∧ c = 0) (hcb : b.length ≤ c') (hR : Roomy A' c' b.length) :
    Calls Try.prog 6 #[.slice A l.length c, .slice A' b.length c', .int .i64 x, .int .i64 most] w (Holds w) := by
  unfold maxLen at _hc _hc'
  by_cases hl : l.length ≤ 60
  case neg =>
    go_enter Try.func6, Try.ntmps6
    go_wp2_with (go_at_call 8; (with_reducible refine (awake_any _).mono ?_); rintro e w9 ⟨rfl, hb9⟩)
    go_ret
    exact ⟨rfl, hb9⟩
  by_cases hb : b.length ≤ 60
  case neg =>
    go_enter Try.func6, Try.ntmps6
    go_wp2_with (go_at_call 8; (with_reducible refine (awake_any _).mono ?_); rintro e w9 ⟨rfl, hb9⟩)
    go_ret
    exact ⟨rfl, hb9⟩
  have HA := Lib.hid hA
  have HA' := Lib.hid hA'
  have HW := Lib.hid hw
  have HX := Lib.hid hx
  have HM := Lib.hid hm
  have HAn := Lib.hid hAn
  have HEn := Lib.hid (ends_any A A' c c' l b w (by omega) (by omega) hA hA' hw hR)
  have HRm := Lib.hid hR
  clear hA hA' hw hx hm hAn hR
  go_enter Try.func6, Try.ntmps6
  go_upto_region 4 with (go_at_call 9; (refine HEn.out.mono ?_); rintro e w1 ⟨rfl, hb1⟩)
  have HB1 := Lib.hid hb1
  have hs1 := hb1.size
  have HO1 := Lib.hid (iown_empty w1 w.heap.size hs1)
  have HA1 := Lib.hid ((HA.out.below hb1).below ((Below.refl _ _).alloc (Nat.le_refl _) (.cells #[] 3)))
  have HB2 := Lib.hid (hb1.alloc hs1 (.cells #[] 3))
  clear hb1 HEn
  go_upto_region 5 with (at_builtin; refine wpList_app rfl _ _ rfl w.heap.size _ [] l A c rfl rfl HO1.out HA1.out HAn.out (by simp; omega) (by simp; omega) ?_; intro q cap w2 hown hgr)
  have HO2 : Hid (IOwn w2 w.heap.size (.slice q l.length cap) l) := Lib.hid (by simpa using hown)
  have hs2 := hgr.size
  have HB3 := Lib.hid (HO1.out.grown HB2.out hgr (by simp; omega))
  clear hown HA1 HB1 HB2 HO1 hgr
  go_wp2_with fail
  go_loopw [37] (fun v wr => ∃ (j : Nat) (M : List Int), j ≤ l.length ∧ v = .int .i64 j ∧ Spoilt l b M ∧ IOwn wr w.heap.size (.slice q l.length cap) M ∧ Below w.heap.size w wr) (fun v _ => l.length - (intOf v).toNat)
  case atStart => exact ⟨0, l, Nat.zero_le _, rfl, Spoilt.start HW.out, HO2.out, HB3.out⟩
  case round =>
    obtain ⟨j, M, hj, rfl, hS, hO, hB⟩ := hrel
    have HS := Lib.hid hS
    have HO := Lib.hid hO
    have HB := Lib.hid hB
    clear hS hB
    by_cases hj1 : j < l.length
    · obtain ⟨G, cap', e0, hG⟩ : ∃ G cap', Value.slice q l.length cap = .slice (some ⟨G, 0, none⟩) l.length cap' ∧ w.heap.size ≤ G := by
        rcases hO.2 with ⟨_, h0⟩ | ⟨g, c1, cur, e1, hg, _⟩
        · have := HS.out.len; omega
        · exact ⟨g, c1, by rw [e1, HS.out.len], hg⟩
      simp only [Value.slice.injEq] at e0
      obtain ⟨rfl, _, rfl⟩ := e0
      have hml : j < M.length := by rw [HS.out.len]; exact hj1
      have q1 : wr.frozen? ⟨G, j, none⟩ = false := by
        have h := HO.out
        unfold IOwn at h
        rw [HS.out.len] at h
        exact h.frozenAt j
      have q0 : wr.cell? ⟨G, j, none⟩ = some (.int .i64 M[j]) := by
        have h := HO.out
        unfold IOwn at h
        rw [HS.out.len] at h
        rw [h.cellAt j (by omega)]
        simp [hml]
      generalize M[j] = y at q0
      have HON := Lib.hid (HO.out.set j x)
      have HBN := Lib.hid (HB.out.setCell (p := ⟨G, j, none⟩) hG (.int .i64 x))
      clear hO hG
      by_cases hjb : j < b.length
      · obtain ⟨Gb, ob, rfl, hGb, hcc⟩ := HA'.out (by omega)
        have k1 := (HB.out.cell (p := ⟨Gb, ob + j, none⟩) hGb).trans (hcc j hjb)
        cases hbj : b[j] with
        | true =>
          rw [hbj] at k1
          clear hcc hGb
          go_wp2_with fail
          go_roundw
          case rel => exact ⟨j + 1, M, by omega, by go_num, HS.out, HO.out, HB.out⟩
          case measure => simp [intOf]; omega
        | false =>
          rw [hbj] at k1
          have HSN := Lib.hid (HS.out.set j HX.out fun _ => hbj)
          clear hcc hGb
          go_wp2_with fail
          go_roundw
          case rel => exact ⟨j + 1, _, by omega, by go_num, HSN.out, HON.out, HBN.out⟩
          case measure => simp [intOf]; omega
      · have HSN := Lib.hid (HS.out.set j HX.out fun hb => absurd hb hjb)
        go_wp2_with fail
        go_roundw
        case rel => exact ⟨j + 1, _, by omega, by go_num, HSN.out, HON.out, HBN.out⟩
        case measure => simp [intOf]; omega
    · obtain rfl : j = l.length := by omega
      obtain ⟨e1, e2, e3, e4, e5⟩ := HS.out.alike.all
      have E1 := Lib.hid e1
      have E2 := Lib.hid e2
      obtain ⟨k, hk⟩ : ∃ k, k = min b.length l.length := ⟨_, rfl⟩
      have hmin : (if l.length < b.length then (l.length : Int) else (b.length : Int)) = (k : Int) := by
        rw [hk]; split <;> omega
      have hkc : k ≤ c' := by omega
      have HK := Lib.hid hk
      clear hk
      have HM2 := Lib.hid HO.out.arr.1
      have HAw := Lib.hid (HA.out.below HB.out)
      have HBw := Lib.hid (HA'.out.below HB.out)
      have hMl := HS.out.len
      have HEn := Lib.hid (ends_any q A' cap c' M b wr (by omega) (by omega) HM2.out HBw.out HS.out.wf HRm.out)
      rw [hMl, ← e1, ← e2] at HEn
      clear hO
      go_upto_region 12 with (go_at_call 9; (refine HEn.out.mono ?_); rintro e w6 ⟨rfl, hb6⟩)
      have HB6 := Lib.hid (HB.out.trans (hb6.mono HB.out.size))
      have hs6 := HB6.out.size
      have HA6 := Lib.hid (HAw.out.below hb6)
      have HBA6 := Lib.hid (HBw.out.below hb6)
      have HO6 := Lib.hid (HM2.out.below hb6)
      clear hb6 HEn HO2 HB3
      have HEnd : Hid (∀ (q4 : Option Addr) (cap4 : Nat) (w9 : World), IOwn w9 w6.heap.size (.slice q4 (l.length + 1) cap4) (l ++ [x]) → Below w6.heap.size w6 w9 → Calls Try.prog 9 #[.slice q4 (l.length + 1) cap4, .slice A' k c'] w9 (fun e w' => e = .returned (.tuple #[.int .i64 (loP (M.zip b)), .int .i64 (hiP (M.zip b))]) ∧ Below w6.heap.size w6 w')) := Lib.hid fun q4 cap4 w9 h9 hb9 => by
        have hk := HK.out
        have h := ends_any q4 A' cap4 c' (l ++ [x]) (b.take k) w9 (by simp; omega) (by simp; omega) h9.arr.1 (ba_take (HBA6.out.below hb9) k) (fun y hy => by
          rcases List.mem_append.1 hy with h' | h'
          · exact HW.out y h'
          · rw [List.mem_singleton.1 h']; exact HX.out) (HRm.out.le (by simp; omega))
        rw [show (l ++ [x]).length = l.length + 1 by simp, show (b.take k).length = k by simp; omega, hk, zip_more, E1.out, E2.out, ← hk] at h
        refine h.mono ?_
        rintro e w' ⟨rfl, hb⟩
        exact ⟨rfl, hb9.trans (hb.mono hb9.size)⟩
      have HOa : Hid (IOwn (w6.alloc (.cells #[] 3)).drew w6.heap.size (.slice (some ⟨w6.heap.size, 0, none⟩) 0 0) []) := Lib.hid (World.ownsRow.drew (iown_empty w6 w6.heap.size (Nat.le_refl _)))
      have HOb : Hid (IOwn ((w6.alloc (.cells #[] 3)).alloc (.cells #[.int .i64 x] 3)).drew w6.heap.size (.slice (some ⟨w6.heap.size, 0, none⟩) 0 0) []) := Lib.hid (World.ownsRow.drew (World.ownsRow.alloc (iown_empty w6 w6.heap.size (Nat.le_refl _)) _))
      have HOc : Hid (IOwn ((w6.alloc (.cells #[.int .i64 x] 3)).alloc (.cells #[] 3)).drew w6.heap.size (.slice (some ⟨w6.heap.size + 1, 0, none⟩) 0 0) []) := Lib.hid (by
        have := World.ownsRow.drew (iown_empty (w6.alloc (.cells #[.int .i64 x] 3)) w6.heap.size (by simp))
        unfold IOwn
        simpa using this)
      have HBa : Hid (Below w6.heap.size w6 (w6.alloc (.cells #[] 3)).drew) := Lib.hid ((Below.refl _ _).alloc (Nat.le_refl _) _).drew
      have HBb : Hid (Below w6.heap.size w6 ((w6.alloc (.cells #[] 3)).alloc (.cells #[.int .i64 x] 3)).drew) := Lib.hid (((Below.refl _ _).alloc (Nat.le_refl _) _).alloc (by simp) _).drew
      have HBc : Hid (Below w6.heap.size w6 ((w6.alloc (.cells #[.int .i64 x] 3)).alloc (.cells #[] 3)).drew) := Lib.hid (((Below.refl _ _).alloc (Nat.le_refl _) _).alloc (by simp) _).drew
      have HXb : Hid (IA ((w6.alloc (.cells #[] 3)).alloc (.cells #[.int .i64 x] 3)).drew (some ⟨w6.heap.size + 1, 0, none⟩) [x]) := Lib.hid (by
        have := (iown_one (w6.alloc (.cells #[] 3)) x).below (Below.drew (Below.refl _ _))
        simpa using this)
      have HXc : Hid (IA ((w6.alloc (.cells #[.int .i64 x] 3)).alloc (.cells #[] 3)).drew (some ⟨w6.heap.size, 0, none⟩) [x]) := Lib.hid ((iown_one w6 x).below (((Below.refl _ _).alloc (by simp) _).drew))
      go_cut [15, 16] (fun u v wx => u = .int .i64 (loP (M.zip b)) ∧ v = .int .i64 (hiP (M.zip b)) ∧ Below w6.heap.size w6 wx)
      case first =>
        go_region_law (first
          | (refine step_app (by rfl) (.tmp 63) (.tmp 64) (by rfl) w6.heap.size (.slice (some ⟨w6.heap.size, 0, none⟩) 0 0) [] l A c (by rfl) (by rfl) HOa.out (HA6.out.below HBa.out) HAn.out (by simp; omega) (by first | (simp; done) | (simp; omega)) ?_; intro q3 cap3 w7 hown hgr; have HO7 : Hid (IOwn w7 w6.heap.size (.slice q3 l.length cap3) l) := Lib.hid (by simpa using hown); have HB7 := Lib.hid (HOa.out.grown HBa.out hgr (by first | (simp; done) | (simp; omega))); have hs7 := HB7.out.size; have HX8 := Lib.hid (iown_one w7 x); have HO8 : Hid (IOwn (w7.alloc (.cells #[.int .i64 x] 3)) w6.heap.size (.slice q3 l.length cap3) l) := Lib.hid (World.ownsRow.alloc HO7.out _); have HB8 : Hid (Below w6.heap.size w6 (w7.alloc (.cells #[.int .i64 x] 3))) := Lib.hid (HB7.out.alloc hs7 _); clear hown hgr)
          | (refine step_app (by rfl) (.tmp 63) (.tmp 64) (by rfl) w6.heap.size (.slice (some ⟨w6.heap.size, 0, none⟩) 0 0) [] l A c (by rfl) (by rfl) HOb.out (HA6.out.below HBb.out) HAn.out (by simp; omega) (by first | (simp; done) | (simp; omega)) ?_; intro q3 cap3 w7 hown hgr; have HO7 : Hid (IOwn w7 w6.heap.size (.slice q3 l.length cap3) l) := Lib.hid (by simpa using hown); have HB7 := Lib.hid (HOb.out.grown HBb.out hgr (by first | (simp; done) | (simp; omega))); have hs7 := HB7.out.size; have HX8 := Lib.hid (ia_grown HXb.out hgr (by simp [Value.ownBlock])); clear hown hgr)
          | (refine step_app (by rfl) (.tmp 63) (.tmp 64) (by rfl) w6.heap.size (.slice (some ⟨w6.heap.size + 1, 0, none⟩) 0 0) [] l A c (by rfl) (by rfl) HOc.out (HA6.out.below HBc.out) HAn.out (by simp; omega) (by first | (simp; done) | (simp; omega)) ?_; intro q3 cap3 w7 hown hgr; have HO7 : Hid (IOwn w7 w6.heap.size (.slice q3 l.length cap3) l) := Lib.hid (by simpa using hown); have HB7 := Lib.hid (HOc.out.grown HBc.out hgr (by first | (simp; done) | (simp; omega))); have hs7 := HB7.out.size; have HX8 := Lib.hid (ia_grown HXc.out hgr (by simp [Value.ownBlock])); clear hown hgr)
          | (refine step_app (by rfl) (.tmp 65) (.tmp 67) (by rfl) w6.heap.size (.slice q3 l.length cap3) l [x] (some ⟨w7.heap.size, 0, none⟩) 1 (by rfl) (by rfl) HO8.out HX8.out (by intro h; cases h) (by simp; omega) (by first | omega | (simp; omega)) ?_; intro q4 cap4 w9 hown hgr; have HO9 : Hid (IOwn w9 w6.heap.size (.slice q4 (l.length + 1) cap4) (l ++ [x])) := Lib.hid hown; have HB9 := Lib.hid (HO8.out.grown HB8.out hgr (by first | omega | (simp; omega))); have HE9 := Lib.hid (HEnd.out q4 cap4 w9 HO9.out HB9.out); clear hown hgr)
          | (refine step_app (by rfl) (.tmp 65) (.tmp 67) (by rfl) w6.heap.size (.slice q3 l.length cap3) l [x] (some ⟨w6.heap.size + 1, 0, none⟩) 1 (by rfl) (by rfl) HO7.out HX8.out (by intro h; cases h) (by simp; omega) (by first | omega | (simp; omega)) ?_; intro q4 cap4 w9 hown hgr; have HO9 : Hid (IOwn w9 w6.heap.size (.slice q4 (l.length + 1) cap4) (l ++ [x])) := Lib.hid hown; have HB9 := Lib.hid (HO7.out.grown HB7.out hgr (by first | omega | (simp; omega))); have HE9 := Lib.hid (HEnd.out q4 cap4 w9 HO9.out HB9.out); clear hown hgr)
          | (refine step_app (by rfl) (.tmp 65) (.tmp 67) (by rfl) w6.heap.size (.slice q3 l.length cap3) l [x] (some ⟨w6.heap.size, 0, none⟩) 1 (by rfl) (by rfl) HO7.out HX8.out (by intro h; cases h) (by simp; omega) (by first | omega | (simp; omega)) ?_; intro q4 cap4 w9 hown hgr; have HO9 : Hid (IOwn w9 w6.heap.size (.slice q4 (l.length + 1) cap4) (l ++ [x])) := Lib.hid hown; have HB9 := Lib.hid (HO7.out.grown HB7.out hgr (by first | omega | (simp; omega))); have HE9 := Lib.hid (HEnd.out q4 cap4 w9 HO9.out HB9.out); clear hown hgr)
          | (refine step_call2 9 (by rfl) (.tmp 68) (.tmp 75) _ (by rfl) (by rfl) (by rfl) (by rfl) (by go_simp) _ _ HE9.out ?_; intro w10 hb10))
        all_goals
          go_wp2_with fail
          go_meet
          case rel => exact ⟨rfl, rfl, hb10⟩
      case rest =>
        obtain ⟨rfl, rfl, hb10⟩ := hcut
        have HC0 := Lib.hid (HB6.out.trans (hb10.mono hs6))
        have HI0 := Lib.hid (HA6.out.below hb10)
        have HJ0 := Lib.hid (HO6.out.below hb10)
        have HV0 := Lib.hid (HBA6.out.below hb10)
        clear hb10 HB6 HA6 HO6 HBA6 HOa HOb HOc HBa HBb HBc HXb HXc HEnd
        have HD0 := Lib.hid (due_any A A' c c' l b wc (by omega) (by omega) HI0.out HV0.out HW.out HRm.out most HM.out)
        go_wp2_with fail
        refine HD0.out.mono ?_
        rintro e w11 ⟨rfl, hq⟩
        have HC1 := Lib.hid (HC0.out.trans (hq.mono HC0.out.size))
        have HI1 := Lib.hid (HI0.out.below hq)
        have HJ1 := Lib.hid (HJ0.out.below hq)
        have HV1 := Lib.hid (HV0.out.below hq)
        clear hq HD0 HC0 HI0 HJ0 HV0
        have HD1 := Lib.hid (due_any q A' cap c' M b w11 (by omega) (by omega) HJ1.out HV1.out HS.out.wf HRm.out most HM.out)
        rw [hMl] at HD1
        go_wp2_with fail
        refine HD1.out.mono ?_
        rintro e w12 ⟨rfl, hq⟩
        have HC2 := Lib.hid (HC1.out.trans (hq.mono HC1.out.size))
        have HI2 := Lib.hid (HI1.out.below hq)
        have HJ2 := Lib.hid (HJ1.out.below hq)
        have HV2 := Lib.hid (HV1.out.below hq)
        clear hq HD1 HC1 HI1 HJ1 HV1
        have HD2 := Lib.hid (cold_any A A' c c' l b w12 (by omega) (by omega) HI2.out HV2.out HW.out HRm.out)
        go_wp2_with fail
        refine HD2.out.mono ?_
        rintro e w13 ⟨rfl, hq⟩
        have HC3 := Lib.hid (HC2.out.trans (hq.mono HC2.out.size))
        have HI3 := Lib.hid (HI2.out.below hq)
        have HJ3 := Lib.hid (HJ2.out.below hq)
        have HV3 := Lib.hid (HV2.out.below hq)
        clear hq HD2 HC2 HI2 HJ2 HV2
        have HD3 := Lib.hid (cold_any q A' cap c' M b w13 (by omega) (by omega) HJ3.out HV3.out HS.out.wf HRm.out)
        rw [hMl] at HD3
        go_wp2_with fail
        refine HD3.out.mono ?_
        rintro e w14 ⟨rfl, hq⟩
        have HC4 := Lib.hid (HC3.out.trans (hq.mono HC3.out.size))
        have HI4 := Lib.hid (HI3.out.below hq)
        have HJ4 := Lib.hid (HJ3.out.below hq)
        have HV4 := Lib.hid (HV3.out.below hq)
        clear hq HD3 HC3 HI3 HJ3 HV3
        go_wp2_with fail
        refine (awake_any w14).mono ?_
        rintro e wz ⟨rfl, hbz⟩
        go_wp2_with fail
        go_ret
        exact ⟨rfl, HC4.out.trans (hbz.mono HC4.out.size)⟩
end Go.Proofs.Ytjgpjmlnmjgdmaa
