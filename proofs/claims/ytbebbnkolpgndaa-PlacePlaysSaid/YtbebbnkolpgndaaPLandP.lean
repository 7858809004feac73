/- Package place as a table of two maps: pair, where the maps grow; Put. -/
import Derived.Test.YtbebbnkolpgndaaPLandC
namespace Go.Proofs.Ytbebbnkolpgndaa
open Go.RowKit Go.Maps Go.WideShapes Go.ChangeMaps

theorem eql_map_nil (o : Option Nat) (w : World) : Sem.run Try.prog (binOp BinOp.eql 51 (.map o) (.map none)) w = .ok (.bool o.isNone) w := by
  simp only [binOp]
  simp [run_equal_map_nil (P := Try.prog) w 51 _ _ o mt_spots.ht]
theorem block_set_same {w : World} {b : Nat} {o : Obj} (h : w.heap[b]? = some o) (o' : Obj) : (setBlock w b o').heap[b]? = some o' := by
  simp [setBlock, lt_size h]
theorem block_set_other (w : World) {b i : Nat} (o : Obj) (h : i ≠ b) : (setBlock w b o).heap[i]? = w.heap[i]? := by
  simp [setBlock, Ne.symm h]
theorem size_setB (w : World) (b : Nat) (o : Obj) : (setBlock w b o).heap.size = w.heap.size := by simp [setBlock]
/-- What stands between the two pairs' four steps. -/
structure Steps (t k : TypeId) (b : Nat) (x y : P2) (V V1 V2 : World) (v : Value) (st : Nat) : Prop where
  made : (Instr.mapEntry t (.map (some b)) (P2V x)).run Try.prog V = .ok (.tuple #[v, .int .i64 (st : Int)]) V1
  filled : (Instr.entryStore t (.map (some b)) (.int .i64 (st : Int)) (P2V y)).run Try.prog V1 = .ok () V2
  safe : Turned (fun i => i = b) V V2
  size : V1.heap.size = V.heap.size ∧ V2.heap.size = V.heap.size
  mid : ∀ i, i ≠ b → V1.heap[i]? = V.heap[i]?
theorem steps_any {t k e : TypeId} (M : MapTy t k e) (K : WideMaps.KeyLaw Try.prog k) {g h : Fd → P2} {T T' : List Fd} {V : World} {b : Nat} {f : Fd} (hown : MapAt k g h V b T) (hl : T.length ≤ 1000000) (hw : GWf g T) (hr : WfP (g f)) (hp : T'.Perm (f :: T.filter fun f' => g f' != g f)) :
    ∃ V1 V2 v st, Steps t k b (g f) (h f) V V1 V2 v st ∧ MapAt k g h V2 b T' := by
  obtain ⟨v0, st, o, q1, q2⟩ := run_entry_store M K hown hl hw hr hp
  obtain ⟨D, ⟨es, clock, hb, -⟩, -⟩ := hown
  obtain ⟨o', q3, q4⟩ := q2 (setBlock V b o) (block_set_same hb o)
  refine ⟨_, _, v0, st, ⟨q1, q3, ⟨rfl, rfl, rfl, by simp [size_setB], fun i _ hi => ?_⟩, ⟨size_setB _ _ _, by simp [size_setB]⟩, fun i hi => block_set_other _ _ hi⟩, q4⟩
  rw [block_set_other _ _ hi, block_set_other _ _ hi]
section
variable {w w' : World} {p : Nat} {x y : Nat → Prop} {T : List Fd}
set_option maxRecDepth 100000 in
set_option maxHeartbeats 2000000 in
theorem pairT_any (r s : P2) (h : Tab w p x T) (hl : T.length ≤ 1000) (hr : WfP r) (hs : WfP s) (e1 : (T.filter fun f => f.1 != r) = T) (e2 : (T.filter fun f => f.2 != s) = T) (hw' : WfT ((r, s) :: T)) :
    Calls Try.prog 19 #[.pointer (some ⟨p, 0, none⟩), P2V r, P2V s] w fun e w' => e = .returned (.tuple #[]) ∧ Tab w' p x ((r, s) :: T) ∧ Safe x w w' := by
  have HH := Lib.hid h
  have HR := Lib.hid hr
  have HS := Lib.hid hs
  have HE1 := Lib.hid e1
  have HE2 := Lib.hid e2
  have HWf' := Lib.hid hw'
  clear h hr hs e1 e2 hw'
  obtain ⟨W, hW⟩ : ∃ W, (w.alloc (.cells #[.int .i64 r.1, .int .i64 r.2] 30)).alloc (.cells #[.int .i64 s.1, .int .i64 s.2] 24) = W := ⟨_, rfl⟩
  have HB : Hid (Below w.heap.size w W) := Lib.hid (by rw [← hW]; exact ((Below.refl _ _).alloc (Nat.le_refl _) _).alloc (by simp) _)
  have HW : Hid (W.heap[w.heap.size]? = some (.cells #[.int .i64 r.1, .int .i64 r.2] 30 (0, 0))) := Lib.hid (by rw [← hW]; exact (heap_alloc_old _ _ (by simp)).trans (heap_alloc_new w _))
  have HW2 : Hid (W.heap[w.heap.size + 1]? = some (.cells #[.int .i64 s.1, .int .i64 s.2] 24 (0, 0))) := Lib.hid (by rw [← hW]; have := heap_alloc_new (w.alloc (.cells #[.int .i64 r.1, .int .i64 r.2] 30)) (.cells #[.int .i64 s.1, .int .i64 s.2] 24); simpa using this)
  obtain ⟨e0, e1, -, -⟩ := cells2q HW.out
  obtain ⟨f0, f1, -, -⟩ := cells2q HW2.out
  have HG := Lib.hid HH.out.gwf
  rcases HH.out.cases with ⟨rfl, h1, h7⟩ | ⟨b, c, h1, h2, h3, h4, h5, h6, h7, h8, h9⟩
  · have HP3 := Lib.hid ((HB.out.block _ (lt_size h1)).trans h1)
    have HLp := Lib.hid (lt_size h1)
    have h7' := Lib.hid h7
    clear h1 h7
    have hz := lt_size HP3.out
    have hzW : W.heap.size = w.heap.size + 1 + 1 := by rw [← hW]; simp
    obtain ⟨d0, d1, -, -⟩ := cells2q HP3.out
    obtain ⟨Y, hY⟩ : ∃ Y, (W.alloc (.map #[] 0)).alloc (.map #[] 0) = Y := ⟨_, rfl⟩
    have HPY : Hid (Y.heap[p]? = some (.cells #[.map none, .map none] 54 (0, 0))) := Lib.hid (by rw [← hY, heap_alloc_old _ _ (by simp; omega), heap_alloc_old _ _ hz]; exact HP3.out)
    obtain ⟨y0, y1, y2, y3⟩ := cells2q HPY.out
    have hnil := eql_map_nil none
    have hmm := @run_makeMap Try.prog
    go_enter Try.func19, Try.ntmps19
    go_wp2_with fail
    have hzp := HLp.out
    obtain ⟨b, hb⟩ : ∃ b, w.heap.size + 1 + 1 = b := ⟨_, rfl⟩
    obtain ⟨c, hc⟩ : ∃ c, w.heap.size + 1 + 1 + 1 = c := ⟨_, rfl⟩
    rw [hc, hb]
    obtain ⟨X, hX⟩ : ∃ X, (Y.setCell ⟨p, 0, none⟩ (.map (some b))).setCell ⟨p, 1, none⟩ (.map (some c)) = X := ⟨_, rfl⟩
    rw [hX]
    have hYs : Y.heap.size = w.heap.size + 1 + 1 + 1 + 1 := by rw [← hY]; simp [hzW]
    have hXs : X.heap.size = Y.heap.size := by rw [← hX]; simp
    have HP4 : Hid (X.heap[p]? = some (.cells #[.map (some b), .map (some c)] 54 (0, 0))) := Lib.hid (by rw [← hX]; exact two_set HPY.out _ _)
    have hXo : ∀ i, i ≠ p → X.heap[i]? = Y.heap[i]? := fun i hi => by
      rw [← hX]
      exact (Below.heap_setCell _ _ _ i hi).trans (Below.heap_setCell _ _ _ i hi)
    have hYo : ∀ i, i < W.heap.size → Y.heap[i]? = W.heap[i]? := fun i hi => by
      rw [← hY]
      exact (heap_alloc_old _ _ (by simp; omega)).trans (heap_alloc_old _ _ hi)
    have HX1 := Lib.hid (((hXo w.heap.size (by omega)).trans (hYo _ (by omega))).trans HW.out)
    have HX2 := Lib.hid (((hXo (w.heap.size + 1) (by omega)).trans (hYo _ (by omega))).trans HW2.out)
    have ho := World.ownsMap_made (H := Unit) W Try.prog 30 RP
    have ho2 := World.ownsMap_made (H := Unit) (W.alloc (.map #[] 0)) Try.prog 24 RP
    have m1 : MapAt 30 Prod.fst Prod.snd (W.alloc (.map #[] 0)) b [] := by
      rw [← hb, ← hzW]
      exact mapAt_mk ho mr_empty
    have m2 : MapAt 24 Prod.snd Prod.fst Y c [] := by
      rw [← hc, ← hzW, ← hY]
      simpa using mapAt_mk ho2 (mr_empty (g := Prod.snd) (h := Prod.fst))
    have HM4 : Hid (MapAt 30 Prod.fst Prod.snd X b []) := Lib.hid (m1.kept ((hXo b (by omega)).trans (by rw [← hY]; exact heap_alloc_old _ _ (by simp; omega))))
    have HN4' : Hid (MapAt 24 Prod.snd Prod.fst X c []) := Lib.hid (m2.kept (hXo c (by omega)))
    have hne : p ≠ b ∧ p ≠ c ∧ w.heap.size ≠ b ∧ w.heap.size ≠ c ∧ w.heap.size + 1 ≠ b ∧ w.heap.size + 1 ≠ c ∧ True := ⟨by omega, by omega, by omega, by omega, by omega, by omega, trivial⟩
    have hbc : b ≠ c := by omega
    have hxx : ¬ x p ∧ ¬ x b ∧ ¬ x c := ⟨h7'.out, fun k => by have := HH.out.there b k; omega, fun k => by have := HH.out.there c k; omega⟩
    have HBX : Hid (w.heap.size ≤ X.heap.size) := Lib.hid (by omega)
    have HSX : Hid (Safe x w X) := Lib.hid (by
      rw [← hX, ← hY]
      exact ((((safe_of_below HB.out).alloc _).alloc _).setCell (fun _ => hxx.1) _).setCell (fun _ => hxx.1) _)
    clear hX hXs hXo hYo hYs hY ho ho2 m1 m2 y0 y1 y2 y3 d0 d1 e0 e1 f0 f1 hW hz hzW hzp hb hc HP3 HPY
    have HT1 : ((r, s) :: ([] : List Fd)).Perm ((r, s) :: ([] : List Fd).filter fun f' => f'.1 != r) := List.Perm.of_eq (by rw [HE1.out])
    have HT2 : ((r, s) :: ([] : List Fd)).Perm ((r, s) :: ([] : List Fd).filter fun f' => f'.2 != s) := List.Perm.of_eq (by rw [HE2.out])
    obtain ⟨V0, hV0⟩ : ∃ V0, X.drew = V0 := ⟨_, rfl⟩
    obtain ⟨V1, V2, v, st, S1, hm2⟩ := steps_any mt_spots kl_ref (V := V0) (f := (r, s)) (HM4.out.kept (by rw [← hV0]; rfl)) (by omega) HG.out.1 HR.out HT1
    have hn2 : MapAt 24 Prod.snd Prod.fst V2 c ([] : List Fd) := HN4'.out.kept ((S1.safe.block _ (by rw [← hV0]; exact HN4'.out.lt) hbc.symm).trans (by rw [← hV0]; rfl))
    obtain ⟨V3, V4, v', st', S2, hn4⟩ := steps_any mt_refs kl_spot (V := V2) (f := (r, s)) hn2 (by omega) HG.out.2 HS.out HT2
    have a1 := S1.made
    have a2 := S1.filled
    have a3 := S2.made
    have a4 := S2.filled
    have keep : ∀ V : World, (∀ i, i ≠ b → i ≠ c → V.heap[i]? = X.heap[i]?) → V.cell? ⟨p, 0, none⟩ = some (.map (some b)) ∧ V.cell? ⟨p, 1, none⟩ = some (.map (some c)) ∧ V.cell? ⟨w.heap.size, 0, none⟩ = some (.int .i64 r.1) ∧ V.cell? ⟨w.heap.size, 1, none⟩ = some (.int .i64 r.2) ∧ V.cell? ⟨w.heap.size + 1, 0, none⟩ = some (.int .i64 s.1) ∧ V.cell? ⟨w.heap.size + 1, 1, none⟩ = some (.int .i64 s.2) := fun V hV => by
      have g1 := cells2q ((hV p hne.1 hne.2.1).trans HP4.out)
      have g2 := cells2q ((hV w.heap.size hne.2.2.1 hne.2.2.2.1).trans HX1.out)
      have g3 := cells2q ((hV (w.heap.size + 1) hne.2.2.2.2.1 hne.2.2.2.2.2.1).trans HX2.out)
      exact ⟨g1.1, g1.2.1, g2.1, g2.2.1, g3.1, g3.2.1⟩
    have z0 : ∀ i, i < X.heap.size → i ≠ b → V2.heap[i]? = X.heap[i]? := fun i hi hb => (S1.safe.block i (by rw [← hV0]; exact hi) hb).trans (by rw [← hV0]; rfl)
    have k0 := Lib.hid (keep V0 fun i _ _ => by rw [← hV0]; rfl)
    have k1 := Lib.hid (keep V1 fun i hb _ => (S1.mid i hb).trans (by rw [← hV0]; rfl))
    have k2 := Lib.hid (keep V2 fun i hb _ => by
      by_cases hi : i < X.heap.size
      · exact z0 i hi hb
      · rw [Array.getElem?_eq_none (by rw [S1.size.2, ← hV0]; exact Nat.le_of_not_lt hi), Array.getElem?_eq_none (Nat.le_of_not_lt hi)])
    have k3 := Lib.hid (keep V3 fun i hb hc => (S2.mid i hc).trans (by
      by_cases hi : i < X.heap.size
      · exact z0 i hi hb
      · rw [Array.getElem?_eq_none (by rw [S1.size.2, ← hV0]; exact Nat.le_of_not_lt hi), Array.getElem?_eq_none (Nat.le_of_not_lt hi)]))
    have k4 := Lib.hid (keep V4 fun i hb hc => by
      by_cases hi : i < X.heap.size
      · exact (S2.safe.block i (by rw [S1.size.2, ← hV0]; exact hi) hc).trans (z0 i hi hb)
      · rw [Array.getElem?_eq_none (by rw [S2.size.2, S1.size.2, ← hV0]; exact Nat.le_of_not_lt hi), Array.getElem?_eq_none (Nat.le_of_not_lt hi)])
    have HS1 := Lib.hid S1
    have HS2 := Lib.hid S2
    have HM2 := Lib.hid hm2
    have HN4 := Lib.hid hn4
    subst hV0
    clear S1 S2 hm2 hn4 hn2 keep z0 HT1 HT2
    go_region_held3 (fun V => V.cell? ⟨p, 0, none⟩ = some (.map (some b)) ∧ V.cell? ⟨p, 1, none⟩ = some (.map (some c)) ∧ V.cell? ⟨w.heap.size, 0, none⟩ = some (.int .i64 r.1) ∧ V.cell? ⟨w.heap.size, 1, none⟩ = some (.int .i64 r.2) ∧ V.cell? ⟨w.heap.size + 1, 0, none⟩ = some (.int .i64 s.1) ∧ V.cell? ⟨w.heap.size + 1, 1, none⟩ = some (.int .i64 s.2))
      (first | exact k0.out | exact k1.out | exact k2.out | exact k3.out | exact k4.out)
      (fail)
    refine bodyPost_end (by simp [results, Try.results19, go_sem]; try rfl) rfl ?_
    have b2 : ∀ i, i < X.heap.size → i ≠ b → V2.heap[i]? = X.heap[i]? := fun i hi hb => HS1.out.safe.block i hi hb
    have b4 : ∀ i, i < X.heap.size → i ≠ c → V4.heap[i]? = V2.heap[i]? := fun i hi hc => HS2.out.safe.block i (by rw [HS1.out.size.2]; exact hi) hc
    have lp := lt_size HP4.out
    have lb := HM4.out.lt
    have hp4 := ((b4 p lp hne.2.1).trans (b2 p lp hne.1)).trans HP4.out
    have hm4 : MapAt 30 Prod.fst Prod.snd V4 b ((r, s) :: ([] : List Fd)) := HM2.out.kept (b4 b lb hbc)
    have s1 : Safe x X V2 := undrew ((Turned.refl _ X.drew).trans HS1.out.safe fun i _ hi => by rw [hi]; exact hxx.2.1)
    have s2 : Safe x V2 V4 := (Turned.refl _ V2).trans HS2.out.safe fun i _ hi => by rw [hi]; exact hxx.2.2
    have hsf : Safe x w V4 := (HSX.out.then s1).then s2
    exact ⟨rfl, Tab.of_maps HWf'.out (fun f hf => by
      rcases List.mem_cons.1 hf with rfl | hf
      · exact ⟨HR.out, HS.out⟩
      · exact HH.out.ints f hf) hp4 hm4 HN4.out hbc hne.1 hne.2.1 hxx.1 hxx.2.1 hxx.2.2 (fun b hb => Nat.lt_of_lt_of_le (HH.out.there b hb) hsf.size), hsf⟩
  · have HLb := Lib.hid h2.lt
    have HLc := Lib.hid h3.lt
    have HP4 := Lib.hid ((HB.out.block _ (lt_size h1)).trans h1)
    have HM4 := Lib.hid (h2.kept (HB.out.block _ HLb.out))
    have HN4' := Lib.hid (h3.kept (HB.out.block _ HLc.out))
    have hne : p ≠ b ∧ p ≠ c ∧ w.heap.size ≠ b ∧ w.heap.size ≠ c ∧ w.heap.size + 1 ≠ b ∧ w.heap.size + 1 ≠ c ∧ True := ⟨h5, h6, by have := HLb.out; omega, by have := HLc.out; omega, by have := HLb.out; omega, by have := HLc.out; omega, trivial⟩
    have hbc : b ≠ c := h4
    have hxx : ¬ x p ∧ ¬ x b ∧ ¬ x c := ⟨h7, h8, h9⟩
    obtain ⟨d0, d1, -, -⟩ := cells2q HP4.out
    have hnil := eql_map_nil (some b)
    clear h1 h2 h3 h4 h5 h6 h7 h8 h9
    go_enter Try.func19, Try.ntmps19
    go_wp2_with fail
    clear d0 d1 e0 e1 f0 f1 hW
    have HSX : Hid (Safe x w W) := Lib.hid (safe_of_below HB.out)
    have HX1 := HW
    have HX2 := HW2
    have HT1 : ((r, s) :: T).Perm ((r, s) :: T.filter fun f' => f'.1 != r) := List.Perm.of_eq (by rw [HE1.out])
    have HT2 : ((r, s) :: T).Perm ((r, s) :: T.filter fun f' => f'.2 != s) := List.Perm.of_eq (by rw [HE2.out])
    obtain ⟨V0, hV0⟩ : ∃ V0, W.drew = V0 := ⟨_, rfl⟩
    obtain ⟨V1, V2, v, st, S1, hm2⟩ := steps_any mt_spots kl_ref (V := V0) (f := (r, s)) (HM4.out.kept (by rw [← hV0]; rfl)) (by omega) HG.out.1 HR.out HT1
    have hn2 : MapAt 24 Prod.snd Prod.fst V2 c T := HN4'.out.kept ((S1.safe.block _ (by rw [← hV0]; exact HN4'.out.lt) hbc.symm).trans (by rw [← hV0]; rfl))
    obtain ⟨V3, V4, v', st', S2, hn4⟩ := steps_any mt_refs kl_spot (V := V2) (f := (r, s)) hn2 (by omega) HG.out.2 HS.out HT2
    have a1 := S1.made
    have a2 := S1.filled
    have a3 := S2.made
    have a4 := S2.filled
    have keep : ∀ V : World, (∀ i, i ≠ b → i ≠ c → V.heap[i]? = W.heap[i]?) → V.cell? ⟨p, 0, none⟩ = some (.map (some b)) ∧ V.cell? ⟨p, 1, none⟩ = some (.map (some c)) ∧ V.cell? ⟨w.heap.size, 0, none⟩ = some (.int .i64 r.1) ∧ V.cell? ⟨w.heap.size, 1, none⟩ = some (.int .i64 r.2) ∧ V.cell? ⟨w.heap.size + 1, 0, none⟩ = some (.int .i64 s.1) ∧ V.cell? ⟨w.heap.size + 1, 1, none⟩ = some (.int .i64 s.2) := fun V hV => by
      have g1 := cells2q ((hV p hne.1 hne.2.1).trans HP4.out)
      have g2 := cells2q ((hV w.heap.size hne.2.2.1 hne.2.2.2.1).trans HX1.out)
      have g3 := cells2q ((hV (w.heap.size + 1) hne.2.2.2.2.1 hne.2.2.2.2.2.1).trans HX2.out)
      exact ⟨g1.1, g1.2.1, g2.1, g2.2.1, g3.1, g3.2.1⟩
    have z0 : ∀ i, i < W.heap.size → i ≠ b → V2.heap[i]? = W.heap[i]? := fun i hi hb => (S1.safe.block i (by rw [← hV0]; exact hi) hb).trans (by rw [← hV0]; rfl)
    have k0 := Lib.hid (keep V0 fun i _ _ => by rw [← hV0]; rfl)
    have k1 := Lib.hid (keep V1 fun i hb _ => (S1.mid i hb).trans (by rw [← hV0]; rfl))
    have k2 := Lib.hid (keep V2 fun i hb _ => by
      by_cases hi : i < W.heap.size
      · exact z0 i hi hb
      · rw [Array.getElem?_eq_none (by rw [S1.size.2, ← hV0]; exact Nat.le_of_not_lt hi), Array.getElem?_eq_none (Nat.le_of_not_lt hi)])
    have k3 := Lib.hid (keep V3 fun i hb hc => (S2.mid i hc).trans (by
      by_cases hi : i < W.heap.size
      · exact z0 i hi hb
      · rw [Array.getElem?_eq_none (by rw [S1.size.2, ← hV0]; exact Nat.le_of_not_lt hi), Array.getElem?_eq_none (Nat.le_of_not_lt hi)]))
    have k4 := Lib.hid (keep V4 fun i hb hc => by
      by_cases hi : i < W.heap.size
      · exact (S2.safe.block i (by rw [S1.size.2, ← hV0]; exact hi) hc).trans (z0 i hi hb)
      · rw [Array.getElem?_eq_none (by rw [S2.size.2, S1.size.2, ← hV0]; exact Nat.le_of_not_lt hi), Array.getElem?_eq_none (Nat.le_of_not_lt hi)])
    have HS1 := Lib.hid S1
    have HS2 := Lib.hid S2
    have HM2 := Lib.hid hm2
    have HN4 := Lib.hid hn4
    subst hV0
    clear S1 S2 hm2 hn4 hn2 keep z0 HT1 HT2
    go_region_held3 (fun V => V.cell? ⟨p, 0, none⟩ = some (.map (some b)) ∧ V.cell? ⟨p, 1, none⟩ = some (.map (some c)) ∧ V.cell? ⟨w.heap.size, 0, none⟩ = some (.int .i64 r.1) ∧ V.cell? ⟨w.heap.size, 1, none⟩ = some (.int .i64 r.2) ∧ V.cell? ⟨w.heap.size + 1, 0, none⟩ = some (.int .i64 s.1) ∧ V.cell? ⟨w.heap.size + 1, 1, none⟩ = some (.int .i64 s.2))
      (first | exact k0.out | exact k1.out | exact k2.out | exact k3.out | exact k4.out)
      (fail)
    refine bodyPost_end (by simp [results, Try.results19, go_sem]; try rfl) rfl ?_
    have b2 : ∀ i, i < W.heap.size → i ≠ b → V2.heap[i]? = W.heap[i]? := fun i hi hb => HS1.out.safe.block i hi hb
    have b4 : ∀ i, i < W.heap.size → i ≠ c → V4.heap[i]? = V2.heap[i]? := fun i hi hc => HS2.out.safe.block i (by rw [HS1.out.size.2]; exact hi) hc
    have lp := lt_size HP4.out
    have lb := HM4.out.lt
    have hp4 := ((b4 p lp hne.2.1).trans (b2 p lp hne.1)).trans HP4.out
    have hm4 : MapAt 30 Prod.fst Prod.snd V4 b ((r, s) :: T) := HM2.out.kept (b4 b lb hbc)
    have s1 : Safe x W V2 := undrew ((Turned.refl _ W.drew).trans HS1.out.safe fun i _ hi => by rw [hi]; exact hxx.2.1)
    have s2 : Safe x V2 V4 := (Turned.refl _ V2).trans HS2.out.safe fun i _ hi => by rw [hi]; exact hxx.2.2
    have hsf : Safe x w V4 := (HSX.out.then s1).then s2
    exact ⟨rfl, Tab.of_maps HWf'.out (fun f hf => by
      rcases List.mem_cons.1 hf with rfl | hf
      · exact ⟨HR.out, HS.out⟩
      · exact HH.out.ints f hf) hp4 hm4 HN4.out hbc hne.1 hne.2.1 hxx.1 hxx.2.1 hxx.2.2 (fun b hb => Nat.lt_of_lt_of_le (HH.out.there b hb) hsf.size), hsf⟩
end
end Go.Proofs.Ytbebbnkolpgndaa
