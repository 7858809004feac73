/- Package name: With, Without. -/
import Derived.Test.YtnmcnnackokhcaaEnB
import Derived.Test.YtnmcnnackokhcaaEnC
import Derived.Great.BuildSlice
namespace Go.Proofs.Ytnmcnnackokhcaa
open Go.RowKit Go.Lib

def withE (l : List Ent) (s : ByteArray) (n : Int) : List Ent × Int :=
  if mayEs l = false ∨ mayE (s, n) = false then ([], 1) else if hasE l s = true then ([], 9) else if l.length = 10 then ([], 14) else (putE l (s, n), 0)
def outE (l : List Ent) (s : ByteArray) : List Ent × Int :=
  if mayEs l = false then ([], 1) else if hasE l s = false then ([], 8) else (cutE l s, 0)
/-- A list of entries of the call's own, and an error. -/
def EPost (x : List Ent × Int) (w : World) (e : Ending) (w' : World) : Prop :=
  ∃ A c, e = .returned (.tuple #[.slice A x.1.length c, .int .i64 x.2]) ∧ ELies w' A x.1 ∧ (∀ ad, A = some ad → w.heap.size ≤ ad.block) ∧ (A = none → x.1 = [] ∧ c = 0) ∧ x.1.length ≤ c ∧ Below w.heap.size w w'
theorem epost_none {w w' : World} {x : Int} (h : Below w.heap.size w w') : EPost ([], x) w (.returned (.tuple #[.slice none 0 0, .int .i64 x])) w' :=
  ⟨none, 0, rfl, .nil _ _, fun _ e => (by cases e), fun _ => ⟨rfl, rfl⟩, Nat.le_refl _, h⟩
theorem two_boxes (W : World) (o1 o2 : Obj) : ((W.alloc o1).alloc o2).heap[W.heap.size + 1]? = some o2 ∧ ((W.alloc o1).alloc o2).heap[W.heap.size]? = some o1 := by
  have h1 := heap_alloc_new (W.alloc o1) o2
  have h2 := heap_alloc_new W o1
  have e : (W.alloc o1).heap.size = W.heap.size + 1 := by simp
  rw [e] at h1
  exact ⟨h1, (heap_alloc_old _ _ (lt_size h2)).trans h2⟩
theorem ent_at {V : World} {g : Nat} {s : ByteArray} {n : Int} {t : TypeId} (h : V.heap[g]? = some (.cells #[.string s, .int .i64 n] t (0, 0))) : ELies V (some ⟨g, 0, none⟩) [(s, n)] := fun _ =>
  ⟨g, 0, rfl, lt_size h, fun j hj => by
    obtain rfl : j = 0 := by simpa using hj
    simp [World.cell?, h]⟩
set_option maxRecDepth 100000 in
set_option maxHeartbeats 2000000 in
theorem with_any (A : Option Addr) (c : Nat) (l : List Ent) (s : ByteArray) (n : Int) (w : World) (hA : ELies w A l) (hn : A = none → l = [] ∧ c = 0) (hc : l.length ≤ c) :
    Calls Try.prog 9 #[.slice A l.length c, .string s, .int .i64 n] w (EPost (withE l s n) w) := by
  have HA := Lib.hid hA
  have HN := Lib.hid hn
  have hM := fun w (h : ELies w A l) => Lib.hid (mays_any A c l w h)
  have hm := fun w => Lib.hid (may_ent s n w)
  obtain ⟨V, hV⟩ : ∃ V, mayEs l = V := ⟨_, rfl⟩
  obtain ⟨U, hU⟩ : ∃ U, mayE (s, n) = U := ⟨_, rfl⟩
  rw [hV] at hM
  rw [hU] at hm
  have HV := Lib.hid hV
  have HU := Lib.hid hU
  have HX := Lib.hid (box_cells w (.string s) (.int .i64 n) 32)
  have HB0 := Lib.hid ((Below.refl w.heap.size w).alloc (Nat.le_refl _) (.cells #[.string s, .int .i64 n] 32))
  clear hA hn hV hU
  cases V with
  | false =>
    have HR : Hid (withE l s n = ([], 1)) := Lib.hid (by unfold withE; rw [if_pos (.inl HV.out)])
    rw [HR.out]
    go_enter Try.func9, Try.ntmps9
    go_wp2_with (first
      | (go_at_call 15; (with_reducible refine (hM _ (HA.out.below HB0.out)).out.mono ?_); rintro e w1 ⟨rfl, hb1⟩; replace hb1 := Lib.hid (HB0.out.trans (hb1.mono HB0.out.size)))
      | fail)
    go_ret2
    exact epost_none hb1.out
  | true =>
  cases U with
  | false =>
    have HR : Hid (withE l s n = ([], 1)) := Lib.hid (by unfold withE; rw [if_pos (.inr HU.out)])
    rw [HR.out]
    go_enter Try.func9, Try.ntmps9
    go_wp2_with (first
      | (go_at_call 15; (with_reducible refine (hM _ (HA.out.below HB0.out)).out.mono ?_); rintro e w1 ⟨rfl, hb1⟩; have q0 := (hb1.cell (p := ⟨w.heap.size, 0, none⟩) (by simp)).trans HX.out.1; have q1 := (hb1.cell (p := ⟨w.heap.size, 1, none⟩) (by simp)).trans HX.out.2; replace hb1 := Lib.hid (HB0.out.trans (hb1.mono HB0.out.size)))
      | (go_at_call 20; (with_reducible refine (hm _).out.mono ?_); rintro e w2 ⟨rfl, hb2⟩; replace hb2 := Lib.hid (hb1.out.trans (hb2.mono hb1.out.size)))
      | fail)
    go_ret2
    exact epost_none hb2.out
  | true =>
  obtain ⟨h10, hall, hri⟩ := mayEs_iff.1 HV.out
  have hall' := Lib.hid hall
  have hri' := Lib.hid hri
  have hpl := posE_le l s
  have hP := fun w (h : ELies w A l) => Lib.hid (place_any A c l s w h hri (by omega))
  obtain ⟨T, hT⟩ : ∃ T, hasE l s = T := ⟨_, rfl⟩
  rw [hT] at hP
  have HT := Lib.hid hT
  have HM := Lib.hid hM
  clear hall hri hT hM
  cases T with
  | true =>
    have HR : Hid (withE l s n = ([], 9)) := Lib.hid (by unfold withE; rw [if_neg (by rw [HV.out, HU.out]; simp), if_pos HT.out])
    rw [HR.out]
    clear hpl
    generalize posE l s = p at hP
    go_enter Try.func9, Try.ntmps9
    go_wp2_with (first
      | (go_at_call 15; (with_reducible refine (HM.out _ (HA.out.below HB0.out)).out.mono ?_); rintro e w1 ⟨rfl, hb1⟩; have q0 := (hb1.cell (p := ⟨w.heap.size, 0, none⟩) (by simp)).trans HX.out.1; have q1 := (hb1.cell (p := ⟨w.heap.size, 1, none⟩) (by simp)).trans HX.out.2; replace hb1 := Lib.hid (HB0.out.trans (hb1.mono HB0.out.size)))
      | (go_at_call 20; (with_reducible refine (hm _).out.mono ?_); rintro e w2 ⟨rfl, hb2⟩; replace hb2 := Lib.hid (hb1.out.trans (hb2.mono hb1.out.size)))
      | (go_at_call 21; (with_reducible refine (hP _ (HA.out.below hb2.out)).out.mono ?_); rintro e w3 ⟨rfl, hb3⟩; replace hb3 := Lib.hid (hb2.out.trans (hb3.mono hb2.out.size)))
      | fail)
    go_ret2
    exact epost_none hb3.out
  | false =>
  by_cases hl10 : l.length = 10
  · have HR : Hid (withE l s n = ([], 14)) := Lib.hid (by unfold withE; rw [if_neg (by rw [HV.out, HU.out]; simp), if_neg (by rw [HT.out]; simp), if_pos hl10])
    rw [HR.out]
    clear hpl
    generalize posE l s = p at hP
    have d1 : ((l.length : Int) == 10) = true := by rw [beq_iff_eq]; omega
    clear h10 hl10
    go_enter Try.func9, Try.ntmps9
    go_wp2_with (first
      | (go_at_call 15; (with_reducible refine (HM.out _ (HA.out.below HB0.out)).out.mono ?_); rintro e w1 ⟨rfl, hb1⟩; have q0 := (hb1.cell (p := ⟨w.heap.size, 0, none⟩) (by simp)).trans HX.out.1; have q1 := (hb1.cell (p := ⟨w.heap.size, 1, none⟩) (by simp)).trans HX.out.2; replace hb1 := Lib.hid (HB0.out.trans (hb1.mono HB0.out.size)))
      | (go_at_call 20; (with_reducible refine (hm _).out.mono ?_); rintro e w2 ⟨rfl, hb2⟩; replace hb2 := Lib.hid (hb1.out.trans (hb2.mono hb1.out.size)))
      | (go_at_call 21; (with_reducible refine (hP _ (HA.out.below hb2.out)).out.mono ?_); rintro e w3 ⟨rfl, hb3⟩; replace hb3 := Lib.hid (hb2.out.trans (hb3.mono hb2.out.size)))
      | fail)
    go_ret2
    exact epost_none hb3.out
  · have HR : Hid (withE l s n = (putE l (s, n), 0)) := Lib.hid (by unfold withE; rw [if_neg (by rw [HV.out, HU.out]; simp), if_neg (by rw [HT.out]; simp), if_neg hl10])
    rw [HR.out]
    have d1 : ((l.length : Int) == 10) = false := by rw [beq_eq_false_iff_ne]; omega
    obtain ⟨p, hp⟩ : ∃ p, posE l s = p := ⟨_, rfl⟩
    have HPE : Hid (putE l (s, n) = l.take p ++ [(s, n)] ++ l.drop p) := Lib.hid (by unfold putE; rw [← hp]; simp)
    rw [hp] at hpl hP
    have hpc : p ≤ c := by omega
    clear hl10 hp
    go_enter Try.func9, Try.ntmps9
    go_wp2_with (first
      | (go_at_call 15; (with_reducible refine (HM.out _ (HA.out.below HB0.out)).out.mono ?_); rintro e w1 ⟨rfl, hb1⟩; have q0 := (hb1.cell (p := ⟨w.heap.size, 0, none⟩) (by simp)).trans HX.out.1; have q1 := (hb1.cell (p := ⟨w.heap.size, 1, none⟩) (by simp)).trans HX.out.2; replace hb1 := Lib.hid (HB0.out.trans (hb1.mono HB0.out.size)))
      | (go_at_call 20; (with_reducible refine (hm _).out.mono ?_); rintro e w2 ⟨rfl, hb2⟩; replace q0 := (hb2.cell (p := ⟨w.heap.size, 0, none⟩) (World.block_lt_of_cell? _ _ q0)).trans q0; replace q1 := (hb2.cell (p := ⟨w.heap.size, 1, none⟩) (World.block_lt_of_cell? _ _ q1)).trans q1; replace hb2 := Lib.hid (hb1.out.trans (hb2.mono hb1.out.size)))
      | (go_at_call 21; (with_reducible refine (hP _ (HA.out.below hb2.out)).out.mono ?_); rintro e w3 ⟨rfl, hb3⟩; replace q0 := (hb3.cell (p := ⟨w.heap.size, 0, none⟩) (World.block_lt_of_cell? _ _ q0)).trans q0; replace q1 := (hb3.cell (p := ⟨w.heap.size, 1, none⟩) (World.block_lt_of_cell? _ _ q1)).trans q1; replace hb3 := Lib.hid (hb2.out.trans (hb3.mono hb2.out.size)))
      | fail)
    have HL := Lib.hid (HA.out.below hb3.out)
    have HB3 := hb3
    generalize w3 = W at HL HB3 q0 q1 ⊢
    clear hb1 hb2 hb3 HM hP hm HX HB0 hall' hri'
    have HS1 : ∀ w, (Instr.slice 22 (.slice A l.length c) none (some (.int .i64 (p : Nat))) none).run Try.prog w = .ok (.slice A p c) w := fun w => by
      rw [run_slice_h (w := w) (t := 22) (a := A) (len := l.length) (cap := c) (ht := Try.underlying22) .i64 p (by omega) (by omega)]
      rw [show (sizeOf (Try.prog.elem 22)).run Try.prog w = .ok 2 w by kernel_rfl]
      simp [Result.andThen, sliced, Addr.add]
    obtain ⟨A2, hA2⟩ : ∃ A2 : Option Addr, A2 = (if c = p then A else A.map (·.add (p * 2))) := ⟨_, rfl⟩
    have HS2 : ∀ w, (Instr.slice 22 (.slice A l.length c) (some (.int .i64 (p : Nat))) none none).run Try.prog w = .ok (.slice A2 (l.length - p) (c - p)) w := fun w => by
      rw [run_slice_l (w := w) (t := 22) (a := A) (len := l.length) (cap := c) (ht := Try.underlying22) .i64 p (by omega) (by omega)]
      rw [show (sizeOf (Try.prog.elem 22)).run Try.prog w = .ok 2 w by kernel_rfl]
      simp [Result.andThen, sliced, hA2]
    have hg0 := World.block_lt_of_cell? _ _ q0
    have HSK : Hid (∀ V, Below W.heap.size W V → V.cell? ⟨w.heap.size, 0, none⟩ = some (.string s) ∧ V.cell? ⟨w.heap.size, 1, none⟩ = some (.int .i64 n)) := Lib.hid fun V hV => ⟨(hV.cell (p := ⟨w.heap.size, 0, none⟩) hg0).trans q0, (hV.cell (p := ⟨w.heap.size, 1, none⟩) hg0).trans q1⟩
    have HLT : Hid (ELies W A (l.take p)) := Lib.hid (HL.out.take p)
    have HLD : Hid (ELies W A2 (l.drop p)) := Lib.hid (by rw [hA2]; exact HL.out.map_add p c hc)
    have HNT : Hid (A = none → l.take p = [] ∧ c = 0) := Lib.hid fun e => by obtain ⟨rfl, e2⟩ := HN.out e; simp [e2]
    have HND : Hid (A2 = none → l.drop p = [] ∧ c - p = 0) := Lib.hid fun e => by
      have hA0 : A = none := by
        rw [hA2] at e
        split at e
        · exact e
        · simpa using e
      obtain ⟨rfl, e2⟩ := HN.out hA0
      simp [e2]
    have HN1 : Hid ((some ⟨W.heap.size, 0, none⟩ : Option Addr) = none → ([(s, n)] : List Ent) = [] ∧ 1 = 0) := Lib.hid fun e => by cases e
    have hlt : (l.take p).length = p := by rw [List.length_take]; omega
    have hld : (l.drop p).length = l.length - p := List.length_drop
    have HC3 := fun (V : World) (g k : Nat) => concat3 g A (some ⟨W.heap.size, 0, none⟩) A2 c 1 (c - p) k (l.take p) [(s, n)] (l.drop p) V
    rw [hlt, hld] at HC3
    replace HC3 := Lib.hid HC3
    have HPL : Hid (l.take p ++ [(s, n)] ++ l.drop p = putE l (s, n)) := Lib.hid HPE.out.symm
    have HBW : Hid (Below W.heap.size W (((W.alloc (.cells #[.string s, .int .i64 n] 32)).alloc (.cells #[.slice A p c, .slice (some ⟨W.heap.size, 0, none⟩) 1 1, .slice A2 (l.length - p) (c - p)] 22)).drew)) := Lib.hid (((Below.refl _ W).alloc (Nat.le_refl _) _).alloc (by simp) _).drew
    have h2b := two_boxes W (.cells #[.string s, .int .i64 n] 32) (.cells #[.slice A p c, .slice (some ⟨W.heap.size, 0, none⟩) 1 1, .slice A2 (l.length - p) (c - p)] 22)
    have hcall := HC3.out (((W.alloc (.cells #[.string s, .int .i64 n] 32)).alloc (.cells #[.slice A p c, .slice (some ⟨W.heap.size, 0, none⟩) 1 1, .slice A2 (l.length - p) (c - p)] 22)).drew) (W.heap.size + 1) 3 h2b.1 (HLT.out.below HBW.out) (ent_at h2b.2) (HLD.out.below HBW.out) HNT.out HN1.out HND.out (by omega) (by simp) (by omega)
    rw [HPL.out] at hcall
    have HCALL := Lib.hid hcall
    clear hA2 hlt hld hcall h2b
    go_region_held3 (fun V => V.cell? ⟨w.heap.size, 0, none⟩ = some (.string s) ∧ V.cell? ⟨w.heap.size, 1, none⟩ = some (.int .i64 n))
      (first | exact ⟨q0, q1⟩ | exact HSK.out _ HB5.out | exact HSK.out _ (Below.refl _ _) | exact HSK.out _ (Below.refl _ _).drew | exact HSK.out _ ((Below.refl _ _).alloc (Nat.le_refl _) _) | exact HSK.out _ ((Below.refl _ _).alloc (Nat.le_refl _) _).drew | exact HSK.out _ (((Below.refl _ _).alloc (Nat.le_refl _) _).alloc (by simp) _) | exact HSK.out _ (((Below.refl _ _).alloc (Nat.le_refl _) _).alloc (by simp) _).drew | fail)
      (first
        | (go_at_call 22; refine HCALL.out.mono ?_; rintro e w5 ⟨A5, c5, rfl, hl5, ha5, hn5, hc5, hb5⟩; replace hl5 := Lib.hid hl5; replace ha5 := Lib.hid ha5; replace hn5 := Lib.hid hn5; replace hc5 := Lib.hid hc5; have HB5 : Hid (Below W.heap.size W w5) := Lib.hid (HBW.out.trans (hb5.mono HBW.out.size)); clear hb5)
        | fail)
    go_wp2_with fail
    go_ret2
    refine ⟨A5, c5, rfl, hl5.out, fun ad e => ?_, fun e => ?_, hc5.out, HB3.out.trans (HB5.out.mono HB3.out.size)⟩
    · have h1 := ha5.out ad e
      have h2 := HB3.out.size
      simp at h1
      omega
    · obtain rfl := e
      have := hn5.out rfl
      refine ⟨?_, this⟩
      have h3 := hc5.out
      rw [this] at h3
      exact List.eq_nil_of_length_eq_zero (Nat.le_zero.1 h3)
set_option maxRecDepth 100000 in
set_option maxHeartbeats 2000000 in
theorem out_any (A : Option Addr) (c : Nat) (l : List Ent) (s : ByteArray) (w : World) (hA : ELies w A l) (hn : A = none → l = [] ∧ c = 0) (hc : l.length ≤ c) :
    Calls Try.prog 11 #[.slice A l.length c, .string s] w (EPost (outE l s) w) := by
  have HA := Lib.hid hA
  have HN := Lib.hid hn
  have hM := Lib.hid (mays_any A c l w hA)
  obtain ⟨V, hV⟩ : ∃ V, mayEs l = V := ⟨_, rfl⟩
  rw [hV] at hM
  have HV := Lib.hid hV
  clear hA hn hV
  cases V with
  | false =>
    have HR : Hid (outE l s = ([], 1)) := Lib.hid (by unfold outE; rw [if_pos HV.out])
    rw [HR.out]
    go_enter Try.func11, Try.ntmps11
    go_wp2_with (first
      | (go_at_call 15; (with_reducible refine hM.out.mono ?_); rintro e w1 ⟨rfl, hb1⟩; replace hb1 := Lib.hid hb1)
      | fail)
    go_ret2
    exact epost_none hb1.out
  | true =>
  obtain ⟨h10, hall, hri⟩ := mayEs_iff.1 HV.out
  have hri' := Lib.hid hri
  have hpl := posE_le l s
  have hP := fun w (h : ELies w A l) => Lib.hid (place_any A c l s w h hri (by omega))
  obtain ⟨T, hT⟩ : ∃ T, hasE l s = T := ⟨_, rfl⟩
  rw [hT] at hP
  have HT := Lib.hid hT
  clear hall hri hT
  cases T with
  | false =>
    have HR : Hid (outE l s = ([], 8)) := Lib.hid (by unfold outE; rw [if_neg (by rw [HV.out]; simp), if_pos HT.out])
    rw [HR.out]
    clear hpl
    generalize posE l s = p at hP
    go_enter Try.func11, Try.ntmps11
    go_wp2_with (first
      | (go_at_call 15; (with_reducible refine hM.out.mono ?_); rintro e w1 ⟨rfl, hb1⟩; replace hb1 := Lib.hid hb1)
      | (go_at_call 21; (with_reducible refine (hP _ (HA.out.below hb1.out)).out.mono ?_); rintro e w3 ⟨rfl, hb3⟩; replace hb3 := Lib.hid (hb1.out.trans (hb3.mono hb1.out.size)))
      | fail)
    go_ret2
    exact epost_none hb3.out
  | true =>
    have HR : Hid (outE l s = (cutE l s, 0)) := Lib.hid (by unfold outE; rw [if_neg (by rw [HV.out]; simp), if_neg (by rw [HT.out]; simp)])
    rw [HR.out]
    obtain ⟨hpos, -⟩ := (hasE_pos hri'.out s).1 HT.out
    obtain ⟨p, hp⟩ : ∃ p, posE l s = p := ⟨_, rfl⟩
    have HPE : Hid (cutE l s = l.take p ++ l.drop (p + 1)) := Lib.hid (by unfold cutE; rw [← hp])
    rw [hp] at hpl hP hpos
    have hpc : p ≤ c := by omega
    clear hp hpl
    go_enter Try.func11, Try.ntmps11
    go_wp2_with (first
      | (go_at_call 15; (with_reducible refine hM.out.mono ?_); rintro e w1 ⟨rfl, hb1⟩; replace hb1 := Lib.hid hb1)
      | (go_at_call 21; (with_reducible refine (hP _ (HA.out.below hb1.out)).out.mono ?_); rintro e w3 ⟨rfl, hb3⟩; replace hb3 := Lib.hid (hb1.out.trans (hb3.mono hb1.out.size)))
      | fail)
    have HL := Lib.hid (HA.out.below hb3.out)
    have HB3 := hb3
    generalize w3 = W at HL HB3 ⊢
    clear hb1 hb3 hP hM hri'
    have HS1 : ∀ w, (Instr.slice 22 (.slice A l.length c) none (some (.int .i64 (p : Nat))) none).run Try.prog w = .ok (.slice A p c) w := fun w => by
      rw [run_slice_h (w := w) (t := 22) (a := A) (len := l.length) (cap := c) (ht := Try.underlying22) .i64 p (by omega) (by omega)]
      rw [show (sizeOf (Try.prog.elem 22)).run Try.prog w = .ok 2 w by kernel_rfl]
      simp [Result.andThen, sliced, Addr.add]
    obtain ⟨A2, hA2⟩ : ∃ A2 : Option Addr, A2 = (if c = p + 1 then A else A.map (·.add ((p + 1) * 2))) := ⟨_, rfl⟩
    have HWP : IntKind.i64.wrap ((p : Int) + 1) = (p : Int) + 1 := i64w_idE _ (by omega)
    have HS2 : ∀ w, (Instr.slice 22 (.slice A l.length c) (some (.int .i64 ((p : Int) + 1))) none none).run Try.prog w = .ok (.slice A2 (l.length - (p + 1)) (c - (p + 1))) w := fun w => by
      rw [run_slice_l (w := w) (t := 22) (a := A) (len := l.length) (cap := c) (ht := Try.underlying22) .i64 _ (by omega) (by omega)]
      rw [show (sizeOf (Try.prog.elem 22)).run Try.prog w = .ok 2 w by kernel_rfl, show ((p : Int) + 1).toNat = p + 1 by omega]
      simp [Result.andThen, sliced, hA2]
    have HLT : Hid (ELies W A (l.take p)) := Lib.hid (HL.out.take p)
    have HLD : Hid (ELies W A2 (l.drop (p + 1))) := Lib.hid (by rw [hA2]; exact HL.out.map_add (p + 1) c hc)
    have HNT : Hid (A = none → l.take p = [] ∧ c = 0) := Lib.hid fun e => by obtain ⟨rfl, e2⟩ := HN.out e; simp [e2]
    have HND : Hid (A2 = none → l.drop (p + 1) = [] ∧ c - (p + 1) = 0) := Lib.hid fun e => by
      have hA0 : A = none := by
        rw [hA2] at e
        split at e
        · exact e
        · simpa using e
      obtain ⟨rfl, e2⟩ := HN.out hA0
      simp [e2]
    have hlt : (l.take p).length = p := by rw [List.length_take]; omega
    have hld : (l.drop (p + 1)).length = l.length - (p + 1) := List.length_drop
    have HC3 := fun (V : World) (g k : Nat) => concat2 g A A2 c (c - (p + 1)) k (l.take p) (l.drop (p + 1)) V
    rw [hlt, hld] at HC3
    replace HC3 := Lib.hid HC3
    have HPL : Hid (l.take p ++ l.drop (p + 1) = cutE l s) := Lib.hid HPE.out.symm
    have HBW : Hid (Below W.heap.size W ((W.alloc (.cells #[.slice A p c, .slice A2 (l.length - (p + 1)) (c - (p + 1))] 22)).drew)) := Lib.hid ((Below.refl _ W).alloc (Nat.le_refl _) _).drew
    have h2b := heap_alloc_new W (.cells #[.slice A p c, .slice A2 (l.length - (p + 1)) (c - (p + 1))] 22)
    have hcall := HC3.out ((W.alloc (.cells #[.slice A p c, .slice A2 (l.length - (p + 1)) (c - (p + 1))] 22)).drew) W.heap.size 2 h2b (HLT.out.below HBW.out) (HLD.out.below HBW.out) HNT.out HND.out (by omega) (by omega)
    rw [HPL.out] at hcall
    have HCALL := Lib.hid hcall
    clear hA2 hlt hld hcall h2b
    go_region_held3 (fun V => True)
      (exact trivial)
      (first
        | (go_at_call 22; refine HCALL.out.mono ?_; rintro e w5 ⟨A5, c5, rfl, hl5, ha5, hn5, hc5, hb5⟩; replace hl5 := Lib.hid hl5; replace ha5 := Lib.hid ha5; replace hn5 := Lib.hid hn5; replace hc5 := Lib.hid hc5; have HB5 : Hid (Below W.heap.size W w5) := Lib.hid (HBW.out.trans (hb5.mono HBW.out.size)); clear hb5)
        | fail)
    go_wp2_with fail
    go_ret2
    refine ⟨A5, c5, rfl, hl5.out, fun ad e => ?_, fun e => ?_, hc5.out, HB3.out.trans (HB5.out.mono HB3.out.size)⟩
    · have h1 := ha5.out ad e
      have h2 := HB3.out.size
      simp at h1
      omega
    · obtain rfl := e
      have := hn5.out rfl
      refine ⟨?_, this⟩
      have h3 := hc5.out
      rw [this] at h3
      exact List.eq_nil_of_length_eq_zero (Nat.le_zero.1 h3)
end Go.Proofs.Ytnmcnnackokhcaa
