/- DirInside, over what the landed calls are asked to answer. -/
import Derived.Test.YtfboilbmehcgoaaDoorMD
namespace Go.Proofs.YtfboilbmehcgoaaDoor
open Go.RowKit Go.Lib

set_option maxRecDepth 100000 in
set_option maxHeartbeats 16000000 in
theorem inside_law
    (lin : ∀ (t : List Nd) (A : Option Addr) (c : Nat) (r : Nat → NAddr) (a b : Int) (w : World), TLies w A c t r → LightT t → Calls Tryd.prog 20 #[.agg #[.slice A t.length c], .int .i64 a, .int .i64 b] w fun x w' => x = .returned (.bool (insF t a b)) ∧ Below w.heap.size w w')
    (lnm : ∀ (t : List Nd) (A : Option Addr) (c : Nat) (r : Nat → NAddr) (a : Int) (w : World), TLies w A c t r → LightT t → Calls Tryd.prog 21 #[.agg #[.slice A t.length c], .int .i64 a] w fun x w' => x = .returned (.int .i64 (namedT a t : Nat)) ∧ Below w.heap.size w w')
    (awk : ∀ w : World, Calls Tryd.prog 10 #[] w fun x w' => x = .returned (.bool true) ∧ Below w.heap.size w w')
    (t : List Nd) (A : Option Addr) (c : Nat) (r : Nat → NAddr) (a0 b0 c0 : Int) (w : World) (h : TLies w A c t r) : Calls Tryd.prog 6 #[.agg #[.slice A t.length c], .int .i64 a0, .int .i64 b0, .int .i64 c0] w fun x w' => x = .returned (.bool true) ∧ Below w.heap.size w w' := by
  have hsm := h.sm
  have hmx : maxLen = 9223372036854775807 := rfl
  have HH := Lib.hid h
  have HLC := Lib.hid (lightT_cases t)
  have HBA := Lib.hid ((Below.refl w.heap.size w).alloc (Nat.le_refl _) (.cells #[.slice A t.length c] 24))
  have HX := Lib.hid (heap_alloc_new w (.cells #[.slice A t.length c] 24))
  have HLA := Lib.hid (fun w1 h => lightT_any t A c r w1 h)
  have HMY := Lib.hid (fun w1 h => mayTr_any t A c r w1 h)
  have HAW := Lib.hid awk
  obtain ⟨I, hI, hI2⟩ := small12 a0
  obtain ⟨J, hJ, hJ2⟩ := small12 b0
  obtain ⟨K, hK, hK2⟩ := small12 c0
  have hIw : IntKind.i64.wrap (I : Int) = (I : Int) := i64w_idE _ (by omega)
  have hJw : IntKind.i64.wrap (J : Int) = (J : Int) := i64w_idE _ (by omega)
  have hKw : IntKind.i64.wrap (K : Int) = (K : Int) := i64w_idE _ (by omega)
  have HI1 := Lib.hid (fun w1 h hl => lin t A c r (I : Int) (J : Int) w1 h hl)
  have HI2 := Lib.hid (fun w1 h hl => lin t A c r (J : Int) (K : Int) w1 h hl)
  have HI3 := Lib.hid (fun w1 h hl => lin t A c r (I : Int) (K : Int) w1 h hl)
  have HI4 := Lib.hid (fun w1 h hl => lin t A c r (J : Int) (I : Int) w1 h hl)
  have HI5 := Lib.hid (fun w1 h hl => lin t A c r 0 (K : Int) w1 h hl)
  have HNM := Lib.hid (fun w1 h hl => lnm t A c r (K : Int) w1 h hl)
  have HF : Hid (mayT t = true → (insF t (I : Int) (J : Int) = true → insF t (J : Int) (K : Int) = true → insF t (I : Int) (K : Int) = true) ∧ (I ≠ J → insF t (I : Int) (J : Int) = true → insF t (J : Int) (I : Int) = false) ∧ (insF t 0 (K : Int) = (decide (0 < namedT (K : Int) t) || decide (K = 0))) ∧ (insF t (I : Int) (J : Int) = true → (at_ t I).k = 2) ∧ t.length = 12) := Lib.hid fun hm => by
    have hm := mayT_iff.1 hm
    have hl := hm.len
    refine ⟨fun h1 h2 => ?_, fun hne h1 => ?_, ?_, fun h1 => ?_, hl⟩
    · exact (insF_iff hm (by omega)).2 (ins_trans hm ((insF_iff hm (by omega)).1 h1) ((insF_iff hm (by omega)).1 h2))
    · cases e : insF t (J : Int) (I : Int) with
      | false => rfl
      | true => exact absurd (ins_anti hm ((insF_iff hm (by omega)).1 h1) ((insF_iff hm (by omega)).1 e)) hne
    · rw [Bool.eq_iff_iff]
      have := insF_iff hm (a := 0) (b := K) (by omega)
      rw [show ((0 : Nat) : Int) = 0 from rfl] at this
      rw [this, ins_root hm]
      simp
    · exact ((insF_iff hm (by omega)).1 h1).dir.2
  clear h lin lnm awk
  obtain ⟨M, hM⟩ : ∃ M, mayT t = M := ⟨_, rfl⟩
  obtain ⟨LA, hLA⟩ : ∃ L, lightT t = L := ⟨_, rfl⟩
  rw [hM] at HMY HF
  rw [hLA] at HLC HLA
  clear hM hLA
  generalize insF t (I : Int) (J : Int) = X1 at HI1 HF
  generalize insF t (J : Int) (K : Int) = X2 at HI2 HF
  generalize insF t (I : Int) (K : Int) = X3 at HI3 HF
  generalize insF t (J : Int) (I : Int) = X4 at HI4 HF
  generalize insF t 0 (K : Int) = X5 at HI5 HF
  generalize namedT (K : Int) t = N at HNM HF
  go_enter Tryd.func6, Tryd.ntmps6
  go_upto_region 1 with (fail)
  generalize w.alloc _ = W at HBA HX ⊢
  obtain ⟨P, hP⟩ : ∃ P, P = w.heap.size := ⟨_, rfl⟩
  rw [← hP] at HX ⊢
  clear hP
  have HTL : Hid (∀ w1, Below W.heap.size W w1 → TLies w1 A c t r) := Lib.hid fun w1 hb => (HH.out.below HBA.out).below hb
  have HPX : Hid (∀ w1, Below W.heap.size W w1 → w1.cell? ⟨P, 0, none⟩ = some (.slice A t.length c)) := Lib.hid fun w1 hb => by
    have := (hb.block P (lt_size HX.out)).trans HX.out
    simp [World.cell?, this]
  have q0 := HPX.out W (Below.refl _ _)
  rcases HLC.out with ⟨rfl, hl⟩ | hpos
  case inr =>
    have b1 : decide (0 < LA) = true := decide_eq_true hpos
    clear hpos
    go_wp2_with (first
      | (go_at_call 9; (with_reducible refine (HLA.out _ (HTL.out _ (Below.refl _ _))).mono ?_); rintro e w1 ⟨rfl, hb1⟩; replace hb1 := Lib.hid hb1; have q1 := HPX.out _ hb1.out)
      | (go_at_call 10; (with_reducible refine (HAW.out _).mono ?_); rintro e w3 ⟨rfl, hb3⟩; replace hb3 := Lib.hid (hb1.out.trans (hb3.mono hb1.out.size)))
      | fail)
    go_ret
    exact ⟨rfl, HBA.out.trans (hb3.out.mono HBA.out.size)⟩
  have HLT : Hid (LightT t) := Lib.hid hl
  clear hl
  cases M with
  | false =>
    go_wp2_with (first
      | (go_at_call 9; (with_reducible refine (HLA.out _ (HTL.out _ (Below.refl _ _))).mono ?_); rintro e w1 ⟨rfl, hb1⟩; replace hb1 := Lib.hid hb1; have q1 := HPX.out _ hb1.out)
      | (go_at_call 15; (with_reducible refine (HMY.out _ (HTL.out _ hb1.out)).mono ?_); rintro e w2 ⟨rfl, hb2⟩; replace hb2 := Lib.hid (hb1.out.trans (hb2.mono hb1.out.size)))
      | (go_at_call 10; (with_reducible refine (HAW.out _).mono ?_); rintro e w3 ⟨rfl, hb3⟩; replace hb3 := Lib.hid (hb2.out.trans (hb3.mono hb2.out.size)))
      | fail)
    go_ret
    exact ⟨rfl, HBA.out.trans (hb3.out.mono HBA.out.size)⟩
  | true =>
    obtain ⟨hf1, hf2, hf3, hf4, h12⟩ := HF.out rfl
    have hIl : I < t.length := by omega
    obtain ⟨B, o, rfl, hBs, -, -⟩ := (HTL.out W (Below.refl _ _)).node hIl
    have HK0 : Hid (∀ w1, Below W.heap.size W w1 → w1.cell? ⟨B, o + I * 5, none⟩ = some (.int .i64 (at_ t I).k)) := Lib.hid fun w1 hb => by
      obtain ⟨B1, o1, e1, -, c1, -⟩ := (HTL.out w1 hb).node hIl
      obtain ⟨rfl, rfl⟩ : B1 = B ∧ o1 = o := by simpa [eq_comm] using e1
      exact c1.c0
    generalize (at_ t I).k = kk at HK0 hf4
    obtain ⟨n0, hn0⟩ : ∃ x, decide (0 < N) = x := ⟨_, rfl⟩
    have hn1 : decide ((0 : Int) < (N : Int)) = n0 := by rw [← hn0, Bool.eq_iff_iff]; simp
    obtain ⟨k0, hk0⟩ : ∃ x, decide (K = 0) = x := ⟨_, rfl⟩
    have hk1 : ((K : Int) == 0) = k0 := by rw [← hk0, Bool.eq_iff_iff]; simp
    rw [hn0, hk0] at hf3
    have hkb : ∀ X w, (binOp .eql 4 (.bool X) (.bool X)).run Tryd.prog w = .ok (.bool true) w := bool_same
    subst hf3
    obtain ⟨ne, hne⟩ : ∃ x, ((I : Int) != (J : Int)) = x := ⟨_, rfl⟩
    have hneq : ne = true → I ≠ J := fun e h => by subst h; rw [e] at hne; simp at hne
    obtain ⟨kd, hkd⟩ : ∃ x, (kk == 2) = x := ⟨_, rfl⟩
    have hkd2 : kd = false → X1 = false := fun e => by
      cases X1 with
      | false => rfl
      | true => rw [hf4 rfl] at hkd; rw [e] at hkd; cases hkd
    have hx3 : X1 = true → X2 = true → X3 = true := hf1
    have hx4 : ne = true → X1 = true → X4 = false := fun h1 h2 => hf2 (hneq h1) h2
    clear hf1 hf2 hf4 h12 hneq hsm
    cases X1 with
    | false =>
      clear hkd2 hx3 hx4
      cases ne
      case false =>
        cases n0
        all_goals
          cases kd
          case false =>
            go_wp2_with (first
              | (go_at_call 9; (with_reducible refine (HLA.out _ (HTL.out _ (Below.refl W.heap.size W))).mono ?_); rintro e w1 ⟨rfl, hc1⟩; replace hc1 := Lib.hid ((Below.refl W.heap.size W).trans (hc1.mono (Below.refl W.heap.size W).size)); have r1 := HPX.out _ hc1.out; have s1 := HK0.out _ hc1.out)
              | (go_at_call 15; (with_reducible refine (HMY.out _ (HTL.out _ hc1.out)).mono ?_); rintro e w2 ⟨rfl, hc2⟩; replace hc2 := Lib.hid (hc1.out.trans (hc2.mono hc1.out.size)); have r2 := HPX.out _ hc2.out; have s2 := HK0.out _ hc2.out)
              | (go_at_call 20; (with_reducible refine (HI1.out _ (HTL.out _ hc2.out) HLT.out).mono ?_); rintro e w3 ⟨rfl, hc3⟩; replace hc3 := Lib.hid (hc2.out.trans (hc3.mono hc2.out.size)); have r3 := HPX.out _ hc3.out; have s3 := HK0.out _ hc3.out)
              | (go_at_call 21; (with_reducible refine (HNM.out _ (HTL.out _ hc3.out) HLT.out).mono ?_); rintro e w4 ⟨rfl, hc4⟩; replace hc4 := Lib.hid (hc3.out.trans (hc4.mono hc3.out.size)); have r4 := HPX.out _ hc4.out; have s4 := HK0.out _ hc4.out)
              | (go_at_call 20; (with_reducible refine (HI5.out _ (HTL.out _ hc4.out) HLT.out).mono ?_); rintro e w5 ⟨rfl, hc5⟩; replace hc5 := Lib.hid (hc4.out.trans (hc5.mono hc4.out.size)); have r5 := HPX.out _ hc5.out; have s5 := HK0.out _ hc5.out)
              | (go_at_call 20; (with_reducible refine (HI1.out _ (HTL.out _ hc5.out) HLT.out).mono ?_); rintro e w6 ⟨rfl, hc6⟩; replace hc6 := Lib.hid (hc5.out.trans (hc6.mono hc5.out.size)); have r6 := HPX.out _ hc6.out; have s6 := HK0.out _ hc6.out)
              | (go_at_call 10; (with_reducible refine (HAW.out _).mono ?_); rintro e w7 ⟨rfl, hc7⟩; replace hc7 := Lib.hid (hc6.out.trans (hc7.mono hc6.out.size)))
              | fail)
            go_ret
            exact ⟨by simp, HBA.out.trans (hc7.out.mono HBA.out.size)⟩
          case true =>
            go_wp2_with (first
              | (go_at_call 9; (with_reducible refine (HLA.out _ (HTL.out _ (Below.refl W.heap.size W))).mono ?_); rintro e w1 ⟨rfl, hc1⟩; replace hc1 := Lib.hid ((Below.refl W.heap.size W).trans (hc1.mono (Below.refl W.heap.size W).size)); have r1 := HPX.out _ hc1.out; have s1 := HK0.out _ hc1.out)
              | (go_at_call 15; (with_reducible refine (HMY.out _ (HTL.out _ hc1.out)).mono ?_); rintro e w2 ⟨rfl, hc2⟩; replace hc2 := Lib.hid (hc1.out.trans (hc2.mono hc1.out.size)); have r2 := HPX.out _ hc2.out; have s2 := HK0.out _ hc2.out)
              | (go_at_call 20; (with_reducible refine (HI1.out _ (HTL.out _ hc2.out) HLT.out).mono ?_); rintro e w3 ⟨rfl, hc3⟩; replace hc3 := Lib.hid (hc2.out.trans (hc3.mono hc2.out.size)); have r3 := HPX.out _ hc3.out; have s3 := HK0.out _ hc3.out)
              | (go_at_call 21; (with_reducible refine (HNM.out _ (HTL.out _ hc3.out) HLT.out).mono ?_); rintro e w4 ⟨rfl, hc4⟩; replace hc4 := Lib.hid (hc3.out.trans (hc4.mono hc3.out.size)); have r4 := HPX.out _ hc4.out; have s4 := HK0.out _ hc4.out)
              | (go_at_call 20; (with_reducible refine (HI5.out _ (HTL.out _ hc4.out) HLT.out).mono ?_); rintro e w5 ⟨rfl, hc5⟩; replace hc5 := Lib.hid (hc4.out.trans (hc5.mono hc4.out.size)); have r5 := HPX.out _ hc5.out; have s5 := HK0.out _ hc5.out)
              | (go_at_call 10; (with_reducible refine (HAW.out _).mono ?_); rintro e w6 ⟨rfl, hc6⟩; replace hc6 := Lib.hid (hc5.out.trans (hc6.mono hc5.out.size)))
              | fail)
            go_ret
            exact ⟨by simp, HBA.out.trans (hc6.out.mono HBA.out.size)⟩
      case true =>
        cases n0
        all_goals
          cases kd
          case false =>
            go_wp2_with (first
              | (go_at_call 9; (with_reducible refine (HLA.out _ (HTL.out _ (Below.refl W.heap.size W))).mono ?_); rintro e w1 ⟨rfl, hc1⟩; replace hc1 := Lib.hid ((Below.refl W.heap.size W).trans (hc1.mono (Below.refl W.heap.size W).size)); have r1 := HPX.out _ hc1.out; have s1 := HK0.out _ hc1.out)
              | (go_at_call 15; (with_reducible refine (HMY.out _ (HTL.out _ hc1.out)).mono ?_); rintro e w2 ⟨rfl, hc2⟩; replace hc2 := Lib.hid (hc1.out.trans (hc2.mono hc1.out.size)); have r2 := HPX.out _ hc2.out; have s2 := HK0.out _ hc2.out)
              | (go_at_call 20; (with_reducible refine (HI1.out _ (HTL.out _ hc2.out) HLT.out).mono ?_); rintro e w3 ⟨rfl, hc3⟩; replace hc3 := Lib.hid (hc2.out.trans (hc3.mono hc2.out.size)); have r3 := HPX.out _ hc3.out; have s3 := HK0.out _ hc3.out)
              | (go_at_call 20; (with_reducible refine (HI1.out _ (HTL.out _ hc3.out) HLT.out).mono ?_); rintro e w4 ⟨rfl, hc4⟩; replace hc4 := Lib.hid (hc3.out.trans (hc4.mono hc3.out.size)); have r4 := HPX.out _ hc4.out; have s4 := HK0.out _ hc4.out)
              | (go_at_call 21; (with_reducible refine (HNM.out _ (HTL.out _ hc4.out) HLT.out).mono ?_); rintro e w5 ⟨rfl, hc5⟩; replace hc5 := Lib.hid (hc4.out.trans (hc5.mono hc4.out.size)); have r5 := HPX.out _ hc5.out; have s5 := HK0.out _ hc5.out)
              | (go_at_call 20; (with_reducible refine (HI5.out _ (HTL.out _ hc5.out) HLT.out).mono ?_); rintro e w6 ⟨rfl, hc6⟩; replace hc6 := Lib.hid (hc5.out.trans (hc6.mono hc5.out.size)); have r6 := HPX.out _ hc6.out; have s6 := HK0.out _ hc6.out)
              | (go_at_call 20; (with_reducible refine (HI1.out _ (HTL.out _ hc6.out) HLT.out).mono ?_); rintro e w7 ⟨rfl, hc7⟩; replace hc7 := Lib.hid (hc6.out.trans (hc7.mono hc6.out.size)); have r7 := HPX.out _ hc7.out; have s7 := HK0.out _ hc7.out)
              | (go_at_call 10; (with_reducible refine (HAW.out _).mono ?_); rintro e w8 ⟨rfl, hc8⟩; replace hc8 := Lib.hid (hc7.out.trans (hc8.mono hc7.out.size)))
              | fail)
            go_ret
            exact ⟨by simp, HBA.out.trans (hc8.out.mono HBA.out.size)⟩
          case true =>
            go_wp2_with (first
              | (go_at_call 9; (with_reducible refine (HLA.out _ (HTL.out _ (Below.refl W.heap.size W))).mono ?_); rintro e w1 ⟨rfl, hc1⟩; replace hc1 := Lib.hid ((Below.refl W.heap.size W).trans (hc1.mono (Below.refl W.heap.size W).size)); have r1 := HPX.out _ hc1.out; have s1 := HK0.out _ hc1.out)
              | (go_at_call 15; (with_reducible refine (HMY.out _ (HTL.out _ hc1.out)).mono ?_); rintro e w2 ⟨rfl, hc2⟩; replace hc2 := Lib.hid (hc1.out.trans (hc2.mono hc1.out.size)); have r2 := HPX.out _ hc2.out; have s2 := HK0.out _ hc2.out)
              | (go_at_call 20; (with_reducible refine (HI1.out _ (HTL.out _ hc2.out) HLT.out).mono ?_); rintro e w3 ⟨rfl, hc3⟩; replace hc3 := Lib.hid (hc2.out.trans (hc3.mono hc2.out.size)); have r3 := HPX.out _ hc3.out; have s3 := HK0.out _ hc3.out)
              | (go_at_call 20; (with_reducible refine (HI1.out _ (HTL.out _ hc3.out) HLT.out).mono ?_); rintro e w4 ⟨rfl, hc4⟩; replace hc4 := Lib.hid (hc3.out.trans (hc4.mono hc3.out.size)); have r4 := HPX.out _ hc4.out; have s4 := HK0.out _ hc4.out)
              | (go_at_call 21; (with_reducible refine (HNM.out _ (HTL.out _ hc4.out) HLT.out).mono ?_); rintro e w5 ⟨rfl, hc5⟩; replace hc5 := Lib.hid (hc4.out.trans (hc5.mono hc4.out.size)); have r5 := HPX.out _ hc5.out; have s5 := HK0.out _ hc5.out)
              | (go_at_call 20; (with_reducible refine (HI5.out _ (HTL.out _ hc5.out) HLT.out).mono ?_); rintro e w6 ⟨rfl, hc6⟩; replace hc6 := Lib.hid (hc5.out.trans (hc6.mono hc5.out.size)); have r6 := HPX.out _ hc6.out; have s6 := HK0.out _ hc6.out)
              | (go_at_call 10; (with_reducible refine (HAW.out _).mono ?_); rintro e w7 ⟨rfl, hc7⟩; replace hc7 := Lib.hid (hc6.out.trans (hc7.mono hc6.out.size)))
              | fail)
            go_ret
            exact ⟨by simp, HBA.out.trans (hc7.out.mono HBA.out.size)⟩
    | true =>
      have hkt : kd = true := by cases kd with | true => rfl | false => exact absurd (hkd2 rfl) (by simp)
      subst hkt
      clear hkd2
      cases X2 with
      | false =>
        clear hx3
        cases ne with
        | false =>
          cases n0
          all_goals
            go_wp2_with (first
              | (go_at_call 9; (with_reducible refine (HLA.out _ (HTL.out _ (Below.refl W.heap.size W))).mono ?_); rintro e w1 ⟨rfl, hc1⟩; replace hc1 := Lib.hid ((Below.refl W.heap.size W).trans (hc1.mono (Below.refl W.heap.size W).size)); have r1 := HPX.out _ hc1.out; have s1 := HK0.out _ hc1.out)
              | (go_at_call 15; (with_reducible refine (HMY.out _ (HTL.out _ hc1.out)).mono ?_); rintro e w2 ⟨rfl, hc2⟩; replace hc2 := Lib.hid (hc1.out.trans (hc2.mono hc1.out.size)); have r2 := HPX.out _ hc2.out; have s2 := HK0.out _ hc2.out)
              | (go_at_call 20; (with_reducible refine (HI1.out _ (HTL.out _ hc2.out) HLT.out).mono ?_); rintro e w3 ⟨rfl, hc3⟩; replace hc3 := Lib.hid (hc2.out.trans (hc3.mono hc2.out.size)); have r3 := HPX.out _ hc3.out; have s3 := HK0.out _ hc3.out)
              | (go_at_call 20; (with_reducible refine (HI2.out _ (HTL.out _ hc3.out) HLT.out).mono ?_); rintro e w4 ⟨rfl, hc4⟩; replace hc4 := Lib.hid (hc3.out.trans (hc4.mono hc3.out.size)); have r4 := HPX.out _ hc4.out; have s4 := HK0.out _ hc4.out)
              | (go_at_call 21; (with_reducible refine (HNM.out _ (HTL.out _ hc4.out) HLT.out).mono ?_); rintro e w5 ⟨rfl, hc5⟩; replace hc5 := Lib.hid (hc4.out.trans (hc5.mono hc4.out.size)); have r5 := HPX.out _ hc5.out; have s5 := HK0.out _ hc5.out)
              | (go_at_call 20; (with_reducible refine (HI5.out _ (HTL.out _ hc5.out) HLT.out).mono ?_); rintro e w6 ⟨rfl, hc6⟩; replace hc6 := Lib.hid (hc5.out.trans (hc6.mono hc5.out.size)); have r6 := HPX.out _ hc6.out; have s6 := HK0.out _ hc6.out)
              | (go_at_call 10; (with_reducible refine (HAW.out _).mono ?_); rintro e w7 ⟨rfl, hc7⟩; replace hc7 := Lib.hid (hc6.out.trans (hc7.mono hc6.out.size)))
              | fail)
            go_ret
            exact ⟨by simp, HBA.out.trans (hc7.out.mono HBA.out.size)⟩
        | true =>
          have hx := hx4 rfl rfl
          subst hx
          clear hx4
          cases n0
          all_goals
            go_wp2_with (first
              | (go_at_call 9; (with_reducible refine (HLA.out _ (HTL.out _ (Below.refl W.heap.size W))).mono ?_); rintro e w1 ⟨rfl, hc1⟩; replace hc1 := Lib.hid ((Below.refl W.heap.size W).trans (hc1.mono (Below.refl W.heap.size W).size)); have r1 := HPX.out _ hc1.out; have s1 := HK0.out _ hc1.out)
              | (go_at_call 15; (with_reducible refine (HMY.out _ (HTL.out _ hc1.out)).mono ?_); rintro e w2 ⟨rfl, hc2⟩; replace hc2 := Lib.hid (hc1.out.trans (hc2.mono hc1.out.size)); have r2 := HPX.out _ hc2.out; have s2 := HK0.out _ hc2.out)
              | (go_at_call 20; (with_reducible refine (HI1.out _ (HTL.out _ hc2.out) HLT.out).mono ?_); rintro e w3 ⟨rfl, hc3⟩; replace hc3 := Lib.hid (hc2.out.trans (hc3.mono hc2.out.size)); have r3 := HPX.out _ hc3.out; have s3 := HK0.out _ hc3.out)
              | (go_at_call 20; (with_reducible refine (HI2.out _ (HTL.out _ hc3.out) HLT.out).mono ?_); rintro e w4 ⟨rfl, hc4⟩; replace hc4 := Lib.hid (hc3.out.trans (hc4.mono hc3.out.size)); have r4 := HPX.out _ hc4.out; have s4 := HK0.out _ hc4.out)
              | (go_at_call 20; (with_reducible refine (HI1.out _ (HTL.out _ hc4.out) HLT.out).mono ?_); rintro e w5 ⟨rfl, hc5⟩; replace hc5 := Lib.hid (hc4.out.trans (hc5.mono hc4.out.size)); have r5 := HPX.out _ hc5.out; have s5 := HK0.out _ hc5.out)
              | (go_at_call 20; (with_reducible refine (HI4.out _ (HTL.out _ hc5.out) HLT.out).mono ?_); rintro e w6 ⟨rfl, hc6⟩; replace hc6 := Lib.hid (hc5.out.trans (hc6.mono hc5.out.size)); have r6 := HPX.out _ hc6.out; have s6 := HK0.out _ hc6.out)
              | (go_at_call 21; (with_reducible refine (HNM.out _ (HTL.out _ hc6.out) HLT.out).mono ?_); rintro e w7 ⟨rfl, hc7⟩; replace hc7 := Lib.hid (hc6.out.trans (hc7.mono hc6.out.size)); have r7 := HPX.out _ hc7.out; have s7 := HK0.out _ hc7.out)
              | (go_at_call 20; (with_reducible refine (HI5.out _ (HTL.out _ hc7.out) HLT.out).mono ?_); rintro e w8 ⟨rfl, hc8⟩; replace hc8 := Lib.hid (hc7.out.trans (hc8.mono hc7.out.size)); have r8 := HPX.out _ hc8.out; have s8 := HK0.out _ hc8.out)
              | (go_at_call 10; (with_reducible refine (HAW.out _).mono ?_); rintro e w9 ⟨rfl, hc9⟩; replace hc9 := Lib.hid (hc8.out.trans (hc9.mono hc8.out.size)))
              | fail)
            go_ret
            exact ⟨by simp, HBA.out.trans (hc9.out.mono HBA.out.size)⟩
      | true =>
        have hx := hx3 rfl rfl
        subst hx
        clear hx3
        cases ne with
        | false =>
          cases n0
          all_goals
            go_wp2_with (first
              | (go_at_call 9; (with_reducible refine (HLA.out _ (HTL.out _ (Below.refl W.heap.size W))).mono ?_); rintro e w1 ⟨rfl, hc1⟩; replace hc1 := Lib.hid ((Below.refl W.heap.size W).trans (hc1.mono (Below.refl W.heap.size W).size)); have r1 := HPX.out _ hc1.out; have s1 := HK0.out _ hc1.out)
              | (go_at_call 15; (with_reducible refine (HMY.out _ (HTL.out _ hc1.out)).mono ?_); rintro e w2 ⟨rfl, hc2⟩; replace hc2 := Lib.hid (hc1.out.trans (hc2.mono hc1.out.size)); have r2 := HPX.out _ hc2.out; have s2 := HK0.out _ hc2.out)
              | (go_at_call 20; (with_reducible refine (HI1.out _ (HTL.out _ hc2.out) HLT.out).mono ?_); rintro e w3 ⟨rfl, hc3⟩; replace hc3 := Lib.hid (hc2.out.trans (hc3.mono hc2.out.size)); have r3 := HPX.out _ hc3.out; have s3 := HK0.out _ hc3.out)
              | (go_at_call 20; (with_reducible refine (HI2.out _ (HTL.out _ hc3.out) HLT.out).mono ?_); rintro e w4 ⟨rfl, hc4⟩; replace hc4 := Lib.hid (hc3.out.trans (hc4.mono hc3.out.size)); have r4 := HPX.out _ hc4.out; have s4 := HK0.out _ hc4.out)
              | (go_at_call 20; (with_reducible refine (HI3.out _ (HTL.out _ hc4.out) HLT.out).mono ?_); rintro e w5 ⟨rfl, hc5⟩; replace hc5 := Lib.hid (hc4.out.trans (hc5.mono hc4.out.size)); have r5 := HPX.out _ hc5.out; have s5 := HK0.out _ hc5.out)
              | (go_at_call 21; (with_reducible refine (HNM.out _ (HTL.out _ hc5.out) HLT.out).mono ?_); rintro e w6 ⟨rfl, hc6⟩; replace hc6 := Lib.hid (hc5.out.trans (hc6.mono hc5.out.size)); have r6 := HPX.out _ hc6.out; have s6 := HK0.out _ hc6.out)
              | (go_at_call 20; (with_reducible refine (HI5.out _ (HTL.out _ hc6.out) HLT.out).mono ?_); rintro e w7 ⟨rfl, hc7⟩; replace hc7 := Lib.hid (hc6.out.trans (hc7.mono hc6.out.size)); have r7 := HPX.out _ hc7.out; have s7 := HK0.out _ hc7.out)
              | (go_at_call 10; (with_reducible refine (HAW.out _).mono ?_); rintro e w8 ⟨rfl, hc8⟩; replace hc8 := Lib.hid (hc7.out.trans (hc8.mono hc7.out.size)))
              | fail)
            go_ret
            exact ⟨by simp, HBA.out.trans (hc8.out.mono HBA.out.size)⟩
        | true =>
          have hx := hx4 rfl rfl
          subst hx
          clear hx4
          cases n0
          all_goals
            go_wp2_with (first
              | (go_at_call 9; (with_reducible refine (HLA.out _ (HTL.out _ (Below.refl W.heap.size W))).mono ?_); rintro e w1 ⟨rfl, hc1⟩; replace hc1 := Lib.hid ((Below.refl W.heap.size W).trans (hc1.mono (Below.refl W.heap.size W).size)); have r1 := HPX.out _ hc1.out; have s1 := HK0.out _ hc1.out)
              | (go_at_call 15; (with_reducible refine (HMY.out _ (HTL.out _ hc1.out)).mono ?_); rintro e w2 ⟨rfl, hc2⟩; replace hc2 := Lib.hid (hc1.out.trans (hc2.mono hc1.out.size)); have r2 := HPX.out _ hc2.out; have s2 := HK0.out _ hc2.out)
              | (go_at_call 20; (with_reducible refine (HI1.out _ (HTL.out _ hc2.out) HLT.out).mono ?_); rintro e w3 ⟨rfl, hc3⟩; replace hc3 := Lib.hid (hc2.out.trans (hc3.mono hc2.out.size)); have r3 := HPX.out _ hc3.out; have s3 := HK0.out _ hc3.out)
              | (go_at_call 20; (with_reducible refine (HI2.out _ (HTL.out _ hc3.out) HLT.out).mono ?_); rintro e w4 ⟨rfl, hc4⟩; replace hc4 := Lib.hid (hc3.out.trans (hc4.mono hc3.out.size)); have r4 := HPX.out _ hc4.out; have s4 := HK0.out _ hc4.out)
              | (go_at_call 20; (with_reducible refine (HI3.out _ (HTL.out _ hc4.out) HLT.out).mono ?_); rintro e w5 ⟨rfl, hc5⟩; replace hc5 := Lib.hid (hc4.out.trans (hc5.mono hc4.out.size)); have r5 := HPX.out _ hc5.out; have s5 := HK0.out _ hc5.out)
              | (go_at_call 20; (with_reducible refine (HI1.out _ (HTL.out _ hc5.out) HLT.out).mono ?_); rintro e w6 ⟨rfl, hc6⟩; replace hc6 := Lib.hid (hc5.out.trans (hc6.mono hc5.out.size)); have r6 := HPX.out _ hc6.out; have s6 := HK0.out _ hc6.out)
              | (go_at_call 20; (with_reducible refine (HI4.out _ (HTL.out _ hc6.out) HLT.out).mono ?_); rintro e w7 ⟨rfl, hc7⟩; replace hc7 := Lib.hid (hc6.out.trans (hc7.mono hc6.out.size)); have r7 := HPX.out _ hc7.out; have s7 := HK0.out _ hc7.out)
              | (go_at_call 21; (with_reducible refine (HNM.out _ (HTL.out _ hc7.out) HLT.out).mono ?_); rintro e w8 ⟨rfl, hc8⟩; replace hc8 := Lib.hid (hc7.out.trans (hc8.mono hc7.out.size)); have r8 := HPX.out _ hc8.out; have s8 := HK0.out _ hc8.out)
              | (go_at_call 20; (with_reducible refine (HI5.out _ (HTL.out _ hc8.out) HLT.out).mono ?_); rintro e w9 ⟨rfl, hc9⟩; replace hc9 := Lib.hid (hc8.out.trans (hc9.mono hc8.out.size)); have r9 := HPX.out _ hc9.out; have s9 := HK0.out _ hc9.out)
              | (go_at_call 10; (with_reducible refine (HAW.out _).mono ?_); rintro e w10 ⟨rfl, hc10⟩; replace hc10 := Lib.hid (hc9.out.trans (hc10.mono hc9.out.size)))
              | fail)
            go_ret
            exact ⟨by simp, HBA.out.trans (hc10.out.mono HBA.out.size)⟩
end Go.Proofs.YtfboilbmehcgoaaDoor
