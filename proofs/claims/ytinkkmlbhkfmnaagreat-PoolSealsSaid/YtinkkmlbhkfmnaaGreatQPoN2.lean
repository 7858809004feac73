/- A part of what the last text proves. -/
import Derived.Test.YtinkkmlbhkfmnaaGreatQLe
namespace Go.Proofs.YtinkkmlbhkfmnaaGreat
open Go.RowKit

attribute [local go_sem] Oper.semAt_some
theorem rb_cb {w w' : World} {C : Nat -> Prop} {A : Option Addr} {l : List UInt8} (h : RB w w.heap.size A l) (hb : Below w.heap.size w w') (hc : ∀b, b < w.heap.size -> C b) : CB w' C A l := λhn => by
  obtain ⟨ad, e, hlt, hk⟩ := h hn
  refine ⟨ad, e, hc _ hlt, λj hj => ?_⟩
  have e2 : (ad.add j).block = ad.block := by unfold Addr.add; split <;> rfl
  exact (World.cell?_of_block (a := ad.add j) (by rw [e2]; exact hb.block _ hlt)).trans (hk j hj)
theorem yK {n : Nat} {w w1 w2 : World} {F : Nat -> Prop} (hn : n <= w.heap.size) (h : Below n w w1) (hs : Safe F w1 w2) (hF : ∀b, b < n -> F b) : Below n w w2 :=
  ⟨hs.os.trans h.os, hs.tape.trans h.tape, hs.output.trans h.output, Nat.le_trans h.size hs.size, λb hb => (hs.block (Nat.lt_of_lt_of_le hb (Nat.le_trans hn h.size)) (hF b hb)).trans (h.block b hb)⟩
theorem zMi {V : World} {q : Nat} (r r' : P2) {t : TypeId} (h : V.heap[q]? = some (.cells #[.int .i64 r.1, .int .i64 r.2, .int .i64 r'.1, .int .i64 r'.2] t (0, 0))) : RLies V (some ⟨q, 0, none⟩) [r, r'] := λ_ => ⟨_, 0, rfl, qD h, λj hj => by
  rcases j with _ | _ | j
  . constructor <;> simp [World.cell?, h]
  . constructor <;> simp [World.cell?, h]
  . simp at hj; omega⟩
theorem zDa (w : World) (o : Obj) : (w.alloc o).heap.size = w.heap.size + 1 := by simp
/-- The five blocks that the law makes: four lists of refs, and a table of them. -/
theorem zZv (w : World) (pg : Int) (t t2 : TypeId) (cs : Array Value) :
    RLies (((((w.alloc (.cells #[.int .i64 pg, .int .i64 1, .int .i64 pg, .int .i64 3] t)).alloc (.cells #[.int .i64 pg, .int .i64 99999] t)).alloc (.cells #[.int .i64 0, .int .i64 2] t)).alloc (.cells #[.int .i64 pg, .int .i64 3, .int .i64 pg, .int .i64 3] t)).alloc (.cells cs t2)) (some ⟨w.heap.size, 0, none⟩) [(pg, 1), (pg, 3)] /\
    RLies (((((w.alloc (.cells #[.int .i64 pg, .int .i64 1, .int .i64 pg, .int .i64 3] t)).alloc (.cells #[.int .i64 pg, .int .i64 99999] t)).alloc (.cells #[.int .i64 0, .int .i64 2] t)).alloc (.cells #[.int .i64 pg, .int .i64 3, .int .i64 pg, .int .i64 3] t)).alloc (.cells cs t2)) (some ⟨w.heap.size + 1, 0, none⟩) [(pg, 99999)] /\
    RLies (((((w.alloc (.cells #[.int .i64 pg, .int .i64 1, .int .i64 pg, .int .i64 3] t)).alloc (.cells #[.int .i64 pg, .int .i64 99999] t)).alloc (.cells #[.int .i64 0, .int .i64 2] t)).alloc (.cells #[.int .i64 pg, .int .i64 3, .int .i64 pg, .int .i64 3] t)).alloc (.cells cs t2)) (some ⟨w.heap.size + 1 + 1, 0, none⟩) [(0, 2)] /\
    RLies (((((w.alloc (.cells #[.int .i64 pg, .int .i64 1, .int .i64 pg, .int .i64 3] t)).alloc (.cells #[.int .i64 pg, .int .i64 99999] t)).alloc (.cells #[.int .i64 0, .int .i64 2] t)).alloc (.cells #[.int .i64 pg, .int .i64 3, .int .i64 pg, .int .i64 3] t)).alloc (.cells cs t2)) (some ⟨w.heap.size + 1 + 1 + 1, 0, none⟩) [(pg, 3), (pg, 3)] /\
    w.heap.size + 4 < (((((w.alloc (.cells #[.int .i64 pg, .int .i64 1, .int .i64 pg, .int .i64 3] t)).alloc (.cells #[.int .i64 pg, .int .i64 99999] t)).alloc (.cells #[.int .i64 0, .int .i64 2] t)).alloc (.cells #[.int .i64 pg, .int .i64 3, .int .i64 pg, .int .i64 3] t)).alloc (.cells cs t2)).heap.size /\
    Below w.heap.size w (((((w.alloc (.cells #[.int .i64 pg, .int .i64 1, .int .i64 pg, .int .i64 3] t)).alloc (.cells #[.int .i64 pg, .int .i64 99999] t)).alloc (.cells #[.int .i64 0, .int .i64 2] t)).alloc (.cells #[.int .i64 pg, .int .i64 3, .int .i64 pg, .int .i64 3] t)).alloc (.cells cs t2)) := by
  have h1 := zMi (pg, 1) (pg, 3) (heap_alloc_new w (.cells #[.int .i64 pg, .int .i64 1, .int .i64 pg, .int .i64 3] t))
  have b1 : Below w.heap.size w (w.alloc (.cells #[.int .i64 pg, .int .i64 1, .int .i64 pg, .int .i64 3] t)) := (Below.refl _ _).alloc (Nat.le_refl _) _
  have z1 := zDa w (.cells #[.int .i64 pg, .int .i64 1, .int .i64 pg, .int .i64 3] t)
  revert h1 b1 z1
  generalize w.alloc (.cells #[.int .i64 pg, .int .i64 1, .int .i64 pg, .int .i64 3] t) = w1
  intro h1 b1 z1
  have h2 := zFn (pg, 99999) (heap_alloc_new w1 (.cells #[.int .i64 pg, .int .i64 99999] t))
  have b2 : Below w1.heap.size w1 (w1.alloc (.cells #[.int .i64 pg, .int .i64 99999] t)) := (Below.refl _ _).alloc (Nat.le_refl _) _
  have z2 := zDa w1 (.cells #[.int .i64 pg, .int .i64 99999] t)
  revert h2 b2 z2
  generalize w1.alloc (.cells #[.int .i64 pg, .int .i64 99999] t) = w2
  intro h2 b2 z2
  have h3 := zFn (0, 2) (heap_alloc_new w2 (.cells #[.int .i64 0, .int .i64 2] t))
  have b3 : Below w2.heap.size w2 (w2.alloc (.cells #[.int .i64 0, .int .i64 2] t)) := (Below.refl _ _).alloc (Nat.le_refl _) _
  have z3 := zDa w2 (.cells #[.int .i64 0, .int .i64 2] t)
  revert h3 b3 z3
  generalize w2.alloc (.cells #[.int .i64 0, .int .i64 2] t) = w3
  intro h3 b3 z3
  have h4 := zMi (pg, 3) (pg, 3) (heap_alloc_new w3 (.cells #[.int .i64 pg, .int .i64 3, .int .i64 pg, .int .i64 3] t))
  have b4 : Below w3.heap.size w3 (w3.alloc (.cells #[.int .i64 pg, .int .i64 3, .int .i64 pg, .int .i64 3] t)) := (Below.refl _ _).alloc (Nat.le_refl _) _
  have z4 := zDa w3 (.cells #[.int .i64 pg, .int .i64 3, .int .i64 pg, .int .i64 3] t)
  revert h4 b4 z4
  generalize w3.alloc (.cells #[.int .i64 pg, .int .i64 3, .int .i64 pg, .int .i64 3] t) = w4
  intro h4 b4 z4
  have b5 : Below w4.heap.size w4 (w4.alloc (.cells cs t2)) := (Below.refl _ _).alloc (Nat.le_refl _) _
  have z5 := zDa w4 (.cells cs t2)
  revert b5 z5
  generalize w4.alloc (.cells cs t2) = w5
  intro b5 z5
  have e2 : w1.heap.size = w.heap.size + 1 := z1
  have e3 : w2.heap.size = w.heap.size + 1 + 1 := by omega
  have e4 : w3.heap.size = w.heap.size + 1 + 1 + 1 := by omega
  rw [e2] at h2
  rw [e3] at h3
  rw [e4] at h4
  exact ⟨(((h1.below b2).below b3).below b4).below b5, ((h2.below b3).below b4).below b5, (h3.below b4).below b5, h4.below b5, by omega, b1.trans ((b2.mono (by omega)).trans ((b3.mono (by omega)).trans ((b4.mono (by omega)).trans (b5.mono (by omega)))))⟩
theorem zVz {pg : Int} {l : List P2} (hp : 1 <= pg /\ pg <= 60) (h : ∀r ∈ l, 0 <= r.1 /\ r.1 <= 60 /\ 0 <= r.2 /\ r.2 <= 99999 \/ r.1 = pg /\ 0 <= r.2 /\ r.2 <= 99999) : ∀r ∈ l, WfP r := λr hr => by
  rcases h r hr with ⟨h1, h2, h3, h4⟩ | ⟨h1, h3, h4⟩
  . exact ⟨yg ⟨by omega, by omega⟩, yg ⟨by omega, by omega⟩⟩
  . exact ⟨yg ⟨by omega, by omega⟩, yg ⟨by omega, by omega⟩⟩
theorem pick_one {y : Pg} {K : Int} (hK : 1 <= K) (hr : y.r.1 ≠ 0) : zDn [y] [true] K = [y] := by
  have h0 : ¬K <= 0 := by omega
  simp [zDn, vb, vJ, hr, h0]
theorem cb_lit (w : World) (C : Nat -> Prop) (l : List UInt8) (t : TypeId) (fr : Nat × Nat) (hc : C w.heap.size) : CB (w.alloc (.cells (l.map ub).toArray t fr)) C (some ⟨w.heap.size, 0, none⟩) l := λhn => by
  obtain ⟨ad, e, _, hk⟩ := zXi w l t fr hn
  refine ⟨ad, e, ?_, hk⟩
  rw [<- Option.some.inj e]
  exact hc
section
variable {w w' : World} {s p c l f : Nat} {x k : Nat -> Prop} {g : Cf} {Q Q' : PS} {D : Dat} {lv fr : List Pg} {Al Af : Option Addr} {cl cf cc : Nat}
def PutSit (w : World) (s p c : Nat) (x : Nat -> Prop) (g : Cf) (Q : PS) (lv fr : List Pg) (Al : Option Addr) (cl : Nat) (Af : Option Addr) (cc : Nat) (page : Int) (d : List UInt8) (e : Ending) (w' : World) : Prop :=
  e = .returned (.bool true) /\ ∃Q' D' Af' cf' y A ca, Sit w' s p c y g Q' D' lv (fr ++ [⟨(page, Q.seq + 1), d, A, ca⟩]) Al cl Af' cf' cc /\ Q'.seq = Q.seq + 1 /\ (∀b, vW x s Af b -> vW y s Af' b) /\ Safe (vW x s Af) w w'
def SealSit (w : World) (s p c : Nat) (x : Nat -> Prop) (g : Cf) (Q : PS) (lv fr : List Pg) (Af : Option Addr) (cc : Nat) (pk : List Bool) (d : List UInt8) (e : Ending) (w' : World) : Prop :=
  e = .returned (.bool true) /\ ∃Q' D' Al' cl' y A ca, Sit w' s p c y g Q' D' (zDn (lv ++ fr) pk Q.K ++ [⟨(0, Q.seq + 1), d, A, ca⟩]) [] Al' cl' none 0 cc /\ Q'.seq = Q.seq + 1 /\ (∀b, vW x s Af b -> vW y s none b) /\ Safe (vW x s Af) w w'
theorem zRe {n : Nat} (page : Int) (A : Option Addr) (m : Nat) (data : List UInt8) (hn : data.length = n) (h : Sit w s p c x g Q D lv fr Al cl Af cf (cc + 1)) (hcd : CB w (vW x s Af) A data) (hdl : n <= 60) (hdn : A = none -> n = 0 /\ m = 0) (hp : 1 <= page /\ page <= 60) (hsq : Q.seq + 1 <= 1099511627776) (hk : (lv.length : Int) + fr.length < Q.K + 6) :
    Calls Tryz.prog 15 #[.pointer (some ⟨s, 0, none⟩), .agg #[.int .i64 0, .int .i64 0, .int .i64 0, .int .i64 page, .slice A n m, .slice none 0 0]] w (PutSit w s p c x g Q lv fr Al cl Af cc page data) := by
  subst hn
  exact sit_put ⟨0, 0, 0, page, A, m, data, none, 0, []⟩ h hcd hdl hdn hp hsq hk
theorem zWi {n k : Nat} (A : Option Addr) (m : Nat) (data : List UInt8) (hn : data.length = n) (A2 : Option Addr) (c2 : Nat) (pk : List Bool) (hk : pk.length = k) (h : Sit w s p c x g Q D lv fr Al cl Af cf (cc + 1)) (hcd : CB w (vW x s Af) A data) (hdl : n <= 60) (hdn : A = none -> n = 0 /\ m = 0) (hpk : BA w A2 pk) (hpl : k <= 1000) (hsq : Q.seq + 1 <= 1099511627776) :
    Calls Tryz.prog 11 #[.pointer (some ⟨s, 0, none⟩), .agg #[.int .i64 0, .int .i64 0, .int .i64 0, .int .i64 0, .slice A n m, .slice A2 k c2]] w (SealSit w s p c x g Q lv fr Af cc pk data) := by
  subst hn
  subst hk
  exact sit_seal ⟨0, 0, 0, 0, A, m, data, A2, c2, pk⟩ h hcd hdl hdn hpk hpl hsq
end
set_option maxRecDepth 100000 in
set_option maxHeartbeats 8000000 in
theorem zWq (B P Sp K U : Int) (A : Option Addr) (m : Nat) (data : List UInt8) (page how : Int) (w : World) (hr : RB w w.heap.size A data) (hA : A = none -> data.length = 0 /\ m = 0) : Calls Tryz.prog 8 #[.agg #[.int .i64 B, .int .i64 P, .int .i64 Sp, .int .i64 K, .int .i64 U], .slice A data.length m, .int .i64 page, .int .i64 how] w λe w' => e = .returned (.bool true) /\ Below w.heap.size w w' := by
  obtain ⟨W, hW⟩ : ∃W, W = w.alloc (.cells #[.int .i64 B, .int .i64 P, .int .i64 Sp, .int .i64 K, .int .i64 U] 23) := ⟨_, rfl⟩
  have hbW : Below w.heap.size w W := by rw [hW]; exact (Below.refl _ _).alloc (Nat.le_refl _) _
  have HBW := Lib.hid hbW
  have HX : Hid (W.heap[w.heap.size]? = some (.cells #[.int .i64 B, .int .i64 P, .int .i64 Sp, .int .i64 K, .int .i64 U] 23 (0, 0))) := Lib.hid (by rw [hW]; exact heap_alloc_new _ _)
  have HR := Lib.hid hr
  have HA := Lib.hid hA
  have HWE := Lib.hid hW
  obtain ⟨a0, a1, a2, a3, a4⟩ := cfg5 HX.out
  clear hr hA hbW hW
  go_enter Tryz.func8, Tryz.ntmps8
  go_upto_region 1 with fail
  rw [<- HWE.out]
  go_wp2_with fail
  refine (zIh B P Sp K U none 0 [] none 0 [] W (λh => absurd h (by simp)) (λi hi => absurd hi (by simp)) (by simp [maxLen]) (by simp [maxLen])).mono ?_
  rintro e w1 hbeg
  rcases zWk hbeg with ⟨rfl, hb1⟩ | ⟨s, p, c, x, Q, rfl, hsit, hseq, hK, hx1, hb1, hlight⟩
  . have HB1 : Hid (Below w.heap.size w w1) := Lib.hid (HBW.out.trans (hb1.mono HBW.out.size))
    clear hb1 hbeg
    go_wp2_with (first
      | (go_at_call 10; (with_reducible refine (zAw _).mono ?_); rintro e w2 ⟨rfl, hb2⟩; have HB2 := Lib.hid hb2; clear hb2)
      | fail)
    go_ret
    exact ⟨rfl, HB1.out.trans (HB2.out.mono HB1.out.size)⟩
  . have HB1 : Hid (Below w.heap.size w w1) := Lib.hid (HBW.out.trans (hb1.mono HBW.out.size))
    clear hbeg
    by_cases h60 : 60 < (data.length : Int)
    . clear hb1
      go_wp2_with (first
        | (go_at_call 10; (with_reducible refine (zAw _).mono ?_); rintro e w2 ⟨rfl, hb2⟩; have HB2 := Lib.hid hb2; clear hb2)
        | fail)
      go_ret
      exact ⟨rfl, HB1.out.trans (HB2.out.mono HB1.out.size)⟩
    . have HSit := Lib.hid hsit
      have HXX := Lib.hid hx1
      have c1 := (hsit (λ_ => []) 0 (by omega)).st.sc.c1
      clear hb1 hsit hx1 hlight
      have kc := λ(w : World) (C : Array Value) (n c : Nat) => Lib.run_convert_bytes_const (P := Tryz.prog) w 34 5 C n c Tryz.underlying34 Tryz.underlying5
      have hd60 : data.length <= 60 := by omega
      have hK1 : 1 <= Q.K /\ Q.K <= 60 := (HSit.out (λ_ => []) 0 (by omega)).inv.mid.ok.may.2.2.2.1
      have HK1 := Lib.hid hK1
      have HSEQ := Lib.hid hseq
      have HF1 : Hid (∀b, b < w.heap.size -> vW x s none b) := Lib.hid λb hb => ⟨(HXX.out b (Nat.lt_of_lt_of_le hb HBW.out.size)).1, (HXX.out b (Nat.lt_of_lt_of_le hb HBW.out.size)).2, λ_ e => (by cases e)⟩
      go_upto_region 7 with fail
      obtain ⟨pg, hpg⟩ : ∃pg, pg = wrap64 (1 + wrap64 ((IntKind.u64.wrap page).tmod 60)) := ⟨_, rfl⟩
      have hpb : 1 <= pg /\ pg <= 60 := by
        have hu : 0 <= IntKind.u64.wrap page := by
          have e : IntKind.u64.wrap page = page % 18446744073709551616 := by unfold IntKind.wrap; rfl
          omega
        have h1 := Int.tmod_nonneg (60 : Int) hu
        have h2 := Int.tmod_lt_of_pos (IntKind.u64.wrap page) (show (0 : Int) < 60 by decide)
        rw [hpg]
        unfold wrap64
        omega
      rw [<- hpg]
      have HPG := Lib.hid hpb
      clear hpg c1 hK hseq hK1
      go_wp2_with (first
        | (go_at_call 15; (with_reducible refine (zRe pg A m data rfl (HSit.out (λ_ => []) 10 (by omega)) (rb_cb HR.out HB1.out HF1.out) hd60 HA.out HPG.out (by rw [HSEQ.out]; omega) (by have := HK1.out; simp; omega)).mono ?_); rintro e w2 ⟨rfl, Q2, D2, Af2, cf2, y2, A2, ca2, hs2, hq2, haw2, hsf2⟩; rw [HSEQ.out] at hs2 hq2; have HS2 : Hid (Sit w2 s p c y2 ⟨B, P, Sp, K, U, Q.bad⟩ Q2 D2 [] [⟨(pg, 1), data, A2, ca2⟩] none 0 Af2 cf2 9) := Lib.hid hs2; have HQ2 : Hid (Q2.seq = 1) := Lib.hid hq2; have HB2 : Hid (Below w.heap.size w w2) := Lib.hid (yK (Nat.le_refl _) HB1.out hsf2 HF1.out); have HF2 : Hid (∀b, b < w.heap.size -> vW y2 s Af2 b) := Lib.hid λb hb => haw2 b (HF1.out b hb); clear hs2 hq2 haw2 hsf2)
        | fail)
      have HB2a : Hid (Below w2.heap.size w2 (w2.alloc (.cells #[.bool true] 4))) := Lib.hid ((Below.refl _ _).alloc (Nat.le_refl _) _)
      have HK2 : Hid (1 <= Q2.K) := Lib.hid HS2.out.inv.mid.ok.may.2.2.2.1.1
      refine (zWi (k := 1) A m data rfl (some ⟨w2.heap.size, 0, none⟩) 1 [true] rfl (HS2.out.below HB2a.out) (rb_cb HR.out (HB2.out.trans (HB2a.out.mono HB2.out.size)) λb hb => ⟨.inl (HF2.out b hb).1, (HF2.out b hb).2⟩) hd60 HA.out (bown_one w2 true) (by omega) (by rw [HQ2.out]; omega)).mono ?_
      rintro e w3 ⟨rfl, Q3, D3, Al3, cl3, y3, A3, ca3, hs3, hq3, haw3, hsf3⟩
      rw [HQ2.out] at hs3 hq3
      rw [List.nil_append, pick_one HK2.out (by show pg ≠ 0; have := HPG.out; omega)] at hs3
      have HS3 : Hid (Sit w3 s p c y3 ⟨B, P, Sp, K, U, Q.bad⟩ Q3 D3 [⟨(pg, 1), data, A2, ca2⟩, ⟨(0, 2), data, A3, ca3⟩] [] Al3 cl3 none 0 8) := Lib.hid hs3
      have HQ3 : Hid (Q3.seq = 2) := Lib.hid hq3
      have HB3 : Hid (Below w.heap.size w w3) := Lib.hid (yK (Nat.le_refl _) (HB2.out.trans (HB2a.out.mono HB2.out.size)) hsf3 λb hb => ⟨.inl (HF2.out b hb).1, (HF2.out b hb).2⟩)
      have HF3 : Hid (∀b, b < w.heap.size -> vW y3 s none b) := Lib.hid λb hb => haw3 b ⟨.inl (HF2.out b hb).1, (HF2.out b hb).2⟩
      clear hs3 hq3 haw3 hsf3
      go_wp2_with fail
      have HB3a : Hid (Below w3.heap.size w3 (w3.alloc (.cells #[.int .u8 110, .int .u8 101, .int .u8 119] 5 (3, 4)))) := Lib.hid ((Below.refl _ _).alloc (Nat.le_refl _) _)
      have HF3a : Hid (∀b, b < w.heap.size -> vW (λb => y3 b \/ New w3 (w3.alloc (.cells #[.int .u8 110, .int .u8 101, .int .u8 119] 5 (3, 4))) b) s none b) := Lib.hid λb hb => ⟨.inl (HF3.out b hb).1, (HF3.out b hb).2⟩
      have hs3 := HS3.out.st.lt
      have HC3 : Hid (CB (w3.alloc (.cells #[.int .u8 110, .int .u8 101, .int .u8 119] 5 (3, 4))) (vW (λb => y3 b \/ New w3 (w3.alloc (.cells #[.int .u8 110, .int .u8 101, .int .u8 119] 5 (3, 4))) b) s none) (some ⟨w3.heap.size, 0, none⟩) [110, 101, 119]) := Lib.hid (cb_lit w3 _ [110, 101, 119] 5 (3, 4) ⟨.inr ⟨Nat.le_refl _, by simp⟩, by omega, λ_ e => (by cases e)⟩)
      refine (zRe (n := 3) pg (some ⟨w3.heap.size, 0, none⟩) 3 [110, 101, 119] rfl (HS3.out.below HB3a.out) HC3.out (by omega) (λe => by cases e) HPG.out (by rw [HQ3.out]; omega) (by have := HS3.out.inv.mid.ok.may.2.2.2.1; simp; omega)).mono ?_
      rintro e w4 ⟨rfl, Q4, D4, Af4, cf4, y4, A4, ca4, hs4, hq4, haw4, hsf4⟩
      rw [HQ3.out] at hs4 hq4
      have HS4 : Hid (Sit w4 s p c y4 ⟨B, P, Sp, K, U, Q.bad⟩ Q4 D4 [⟨(pg, 1), data, A2, ca2⟩, ⟨(0, 2), data, A3, ca3⟩] [⟨(pg, 3), [110, 101, 119], A4, ca4⟩] Al3 cl3 Af4 cf4 7) := Lib.hid hs4
      have HQ4 : Hid (Q4.seq = 3) := Lib.hid hq4
      have HB4 : Hid (Below w.heap.size w w4) := Lib.hid (yK (Nat.le_refl _) (HB3.out.trans (HB3a.out.mono HB3.out.size)) hsf4 HF3a.out)
      have HF4 : Hid (∀b, b < w.heap.size -> vW y4 s Af4 b) := Lib.hid λb hb => haw4 b (HF3a.out b hb)
      clear hs4 hq4 haw4 hsf4 hs3
      have c9 : w4.cell? ⟨s, 9, none⟩ = some (.slice Af4 1 cf4) := HS4.out.st.sc.c9
      have c8 : w4.cell? ⟨s, 8, none⟩ = some (.slice Al3 2 cl3) := HS4.out.st.sc.c8
      obtain ⟨Bl, ol, hAl, hBl, hcl⟩ := HS4.out.st.live (by simp)
      obtain ⟨Bf, of, hAf, hBf, hcf⟩ := HS4.out.st.fresh.lies.1 (by simp)
      have l0 : w4.cell? ⟨Bl, ol, none⟩ = some (.int .i64 pg) := (hcl 0 (by simp)).1
      have l1 : w4.cell? ⟨Bl, ol + 1, none⟩ = some (.int .i64 1) := (hcl 0 (by simp)).2.1
      have f0 : w4.cell? ⟨Bf, of, none⟩ = some (.int .i64 pg) := (hcf 0 (by simp)).1
      have f1 : w4.cell? ⟨Bf, of + 1, none⟩ = some (.int .i64 3) := (hcf 0 (by simp)).2.1
      have HAl := Lib.hid hAl
      have HAf := Lib.hid hAf
      rw [hAl] at c8
      rw [hAf] at c9
      clear hcl hcf hAl hAf
      go_upto_region 9 with fail
      have HSS : Hid (∀V, Below w4.heap.size w4 V -> V.cell? ⟨s, 8, none⟩ = some (.slice (some ⟨Bl, ol, none⟩) 2 cl3) /\ V.cell? ⟨s, 9, none⟩ = some (.slice (some ⟨Bf, of, none⟩) 1 cf4) /\ V.cell? ⟨Bl, ol, none⟩ = some (.int .i64 pg) /\ V.cell? ⟨Bl, ol + 1, none⟩ = some (.int .i64 1) /\ V.cell? ⟨Bf, of, none⟩ = some (.int .i64 pg) /\ V.cell? ⟨Bf, of + 1, none⟩ = some (.int .i64 3)) := Lib.hid λV hV => by
        have k8 := (HS4.out.st.sc.below hV).c8
        have k9 := (HS4.out.st.sc.below hV).c9
        rw [HAl.out] at k8
        rw [HAf.out] at k9
        exact ⟨k8, k9, (hV.cell (p := ⟨Bl, ol, none⟩) hBl).trans l0, (hV.cell (p := ⟨Bl, ol + 1, none⟩) hBl).trans l1, (hV.cell (p := ⟨Bf, of, none⟩) hBf).trans f0, (hV.cell (p := ⟨Bf, of + 1, none⟩) hBf).trans f1⟩
      go_cut [10, 11] from 75 to 88 (λv10 v11 wx => ∃b10 b11, v10 = .pointer (some ⟨b10, 0, none⟩) /\ v11 = .pointer (some ⟨b11, 0, none⟩) /\ (wx.cell? ⟨b10, 0, none⟩ = some (.int .i64 pg) /\ wx.cell? ⟨b10, 1, none⟩ = some (.int .i64 1)) /\ (wx.cell? ⟨b11, 0, none⟩ = some (.int .i64 pg) /\ wx.cell? ⟨b11, 1, none⟩ = some (.int .i64 3)) /\ b10 < wx.heap.size /\ (w4.heap.size <= b11 /\ b11 < wx.heap.size) /\ Below w4.heap.size w4 wx)
      case first => as_aux_lemma =>
        go_region_held3 (λV => V.cell? ⟨s, 8, none⟩ = some (.slice (some ⟨Bl, ol, none⟩) 2 cl3) /\ V.cell? ⟨s, 9, none⟩ = some (.slice (some ⟨Bf, of, none⟩) 1 cf4) /\ V.cell? ⟨Bl, ol, none⟩ = some (.int .i64 pg) /\ V.cell? ⟨Bl, ol + 1, none⟩ = some (.int .i64 1) /\ V.cell? ⟨Bf, of, none⟩ = some (.int .i64 pg) /\ V.cell? ⟨Bf, of + 1, none⟩ = some (.int .i64 3))
          ((refine HSS.out _ ?_; (repeat (first | exact Below.refl _ _ | refine Below.drew ?_ | refine Below.alloc ?_ (by first | (simp; done) | (simp; omega)) _ | refine Below.setCell ?_ (by simp) _))))
          (fail)
        all_goals
          go_wp2_with fail
          go_meet
          case rel =>
            refine ⟨_, _, rfl, rfl, ⟨?_, ?_⟩, ⟨?_, ?_⟩, ?_, ⟨?_, ?_⟩, ?_⟩
            all_goals first | (simp; done) | (go_simp; done) | (repeat (first | exact Below.refl _ _ | refine Below.drew ?_ | refine Below.alloc ?_ (by first | (simp; done) | (simp; omega)) _ | refine Below.setCell ?_ (by simp) _))
      case rest =>
        obtain ⟨b10, b11, rfl, rfl, ⟨p0, p1⟩, ⟨q0, q1⟩, hl10, ⟨hn11, hl11⟩, hbw⟩ := hcut
        obtain ⟨W5, rfl⟩ : ∃W5, W5 = wc := ⟨_, rfl⟩
        have HB5 : Hid (Below w4.heap.size w4 W5) := Lib.hid hbw
        have hz4 : (IntKind.u64.wrap how).tmod 4 = 0 \/ (IntKind.u64.wrap how).tmod 4 = 1 \/ (IntKind.u64.wrap how).tmod 4 = 2 \/ (IntKind.u64.wrap how).tmod 4 = 3 := by
          have hu : 0 <= IntKind.u64.wrap how := by
            have e : IntKind.u64.wrap how = how % 18446744073709551616 := by unfold IntKind.wrap; rfl
            omega
          have h1 := Int.tmod_nonneg (4 : Int) hu
          have h2 := Int.tmod_lt_of_pos (IntKind.u64.wrap how) (show (0 : Int) < 4 by decide)
          omega
        clear hbw c8 c9 l0 l1 f0 f1
        have HS5 : Hid (Sit W5 s p c (λb => y4 b \/ New w4 W5 b) ⟨B, P, Sp, K, U, Q.bad⟩ Q4 D4 [⟨(pg, 1), data, A2, ca2⟩, ⟨(0, 2), data, A3, ca3⟩] [⟨(pg, 3), [110, 101, 119], A4, ca4⟩] Al3 cl3 Af4 cf4 7) := Lib.hid (HS4.out.below HB5.out)
        have HX11 : Hid (y4 b11 \/ New w4 W5 b11) := Lib.hid (.inr ⟨hn11, hl11⟩)
        have HQ0 := Lib.hid q0
        have HQ1 := Lib.hid q1
        have HL11 := Lib.hid hl11
        have hz' := hz4
        clear hz4
        obtain ⟨z, hz⟩ : ∃z, wrap64 ((IntKind.u64.wrap how).tmod 4) = z := ⟨_, rfl⟩
        have hz5 : z = 0 \/ z = 1 \/ z = 2 \/ z = 3 := by
          rw [<- hz]
          unfold wrap64
          omega
        clear hz'
        have hv3 : Below W5.heap.size W5 (((W5.alloc (.cells #[.int .i64 pg, .int .i64 1, .int .i64 pg, .int .i64 3] 33)).alloc (.cells #[.int .i64 pg, .int .i64 99999] 33)).alloc (.cells #[.int .i64 0, .int .i64 2] 33)) := by (repeat (first | exact Below.refl _ _ | refine Below.drew ?_ | refine Below.alloc ?_ (by first | (simp; done) | (simp; omega)) _ | refine Below.setCell ?_ (by simp) _))
        have q0' : (((W5.alloc (.cells #[.int .i64 pg, .int .i64 1, .int .i64 pg, .int .i64 3] 33)).alloc (.cells #[.int .i64 pg, .int .i64 99999] 33)).alloc (.cells #[.int .i64 0, .int .i64 2] 33)).cell? ⟨b11, 0, none⟩ = some (.int .i64 pg) := (hv3.cell (p := ⟨b11, 0, none⟩) hl11).trans q0
        have q1' : (((W5.alloc (.cells #[.int .i64 pg, .int .i64 1, .int .i64 pg, .int .i64 3] 33)).alloc (.cells #[.int .i64 pg, .int .i64 99999] 33)).alloc (.cells #[.int .i64 0, .int .i64 2] 33)).cell? ⟨b11, 1, none⟩ = some (.int .i64 3) := (hv3.cell (p := ⟨b11, 1, none⟩) hl11).trans q1
        clear hv3
        go_upto_region 10 with fail
        have hfl := zZv W5 pg 33 64 #[.slice (some ⟨W5.heap.size, 0, none⟩) 2 2, .slice (some ⟨W5.heap.size + 1, 0, none⟩) 1 1, .slice (some ⟨W5.heap.size + 1 + 1, 0, none⟩) 1 1, .slice (some ⟨W5.heap.size + 1 + 1 + 1, 0, none⟩) 2 2]
        have HFL := Lib.hid hfl
        clear hfl
        rcases hz5 with rfl | rfl | rfl | rfl
        focus
          go_upto_region 11 with fail
          have hf := HFL.out.1
          have h5 := HFL.out.2.2.2.2.1
          have h6 := HFL.out.2.2.2.2.2
          generalize (((((W5.alloc (.cells #[.int .i64 pg, .int .i64 1, .int .i64 pg, .int .i64 3] 33)).alloc (.cells #[.int .i64 pg, .int .i64 99999] 33)).alloc (.cells #[.int .i64 0, .int .i64 2] 33)).alloc (.cells #[.int .i64 pg, .int .i64 3, .int .i64 pg, .int .i64 3] 33)).alloc (.cells #[.slice (some ⟨W5.heap.size, 0, none⟩) 2 2, .slice (some ⟨W5.heap.size + 1, 0, none⟩) 1 1, .slice (some ⟨W5.heap.size + 1 + 1, 0, none⟩) 1 1, .slice (some ⟨W5.heap.size + 1 + 1 + 1, 0, none⟩) 2 2] 64)) = W6 at hf h5 h6 ⊢
          have HRL := Lib.hid hf
          have HB6 := Lib.hid h6
          have HRA : Hid (∀ad : Addr, some (⟨W5.heap.size, 0, none⟩ : Addr) = some ad -> W5.heap.size <= ad.block /\ ad.block < W6.heap.size) := Lib.hid λad e => by rw [<- Option.some.inj e]; exact ⟨by show W5.heap.size <= W5.heap.size; omega, by show W5.heap.size < _; omega⟩
          have HM : Hid (Q4.may [(pg, 1), (pg, 3)] = false) := Lib.hid (zNe HS5.out.inv (by simp [ya]))
          have HLN : Hid (([(pg, 1), (pg, 3)] : List P2).length = 2) := Lib.hid rfl
          have HWL : Hid (∀r ∈ ([(pg, 1), (pg, 3)] : List P2), WfP r) := Lib.hid (zVz HPG.out (by simp))
          clear hf h5 h6 q0' q1'
          generalize some (⟨W5.heap.size, 0, none⟩ : Addr) = A12 at HRL HRA ⊢
          generalize ([(pg, 1), (pg, 3)] : List P2) = lr at HRL HM HLN HWL
        rotate_left
        focus
          go_upto_region 11 with fail
          have hf := HFL.out.2.1
          have h5 := HFL.out.2.2.2.2.1
          have h6 := HFL.out.2.2.2.2.2
          generalize (((((W5.alloc (.cells #[.int .i64 pg, .int .i64 1, .int .i64 pg, .int .i64 3] 33)).alloc (.cells #[.int .i64 pg, .int .i64 99999] 33)).alloc (.cells #[.int .i64 0, .int .i64 2] 33)).alloc (.cells #[.int .i64 pg, .int .i64 3, .int .i64 pg, .int .i64 3] 33)).alloc (.cells #[.slice (some ⟨W5.heap.size, 0, none⟩) 2 2, .slice (some ⟨W5.heap.size + 1, 0, none⟩) 1 1, .slice (some ⟨W5.heap.size + 1 + 1, 0, none⟩) 1 1, .slice (some ⟨W5.heap.size + 1 + 1 + 1, 0, none⟩) 2 2] 64)) = W6 at hf h5 h6 ⊢
          have HRL := Lib.hid hf
          have HB6 := Lib.hid h6
          have HRA : Hid (∀ad : Addr, some (⟨W5.heap.size + 1, 0, none⟩ : Addr) = some ad -> W5.heap.size <= ad.block /\ ad.block < W6.heap.size) := Lib.hid λad e => by rw [<- Option.some.inj e]; exact ⟨by show W5.heap.size <= W5.heap.size + 1; omega, by show W5.heap.size + 1 < _; omega⟩
          have HM : Hid (Q4.may [(pg, 99999)] = false) := Lib.hid (zIa HS5.out.inv (r := (pg, 99999)) (by simp) (.inl (by simp)))
          have HLN : Hid (([(pg, 99999)] : List P2).length = 1) := Lib.hid rfl
          have HWL : Hid (∀r ∈ ([(pg, 99999)] : List P2), WfP r) := Lib.hid (zVz HPG.out (by simp))
          clear hf h5 h6 q0' q1'
          generalize some (⟨W5.heap.size + 1, 0, none⟩ : Addr) = A12 at HRL HRA ⊢
          generalize ([(pg, 99999)] : List P2) = lr at HRL HM HLN HWL
        rotate_left
        focus
          go_upto_region 11 with fail
          have hf := HFL.out.2.2.1
          have h5 := HFL.out.2.2.2.2.1
          have h6 := HFL.out.2.2.2.2.2
          generalize (((((W5.alloc (.cells #[.int .i64 pg, .int .i64 1, .int .i64 pg, .int .i64 3] 33)).alloc (.cells #[.int .i64 pg, .int .i64 99999] 33)).alloc (.cells #[.int .i64 0, .int .i64 2] 33)).alloc (.cells #[.int .i64 pg, .int .i64 3, .int .i64 pg, .int .i64 3] 33)).alloc (.cells #[.slice (some ⟨W5.heap.size, 0, none⟩) 2 2, .slice (some ⟨W5.heap.size + 1, 0, none⟩) 1 1, .slice (some ⟨W5.heap.size + 1 + 1, 0, none⟩) 1 1, .slice (some ⟨W5.heap.size + 1 + 1 + 1, 0, none⟩) 2 2] 64)) = W6 at hf h5 h6 ⊢
          have HRL := Lib.hid hf
          have HB6 := Lib.hid h6
          have HRA : Hid (∀ad : Addr, some (⟨W5.heap.size + 1 + 1, 0, none⟩ : Addr) = some ad -> W5.heap.size <= ad.block /\ ad.block < W6.heap.size) := Lib.hid λad e => by rw [<- Option.some.inj e]; exact ⟨by show W5.heap.size <= W5.heap.size + 1 + 1; omega, by show W5.heap.size + 1 + 1 < _; omega⟩
          have HM : Hid (Q4.may [(0, 2)] = false) := Lib.hid (zIa HS5.out.inv (r := (0, 2)) (by simp) (.inr rfl))
          have HLN : Hid (([(0, 2)] : List P2).length = 1) := Lib.hid rfl
          have HWL : Hid (∀r ∈ ([(0, 2)] : List P2), WfP r) := Lib.hid (zVz HPG.out (by simp))
          clear hf h5 h6 q0' q1'
          generalize some (⟨W5.heap.size + 1 + 1, 0, none⟩ : Addr) = A12 at HRL HRA ⊢
          generalize ([(0, 2)] : List P2) = lr at HRL HM HLN HWL
        rotate_left
        focus
          go_upto_region 11 with fail
          have hf := HFL.out.2.2.2.1
          have h5 := HFL.out.2.2.2.2.1
          have h6 := HFL.out.2.2.2.2.2
          generalize (((((W5.alloc (.cells #[.int .i64 pg, .int .i64 1, .int .i64 pg, .int .i64 3] 33)).alloc (.cells #[.int .i64 pg, .int .i64 99999] 33)).alloc (.cells #[.int .i64 0, .int .i64 2] 33)).alloc (.cells #[.int .i64 pg, .int .i64 3, .int .i64 pg, .int .i64 3] 33)).alloc (.cells #[.slice (some ⟨W5.heap.size, 0, none⟩) 2 2, .slice (some ⟨W5.heap.size + 1, 0, none⟩) 1 1, .slice (some ⟨W5.heap.size + 1 + 1, 0, none⟩) 1 1, .slice (some ⟨W5.heap.size + 1 + 1 + 1, 0, none⟩) 2 2] 64)) = W6 at hf h5 h6 ⊢
          have HRL := Lib.hid hf
          have HB6 := Lib.hid h6
          have HRA : Hid (∀ad : Addr, some (⟨W5.heap.size + 1 + 1 + 1, 0, none⟩ : Addr) = some ad -> W5.heap.size <= ad.block /\ ad.block < W6.heap.size) := Lib.hid λad e => by rw [<- Option.some.inj e]; exact ⟨by show W5.heap.size <= W5.heap.size + 1 + 1 + 1; omega, by show W5.heap.size + 1 + 1 + 1 < _; omega⟩
          have HM : Hid (Q4.may [(pg, 3), (pg, 3)] = false) := Lib.hid (zNe HS5.out.inv (by simp [ya]))
          have HLN : Hid (([(pg, 3), (pg, 3)] : List P2).length = 2) := Lib.hid rfl
          have HWL : Hid (∀r ∈ ([(pg, 3), (pg, 3)] : List P2), WfP r) := Lib.hid (zVz HPG.out (by simp))
          clear hf h5 h6 q0' q1'
          generalize some (⟨W5.heap.size + 1 + 1 + 1, 0, none⟩ : Addr) = A12 at HRL HRA ⊢
          generalize ([(pg, 3), (pg, 3)] : List P2) = lr at HRL HM HLN HWL
        all_goals
          have c1 := (HS5.out.st.below HB6.out).sc.c1
          go_upto_region 12 with (first
            | (go_at_call 28; (with_reducible refine (zOy A m data A12 _ _ lr HS5.out HB6.out ((HR.out.below (HB4.out.trans (HB5.out.mono HB4.out.size)) (Nat.le_refl _)).mono (HB4.out.trans (HB5.out.mono HB4.out.size)).size) HRL.out HRA.out HLN.out (by have := HLN.out; omega) HWL.out HM.out).mono ?_); rintro e w7 ⟨rfl, hst7, hsf7⟩; have HST7 := Lib.hid hst7; have HSF7 := Lib.hid hsf7; clear hst7 hsf7)
            | fail)
          have f9 : w7.frozen? ⟨s, 9, none⟩ = false := by
            have := HST7.out.self
            simp [World.frozen?, this]
          have c10 := HST7.out.sc.c1
          have c90 := HST7.out.sc.c9
          have HX5 : Hid ((λb => y4 b \/ New w4 W5 b) b11) := HX11
          have HH11 : Hid (w7.heap[b11]? = W5.heap[b11]?) := Lib.hid (HSF7.out.block HL11.out HX11.out)
          go_upto_region 13 with fail
          have HS8 : Hid (Sit (w7.setCell ⟨s, 9, none⟩ (.slice none 0 0)) s p c (λb => y4 b \/ New w4 W5 b) ⟨B, P, Sp, K, U, Q.bad⟩ Q4.undo D4 [⟨(pg, 1), data, A2, ca2⟩, ⟨(0, 2), data, A3, ca3⟩] [] Al3 cl3 none 0 7) := Lib.hid (zWm HS5.out HST7.out)
          have HN8 : Hid (s < w4.heap.size /\ w4.heap.size <= b11) := Lib.hid ⟨HS4.out.st.lt, hn11⟩
          have HH8 : Hid ((w7.setCell ⟨s, 9, none⟩ (.slice none 0 0)).heap[b11]? = W5.heap[b11]?) := Lib.hid ((Below.heap_setCell _ ⟨s, 9, none⟩ _ b11 (by show b11 ≠ s; have := HN8.out; omega)).trans HH11.out)
          have HB8 : Hid (Below w.heap.size w7 (w7.setCell ⟨s, 9, none⟩ (.slice none 0 0))) := Lib.hid ((Below.refl _ _).setCell (p := ⟨s, 9, none⟩) (by show w.heap.size <= s; refine Nat.le_of_not_lt λk => ?_; exact (HF4.out s k).2.1 rfl) _)
          generalize (w7.setCell ⟨s, 9, none⟩ (.slice none 0 0)) = w8 at HS8 HH8 HB8 ⊢
          have k1 : w8.cell? ⟨s, 1, none⟩ = some (.pointer (some ⟨p, 0, none⟩)) := HS8.out.st.sc.c1
          have k2 : w8.cell? ⟨b11, 0, none⟩ = some (.int .i64 pg) := (World.cell?_of_block (a := ⟨b11, 0, none⟩) HH8.out).trans HQ0.out
          have k3 : w8.cell? ⟨b11, 1, none⟩ = some (.int .i64 3) := (World.cell?_of_block (a := ⟨b11, 1, none⟩) HH8.out).trans HQ1.out
          clear f9 c10 c90 c1 HX5
          have HK8 : Hid (∀V, Below w8.heap.size w8 V -> V.cell? ⟨s, 1, none⟩ = some (.pointer (some ⟨p, 0, none⟩)) /\ V.cell? ⟨b11, 0, none⟩ = some (.int .i64 pg) /\ V.cell? ⟨b11, 1, none⟩ = some (.int .i64 3)) := Lib.hid λV hV => ⟨(HS8.out.below hV).st.sc.c1, (World.cell?_of_block (a := ⟨b11, 0, none⟩) (hV.block _ (HS8.out.st.pool.there _ HX11.out))).trans k2, (World.cell?_of_block (a := ⟨b11, 1, none⟩) (hV.block _ (HS8.out.st.pool.there _ HX11.out))).trans k3⟩
          have HWF : Hid (WfP (pg, 3)) := Lib.hid (zVz (l := [(pg, 3)]) HPG.out (by simp) (pg, 3) (by simp))
          have HNO : Hid ((pg, (3 : Int)) ∉ qY [⟨(pg, 1), data, A2, ca2⟩, ⟨(0, 2), data, A3, ca3⟩] ++ qY []) := Lib.hid (by simp)
          go_region_held3 (λV => V.cell? ⟨s, 1, none⟩ = some (.pointer (some ⟨p, 0, none⟩)) /\ V.cell? ⟨b11, 0, none⟩ = some (.int .i64 pg) /\ V.cell? ⟨b11, 1, none⟩ = some (.int .i64 3))
            (first | exact HK9.out | (refine HK8.out _ ?_; (repeat (first | exact Below.refl _ _ | refine Below.drew ?_)); done))
            (first
              | (go_at_call 26; (with_reducible refine (sit_none (pg, 3) (HS8.out.below (Below.refl _ _).drew) HNO.out HWF.out).mono ?_); rintro e w9 ⟨A9, m9, n9, rfl, hs9, hsf9⟩; have HS9 := Lib.hid hs9; have HSF9 := Lib.hid hsf9; have HK9 : Hid (w9.cell? ⟨s, 1, none⟩ = some (.pointer (some ⟨p, 0, none⟩)) /\ w9.cell? ⟨b11, 0, none⟩ = some (.int .i64 pg) /\ w9.cell? ⟨b11, 1, none⟩ = some (.int .i64 3)) := Lib.hid ⟨HS9.out.st.sc.c1, (World.cell?_of_block (a := ⟨b11, 0, none⟩) (HSF9.out.block (HS8.out.st.pool.there _ HX11.out) (.inl HX11.out))).trans (HK8.out _ (Below.refl _ _).drew).2.1, (World.cell?_of_block (a := ⟨b11, 1, none⟩) (HSF9.out.block (HS8.out.st.pool.there _ HX11.out) (.inl HX11.out))).trans (HK8.out _ (Below.refl _ _).drew).2.2⟩; clear hs9 hsf9)
              | fail)
          clear k1 k2 k3
          go_wp2_with (first
            | (go_at_call 16; (with_reducible refine (zWj HS9.out (by simp)).mono ?_); rintro e w10 ⟨rfl, hsf10⟩; have HSF10 := Lib.hid hsf10; clear hsf10)
            | (go_at_call 10; (with_reducible refine (zAw _).mono ?_); rintro e w11 ⟨rfl, hb11⟩; have HB11 := Lib.hid hb11; clear hb11)
            | fail)
          go_ret
          have t1 := HB4.out.trans (HB5.out.mono HB4.out.size)
          have t2 := yK (Nat.le_refl _) t1 HSF7.out λb hb => .inl (HF4.out b hb).1
          have t3 := (t2.trans HB8.out).drew
          have t4 := yK (Nat.le_refl _) t3 HSF9.out λb hb => .inl (.inl (HF4.out b hb).1)
          have t5 := yK (Nat.le_refl _) t4 HSF10.out λb hb => .inl (.inl (HF4.out b hb).1)
          exact ⟨rfl, t5.trans (HB11.out.mono t5.size)⟩
end Go.Proofs.YtinkkmlbhkfmnaaGreat
