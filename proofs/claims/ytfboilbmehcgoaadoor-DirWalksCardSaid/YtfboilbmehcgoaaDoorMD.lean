/- Package dir: Names. -/
import Derived.Test.YtfboilbmehcgoaaDoorMC
import Derived.Deep.Cut
import Derived.Test.YtfboilbmehcgoaaDoorME
import Derived.Test.YtfboilbmehcgoaaDoorShelfS
import Derived.Test.YtfboilbmehcgoaaDoorMB
import Derived.Test.YtfboilbmehcgoaaDoorMA
namespace Go.Proofs.YtfboilbmehcgoaaDoor
open Go.RowKit Go.Lib

set_option maxRecDepth 100000 in
set_option maxHeartbeats 4000000 in
theorem namesl_any (t : List Nd) (A : Option Addr) (c : Nat) (r : Nat → NAddr) (i : Int) (w : World) (h : TLies w A c t r) (h40 : t.length ≤ 40) (h60 : ∀ n ∈ t, n.en.length ≤ 60) : Calls Tryd.prog 21 #[.agg #[.slice A t.length c], .int .i64 i] w fun x w' => x = .returned (.int .i64 (namedT i t : Nat)) ∧ Below w.heap.size w w' := by
  have HH := Lib.hid h
  have HBA := Lib.hid ((Below.refl w.heap.size w).alloc (Nat.le_refl _) (.cells #[.slice A t.length c] 24))
  have H60 := Lib.hid h60
  clear h h60
  go_enter Tryd.func21, Tryd.ntmps21
  go_wp2_with fail
  generalize w.alloc _ = W at HBA ⊢
  go_loopw [5, 7, 9, 13] (fun v5 _ _ v13 wr => ∃ jx : Nat, jx ≤ t.length ∧ v13 = .int .i64 jx ∧ v5 = .int .i64 (namedT i (t.take jx) : Nat) ∧ Hid (Below w.heap.size w wr)) (fun _ _ _ v13 _ => t.length - (RowKit.intOf v13).toNat)
  case atStart => exact ⟨0, Nat.zero_le _, rfl, by simp [namedT], HBA⟩
  case round =>
    obtain ⟨jx, hj, rfl, rfl, HB⟩ := hrel
    by_cases hj1 : jx < t.length
    · have d2 : decide ((jx : Int) < (t.length : Int)) = true := decide_eq_true (by omega)
      have HT := Lib.hid (namedT_take (i := i) hj1)
      have hle : namedT i (t.take jx) ≤ 2400 := by
        have h1 := namedT_le i (t.take jx)
        have h2 := namesT_le (t.take jx) (fun n hn => H60.out n (List.mem_of_mem_take hn))
        rw [List.length_take] at h2
        omega
      obtain ⟨B, o, rfl, hBs, hc, hn⟩ := (HH.out.below HB.out).node hj1
      have h6 := H60.out _ (at_mem hj1)
      rw [at_lt hj1] at hc hn h6
      generalize namedT i (t.take jx) = S at HT hle ⊢
      generalize t[jx] = n at hc hn HT h6
      obtain ⟨c0, c1, c2, c3, c4⟩ := hc
      obtain ⟨⟨RA, RB, rc, rd⟩, hr⟩ : ∃ a, a = r jx := ⟨_, rfl⟩
      rw [← hr] at c3 c4 hn
      have HBW := Lib.hid (HB.out.alloc HB.out.size (.cells #[.int .i64 n.k, .int .i64 n.l, .int .i64 n.z, .slice RA n.sq.length rc, .slice RB n.en.length rd] 32))
      have HN := Lib.hid (hn.below ((Below.refl _ _).alloc (Nat.le_refl _) (.cells #[.int .i64 n.k, .int .i64 n.l, .int .i64 n.z, .slice RA n.sq.length rc, .slice RB n.en.length rd] 32)))
      clear hn hr
      go_wp2_with fail
      generalize wr.alloc _ = W2 at HBW HN ⊢
      go_loopw [5, 9, 20] (fun v5 _ v20 wr2 => ∃ jy : Nat, jy ≤ n.en.length ∧ v20 = .int .i64 jy ∧ v5 = .int .i64 ((S + cntE i (n.en.take jy) : Nat) : Int) ∧ Hid (Below w.heap.size w wr2) ∧ Hid (Below W2.heap.size W2 wr2)) (fun _ _ v20 _ => n.en.length - (RowKit.intOf v20).toNat)
      case atStart => exact ⟨0, Nat.zero_le _, rfl, by simp [cntE], HBW, Lib.hid (Below.refl _ _)⟩
      case round =>
        obtain ⟨jy, hjy, rfl, rfl, HB3, HB4⟩ := hrel
        by_cases hj2 : jy < n.en.length
        · have d3 : decide ((jy : Int) < (n.en.length : Int)) = true := decide_eq_true (by omega)
          have HT2 := Lib.hid (cntE_take (i := i) hj2)
          have hl2 := cntE_le i (n.en.take jy)
          rw [List.length_take] at hl2
          obtain ⟨B2, o2, rfl, hB2, hcc⟩ := (HN.out.below HB4.out).en (by omega)
          obtain ⟨k0, k1⟩ := hcc jy hj2
          generalize n.en[jy] = e at k0 k1 HT2
          obtain ⟨s, m⟩ := e
          generalize cntE i (n.en.take jy) = S2 at HT2 hl2 ⊢
          have HB5 := Lib.hid (HB3.out.alloc HB3.out.size (.cells #[.string s, .int .i64 m] 34))
          have HB6 := Lib.hid (HB4.out.alloc HB4.out.size (.cells #[.string s, .int .i64 m] 34))
          clear hcc
          by_cases g : m = i
          · have b1 : (m == i) = true := by simp [g]
            have hw : IntKind.i64.wrap (((S + S2 : Nat) : Int) + 1) = ((S + (S2 + 1) : Nat) : Int) := by rw [i64w_idE _ (by omega)]; omega
            have G := Lib.hid g
            clear g
            go_wp2_with fail
            go_roundw
            case rel => exact ⟨jy + 1, by omega, by go_num, by rw [HT2.out, if_pos G.out]; congr 1, HB5, HB6⟩
            case measure => simp [RowKit.intOf]; omega
          · have b1 : (m == i) = false := by simp [g]
            have G := Lib.hid g
            clear g
            go_wp2_with fail
            go_roundw
            case rel => exact ⟨jy + 1, by omega, by go_num, by rw [HT2.out, if_neg G.out]; rfl, HB5, HB6⟩
            case measure => simp [RowKit.intOf]; omega
        · have d3 : decide ((jy : Int) < (n.en.length : Int)) = false := decide_eq_false (by omega)
          have HE : Hid (cntE i (n.en.take jy) = cntE i n.en) := Lib.hid (by rw [List.take_of_length_le (by omega)])
          go_wp2_with fail
          go_roundw
          case rel => exact ⟨jx + 1, by omega, by go_num, by rw [HT.out, ← HE.out], HB3⟩
          case measure => simp [RowKit.intOf]; omega
    · have d2 : decide ((jx : Int) < (t.length : Int)) = false := decide_eq_false (by omega)
      have HE : Hid (namedT i (t.take jx) = namedT i t) := Lib.hid (by rw [List.take_of_length_le (by omega)])
      go_wp2_with fail
      go_ret
      exact ⟨by rw [← HE.out]; rfl, HB.out⟩
end Go.Proofs.YtfboilbmehcgoaaDoor

/- Package dir: comes, by slices.ContainsFunc and a closure that calls it again. -/
namespace Go.Proofs.YtfboilbmehcgoaaDoor
open Go.RowKit Go.Lib

/-- Where a word first holds: -1, or the place. -/
def IdxP {α : Type} (P : α → Bool) (l : List α) (r : Int) : Prop := (r = -1 ∧ ∀ x ∈ l, P x = false) ∨ ∃ (j : Nat) (h : j < l.length), r = (j : Int) ∧ P (l[j]) = true ∧ ∀ i (hi : i < j), P (l[i]'(by omega)) = false
theorem IdxP.any {α : Type} {P : α → Bool} {l : List α} {r : Int} (h : IdxP P l r) : decide ((0 : Int) ≤ r) = l.any P := by
  rcases h with ⟨rfl, h⟩ | ⟨j, hj, rfl, hp, _⟩
  · rw [decide_eq_false (by omega), eq_comm, List.any_eq_false]
    intro x hx
    rw [h x hx]; simp
  · rw [decide_eq_true (by omega), eq_comm, List.any_eq_true]
    exact ⟨_, List.getElem_mem hj, hp⟩
set_option maxHeartbeats 4000000 in
set_option maxRecDepth 100000 in
theorem idxe_any (P : Ent → Bool) (p q s : Option Addr) (B : Option Addr) (d : Nat) (l : List Ent) (m : Nat) (hm : l.length = m) (w : World) (h : ELies w B l) (hl : m ≤ 1000000)
    (HC : ∀ e ∈ l, ∀ w', Below w.heap.size w w' → Calls Tryd.prog 64 #[.agg #[.string e.1, .int .i64 e.2], .pointer p, .pointer q, .pointer s] w' fun x w'' => x = .returned (.bool (P e)) ∧ Below w'.heap.size w' w'') :
    Calls Tryd.prog 76 #[.slice B m d, .func (.func 64) #[] #[.pointer p, .pointer q, .pointer s]] w fun e w' => ∃ r, e = .returned (.int .i64 r) ∧ IdxP P l r ∧ Below w.heap.size w w' := by
  have HH := Lib.hid h
  have HC2 := Lib.hid HC
  have HM := Lib.hid hm
  clear h HC hm
  go_enter Tryd.func76, Tryd.ntmps76
  go_wp2_with fail
  go_loopw [5, 8] (fun _ v8 wr => ∃ jx : Nat, jx ≤ m ∧ v8 = .int .i64 jx ∧ Hid (∀ i (hi : i < jx) (hl : i < l.length), P (l[i]) = false) ∧ Hid (Below w.heap.size w wr)) (fun _ v8 _ => m - (RowKit.intOf v8).toNat)
  case atStart => exact ⟨0, Nat.zero_le _, rfl, Lib.hid (fun i hi => by omega), Lib.hid (Below.refl _ _)⟩
  case round =>
    obtain ⟨jx, hj, rfl, HF, HB⟩ := hrel
    by_cases hj1 : jx < m
    · have d2 : decide ((jx : Int) < (m : Int)) = true := decide_eq_true (by omega)
      have hj2 : jx < l.length := by rw [HM.out]; exact hj1
      obtain ⟨B2, o2, rfl, hB2, hcc⟩ := (HH.out.below HB.out) (Nat.lt_of_le_of_lt (Nat.zero_le _) hj2)
      obtain ⟨k0, k1⟩ := hcc jx hj2
      have hcl := Lib.hid (fun w' hb => HC2.out l[jx] (List.getElem_mem hj2) w' hb)
      obtain ⟨⟨a, b⟩, ht⟩ : ∃ t, t = l[jx] := ⟨_, rfl⟩
      rw [← ht] at k0 k1 hcl
      have HT := Lib.hid ht
      clear ht hcc
      cases hp : P (a, b) with
      | true =>
        rw [hp] at hcl
        go_wp2_with (first
          | (go_at_call 64; refine (hcl.out _ HB.out).mono ?_; rintro e w2 ⟨rfl, hb2⟩; have HB2 := Lib.hid (HB.out.trans (hb2.mono HB.out.size)); clear hb2)
          | fail)
        go_ret
        exact ⟨_, rfl, .inr ⟨jx, hj2, rfl, by rw [← HT.out]; exact hp, fun i hi => HF.out i hi (Nat.lt_trans hi hj2)⟩, HB2.out⟩
      | false =>
        rw [hp] at hcl
        go_wp2_with (first
          | (go_at_call 64; refine (hcl.out _ HB.out).mono ?_; rintro e w2 ⟨rfl, hb2⟩; have HB2 := Lib.hid (HB.out.trans (hb2.mono HB.out.size)); clear hb2)
          | fail)
        go_roundw
        case rel =>
          refine ⟨jx + 1, by omega, by go_num, Lib.hid (fun i hi hl2 => ?_), HB2⟩
          have hi2 : i < jx + 1 := hi
          rcases Nat.lt_succ_iff_lt_or_eq.1 hi2 with e | e
          · exact HF.out i e hl2
          · subst e; rw [← HT.out]; exact hp
        case measure => simp [RowKit.intOf]; omega
    · have d2 : decide ((jx : Int) < (m : Int)) = false := decide_eq_false (by omega)
      have HJ := Lib.hid (show l.length ≤ jx by rw [HM.out]; omega)
      go_wp2_with fail
      go_ret
      refine ⟨_, rfl, .inl ⟨rfl, fun x hx => ?_⟩, HB.out⟩
      obtain ⟨i, hi, rfl⟩ := List.getElem_of_mem hx
      exact HF.out i (Nat.lt_of_lt_of_le hi HJ.out) hi
set_option maxRecDepth 100000 in
theorem conte_any (P : Ent → Bool) (p q s : Option Addr) (B : Option Addr) (d : Nat) (l : List Ent) (w : World) (h : ELies w B l) (hl : l.length ≤ 1000000)
    (HC : ∀ e ∈ l, ∀ w', Below w.heap.size w w' → Calls Tryd.prog 64 #[.agg #[.string e.1, .int .i64 e.2], .pointer p, .pointer q, .pointer s] w' fun x w'' => x = .returned (.bool (P e)) ∧ Below w'.heap.size w' w'') :
    Calls Tryd.prog 63 #[.slice B l.length d, .func (.func 64) #[] #[.pointer p, .pointer q, .pointer s]] w fun e w' => e = .returned (.bool (l.any P)) ∧ Below w.heap.size w w' := by
  have H := Lib.hid (idxe_any P p q s B d l _ rfl w h hl HC)
  clear h HC
  go_enter Tryd.func63, Tryd.ntmps63
  go_wp2_with (first
    | (go_at_call 76; refine H.out.mono ?_; rintro e w1 ⟨r, rfl, hr, hb⟩; have hd := hr.any; replace hb := Lib.hid hb; replace hr := Lib.hid hr)
    | fail)
  go_ret
  exact ⟨rfl, hb.out⟩

set_option maxRecDepth 100000 in
theorem comesclos_any (t : List Nd) (A : Option Addr) (c : Nat) (r : Nat → NAddr) (b : Int) (n : Nat) (hn : n ≤ 100)
    (HI : ∀ (a : Nat), a < t.length → ∀ w, TLies w A c t r → Calls Tryd.prog 41 #[.agg #[.slice A t.length c], .int .i64 a, .int .i64 b, .int .i64 n] w fun x w' => x = .returned (.bool (comesF t b n a)) ∧ Below w.heap.size w w')
    (s : ByteArray) (m : Nat) (hm : m < t.length) (P Q S : Nat) (w : World) (h : TLies w A c t r) (hP : P < w.heap.size) (hQ : Q < w.heap.size) (hS : S < w.heap.size)
    (q0 : w.cell? ⟨P, 0, none⟩ = some (.slice A t.length c)) (q1 : w.cell? ⟨Q, 0, none⟩ = some (.int .i64 b)) (q2 : w.cell? ⟨S, 0, none⟩ = some (.int .i64 ((n : Int) + 1))) :
    Calls Tryd.prog 64 #[.agg #[.string s, .int .i64 m], .pointer (some ⟨P, 0, none⟩), .pointer (some ⟨Q, 0, none⟩), .pointer (some ⟨S, 0, none⟩)] w fun x w' => x = .returned (.bool (comesF t b n m)) ∧ Below w.heap.size w w' := by
  have hw : IntKind.i64.wrap (((n : Int) + 1) - 1) = (n : Int) := by rw [show (n : Int) + 1 - 1 = n by omega]; exact i64w_idE _ (by omega)
  obtain ⟨W, hW⟩ : ∃ W, W = w.alloc (.cells #[.string s, .int .i64 m] 34) := ⟨_, rfl⟩
  have HBA : Hid (Below w.heap.size w W) := Lib.hid (by rw [hW]; exact (Below.refl _ _).alloc (Nat.le_refl _) _)
  have p0 : W.cell? ⟨w.heap.size, 0, none⟩ = some (.string s) := by rw [hW]; simp [go_sem]
  have p1 : W.cell? ⟨w.heap.size, 1, none⟩ = some (.int .i64 m) := by rw [hW]; simp [go_sem]
  have r0 := (HBA.out.cell (p := ⟨P, 0, none⟩) hP).trans q0
  have r1 := (HBA.out.cell (p := ⟨Q, 0, none⟩) hQ).trans q1
  have r2 := (HBA.out.cell (p := ⟨S, 0, none⟩) hS).trans q2
  have HH := Lib.hid (HI m hm W (h.below HBA.out))
  have HW := Lib.hid hW
  clear h HI hW q0 q1 q2
  go_enter Tryd.func64, Tryd.ntmps64
  go_upto_region 1 with fail
  rw [← HW.out]
  go_wp2_with (first
    | (go_at_call 41; refine HH.out.mono ?_; rintro e w2 ⟨rfl, hb2⟩; have HB2 := Lib.hid (HBA.out.trans (hb2.mono HBA.out.size)); clear hb2)
    | fail)
  go_ret
  exact ⟨rfl, HB2.out⟩
set_option maxHeartbeats 4000000 in
set_option maxRecDepth 100000 in
theorem comes_any (t : List Nd) (A : Option Addr) (c : Nat) (r : Nat → NAddr) (hE : InT t) (hE2 : ∀ i, (at_ t i).en.length ≤ 1000000) (b : Int) : ∀ (n : Nat), n ≤ 100 → ∀ (a : Nat), a < t.length → ∀ w, TLies w A c t r → Calls Tryd.prog 41 #[.agg #[.slice A t.length c], .int .i64 a, .int .i64 b, .int .i64 n] w fun x w' => x = .returned (.bool (comesF t b n a)) ∧ Below w.heap.size w w'
  | n, hn, a, ha, w, h => by
    have HH := Lib.hid h
    have HBA := Lib.hid ((((Below.refl w.heap.size w).alloc (Nat.le_refl _) (.cells #[.slice A t.length c] 24)).alloc (by simp) (.cells #[.int .i64 b] 3)).alloc (by simp; omega) (.cells #[.int .i64 n] 3))
    clear h
    by_cases hab : (a : Int) = b
    · have HV : Hid (comesF t b n a = true) := Lib.hid (by rw [hab]; exact comes_self n)
      have b1 : ((a : Int) == b) = true := by simp [hab]
      clear hab
      go_enter Tryd.func41, Tryd.ntmps41
      go_wp2_with fail
      go_ret
      exact ⟨by rw [HV.out]; rfl, HBA.out⟩
    · have b1 : ((a : Int) == b) = false := by simp [hab]
      cases n with
      | zero =>
        have HV : Hid (comesF t b 0 a = false) := Lib.hid (decide_eq_false hab)
        clear hab
        go_enter Tryd.func41, Tryd.ntmps41
        go_wp2_with fail
        go_ret
        exact ⟨by rw [HV.out]; rfl, HBA.out⟩
      | succ n =>
        have HV : Hid (comesF t b (n + 1) a = (at_ t a).en.any fun e => comesF t b n e.2) := Lib.hid (by rw [comesF, decide_eq_false hab, Bool.false_or]; rfl)
        have HI := Lib.hid (comes_any t A c r hE hE2 b n (by omega))
        have b2 : (((n : Int) + 1) == 0) = false := by simp; omega
        have hEa := Lib.hid (hE a)
        obtain ⟨B, o, rfl, hBs, hc, hnl⟩ := HH.out.node ha
        obtain ⟨⟨RA, RB, rc, rd⟩, hr⟩ : ∃ x, x = r a := ⟨_, rfl⟩
        rw [← hr] at hc hnl
        have hle : (at_ t a).en.length ≤ 1000000 := hE2 a
        have hw : IntKind.i64.wrap (((n : Int) + 1) - 1) = (n : Int) := by rw [show (n : Int) + 1 - 1 = n by omega]; exact i64w_idE _ (by omega)
        obtain ⟨N, hN⟩ : ∃ N, N = at_ t a := ⟨_, rfl⟩
        rw [← hN] at hc hnl hEa hle HV
        obtain ⟨-, -, -, -, c4⟩ := hc
        have HN := Lib.hid hnl
        clear hab hr hnl hN
        obtain ⟨W, hW⟩ : ∃ W, W = ((w.alloc (.cells #[.slice (some ⟨B, o, none⟩) t.length c] 24)).alloc (.cells #[.int .i64 b] 3)).alloc (.cells #[.int .i64 ((n : Int) + 1)] 3) := ⟨_, rfl⟩
        have HS : Hid (w.heap.size + 3 = W.heap.size) := Lib.hid (by rw [hW]; simp)
        have q0 : W.cell? ⟨w.heap.size, 0, none⟩ = some (.slice (some ⟨B, o, none⟩) t.length c) := by rw [hW]; simp [go_sem]
        have q1 : W.cell? ⟨w.heap.size + 1, 0, none⟩ = some (.int .i64 b) := by rw [hW]; simp [go_sem]
        have q2 : W.cell? ⟨w.heap.size + 1 + 1, 0, none⟩ = some (.int .i64 ((n : Int) + 1)) := by rw [hW]; simp [go_sem]
        have HBA2 : Hid (Below w.heap.size w W) := Lib.hid (by rw [hW]; exact HBA.out)
        have c5 : W.cell? ⟨B, o + a * 5 + 4, none⟩ = some (.slice RB N.en.length rd) := (HBA2.out.cell (p := ⟨B, o + a * 5 + 4, none⟩) hBs).trans c4
        have HW := Lib.hid hW
        clear c4 HBA hW
        have hs := HS.out
        have HCL : Hid (∀ e ∈ N.en, ∀ w', Below W.heap.size W w' → Calls Tryd.prog 64 #[.agg #[.string e.1, .int .i64 e.2], .pointer (some ⟨w.heap.size, 0, none⟩), .pointer (some ⟨w.heap.size + 1, 0, none⟩), .pointer (some ⟨w.heap.size + 1 + 1, 0, none⟩)] w' fun x w'' => x = .returned (.bool (comesF t b n e.2)) ∧ Below w'.heap.size w' w'') := Lib.hid (by
          intro e he w' hb
          obtain ⟨e0, e1⟩ := hEa.out e he
          have e2 : ((e.2.toNat : Nat) : Int) = e.2 := by omega
          have hsz := hb.size
          have := comesclos_any t _ c r b n (by omega) HI.out e.1 e.2.toNat (by omega) w.heap.size (w.heap.size + 1) (w.heap.size + 1 + 1) w' (HH.out.below (HBA2.out.trans (hb.mono HBA2.out.size))) (by omega) (by omega) (by omega) ((hb.cell (p := ⟨w.heap.size, 0, none⟩) (show w.heap.size < _ by omega)).trans q0) ((hb.cell (p := ⟨w.heap.size + 1, 0, none⟩) (show w.heap.size + 1 < _ by omega)).trans q1) ((hb.cell (p := ⟨w.heap.size + 1 + 1, 0, none⟩) (show w.heap.size + 1 + 1 < _ by omega)).trans q2)
          rwa [e2] at this)
        clear hs
        go_enter Tryd.func41, Tryd.ntmps41
        go_upto_region 1 with fail
        rw [← HW.out]
        go_wp2_with (first
          | (go_at_call 63; refine (conte_any (fun e => comesF t b n e.2) _ _ _ RB rd N.en _ (HN.out.below HBA2.out).en hle HCL.out).mono ?_; rintro e w2 ⟨rfl, hb2⟩; have HB2 := Lib.hid (HBA2.out.trans (hb2.mono HBA2.out.size)); clear hb2)
          | fail)
        go_ret
        exact ⟨by rw [HV.out]; rfl, HB2.out⟩
end Go.Proofs.YtfboilbmehcgoaaDoor

/- Package dir: named, reached. -/
namespace Go.Proofs.YtfboilbmehcgoaaDoor
open Go.RowKit Go.Lib

theorem all_yes {n : Nat} {P : Nat → Bool} (h : ∀ i, i < n → P i = true) : (List.range n).all P = true := List.all_eq_true.2 fun i hi => h i (List.mem_range.1 hi)
theorem all_no {n j : Nat} {P : Nat → Bool} (hj : j < n) (h : P j = false) : (List.range n).all P = false := by
  rw [List.all_eq_false]
  exact ⟨j, List.mem_range.2 hj, by rw [h]; simp⟩
set_option maxHeartbeats 4000000 in
set_option maxRecDepth 100000 in
theorem namedl_any (t : List Nd) (A : Option Addr) (c : Nat) (r : Nat → NAddr) (w : World) (h : TLies w A c t r) (h40 : t.length ≤ 40) (h60 : ∀ n ∈ t, n.en.length ≤ 60) : Calls Tryd.prog 32 #[.agg #[.slice A t.length c]] w fun x w' => x = .returned (.bool (linksOk t)) ∧ Below w.heap.size w w' := by
  have HH := Lib.hid h
  obtain ⟨P, hP⟩ : ∃ P, P = w.heap.size := ⟨_, rfl⟩
  have HBA := Lib.hid ((Below.refl w.heap.size w).alloc (Nat.le_refl _) (.cells #[.slice A t.length c] 24))
  have HXA := Lib.hid (heap_alloc_new w (.cells #[.slice A t.length c] 24))
  rw [← hP] at HXA
  have HNL := Lib.hid (fun (i : Int) (w1 : World) (hw : TLies w1 A c t r) => namesl_any t A c r i w1 hw h40 h60)
  have HPX : Hid (∀ w1, Below (w.alloc (.cells #[.slice A t.length c] 24)).heap.size (w.alloc (.cells #[.slice A t.length c] 24)) w1 → w1.cell? ⟨P, 0, none⟩ = some (.slice A t.length c)) := Lib.hid fun w1 hb => (tbox_cell ((hb.block P (by rw [hP]; simp)).trans HXA.out)).1
  clear h h60
  go_enter Tryd.func32, Tryd.ntmps32
  go_wp2_with fail
  rw [← hP]
  generalize w.alloc _ = W at HBA HXA HPX ⊢
  clear hP
  go_loopw [3, 4, 8] (fun _ _ v8 wr => ∃ jx : Nat, jx ≤ t.length ∧ v8 = .int .i64 jx ∧ Hid (∀ i, i < jx → (decide (i = 0) || decide ((at_ t i).l = (namedT (i : Int) t : Int))) = true) ∧ Hid (Below W.heap.size W wr)) (fun _ _ v8 _ => t.length - (RowKit.intOf v8).toNat)
  case atStart => exact ⟨0, Nat.zero_le _, rfl, Lib.hid (fun i hi => by omega), Lib.hid (Below.refl _ _)⟩
  case round =>
    obtain ⟨jx, hj, rfl, HF, HB⟩ := hrel
    by_cases hj1 : jx < t.length
    · have d2 : decide ((jx : Int) < (t.length : Int)) = true := decide_eq_true (by omega)
      have HTW := Lib.hid (fun w1 (hb : Below W.heap.size W w1) => HH.out.below (HBA.out.trans (hb.mono HBA.out.size)))
      obtain ⟨B, o, rfl, hBs, ⟨c0, c1, c2, c3, c4⟩, -⟩ := (HTW.out wr HB.out).node hj1
      obtain ⟨⟨RA, RB, rc, rd⟩, hr⟩ : ∃ a, a = r jx := ⟨_, rfl⟩
      rw [← hr] at c3 c4
      have HN := Lib.hid (rfl : at_ t jx = at_ t jx)
      obtain ⟨n, hn⟩ : ∃ n, n = at_ t jx := ⟨_, rfl⟩
      rw [← hn] at c0 c1 c2 c3 c4
      have HNE := Lib.hid hn
      clear hn HN hr
      obtain ⟨nk, nl, nz, S, L⟩ := n
      dsimp only at c0 c1 c2 c3 c4
      have HBW := Lib.hid (HB.out.alloc HB.out.size (.cells #[.int .i64 nk, .int .i64 nl, .int .i64 nz, .slice RA S.length rc, .slice RB L.length rd] 32))
      have HXW := Lib.hid (heap_alloc_new wr (.cells #[.int .i64 nk, .int .i64 nl, .int .i64 nz, .slice RA S.length rc, .slice RB L.length rd] 32))
      have HNJ := Lib.hid (fun w1 hw => HNL.out (jx : Int) w1 hw)
      obtain ⟨NN, hNN⟩ : ∃ m, m = namedT (jx : Int) t := ⟨_, rfl⟩
      rw [← hNN] at HNJ
      have HNN := Lib.hid hNN
      clear hNN
      go_upto_region 4 with (fail)
      generalize wr.alloc _ = V at HBW HXW ⊢
      obtain ⟨p, hp⟩ : ∃ p, p = wr.heap.size := ⟨_, rfl⟩
      rw [← hp] at HXW ⊢
      have HKV : Hid (∀ w1, Below V.heap.size V w1 → BoxAt w1 p nk nl nz (.slice RA S.length rc) (.slice RB L.length rd) ∧ w1.cell? ⟨P, 0, none⟩ = some (.slice (some ⟨B, o, none⟩) t.length c) ∧ TLies w1 (some ⟨B, o, none⟩) c t r) := Lib.hid fun w1 hb => ⟨(hb.block p (lt_size HXW.out)).trans HXW.out, HPX.out w1 (HBW.out.trans (hb.mono HBW.out.size)), HTW.out w1 (HBW.out.trans (hb.mono HBW.out.size))⟩
      clear hp c0 c1 c2 c3 c4 HXW
      by_cases hj0 : jx = 0
      · have HJP : Hid (jx = 0) := Lib.hid hj0
        clear hj0
        refine region_st (fun j v w' => match j with | 0 => v = .int .i64 (jx : Nat) | 1 => v = .bool false | 2 => v = .bool false | 3 => v = undef | 4 => v = undef | 5 => v = undef | 6 => v = undef | 7 => v = undef | 8 => v = undef | 9 => v = .bool false | _ => True) (fun _ w' => Below V.heap.size V w') (fun w1 w2 => Below w1.heap.size w1 w2) (by kernel_rfl) (by kernel_rfl) (by kernel_rfl) ?hR ?hG ?hops ?hend
        case hR =>
          intro j v w1 w2 hv hb
          match j, hv with
          | 0, hv => exact hv
          | 1, hv => exact hv
          | 2, hv => exact hv
          | 3, hv => exact hv
          | 4, hv => exact hv
          | 5, hv => exact hv
          | 6, hv => exact hv
          | 7, hv => exact hv
          | 8, hv => exact hv
          | 9, hv => exact hv
          | _ + 10, _ => exact trivial
        case hG => exact (Below.refl _ _).drew
        case hops =>
          refine OpsOkS.cons ?o0 (OpsOkS.cons ?o1 (OpsOkS.cons ?o2 (OpsOkS.cons ?o3 (OpsOkS.cons ?o4 (OpsOkS.cons ?o5 (OpsOkS.cons ?o6 (OpsOkS.cons ?o7 (OpsOkS.cons ?o8 (OpsOkS.cons ?o9 OpsOkS.nil)))))))))
          case o0 =>
            intro a w1 Kx hG need old hsz fresh hKx
            have e0 : a.tmps[3]?.getD undef = .int .i64 (jx : Nat) := by rw [← Array.getD_eq_getD_getElem?]; exact old 3 (by kernel_rfl)
            refine op_value (v := .int .i64 (jx : Nat)) (wanted_none rfl) ?_ (hKx _ w1 rfl hG (Below.refl _ _))
            simp [execOp, go_sem, e0]
          case o1 =>
            intro a w1 Kx hG need old hsz fresh hKx
            have e0 : a.tmps[13]?.getD undef = .int .i64 (jx : Nat) := by rw [← Array.getD_eq_getD_getElem?]; exact (need 0 (by kernel_rfl) (by kernel_rfl))
            refine op_value (v := .bool false) (wanted_none rfl) ?_ (hKx _ w1 rfl hG (Below.refl _ _))
            simp [execOp, go_sem, e0] <;> exact HJP.out
          case o2 =>
            intro a w1 Kx hG need old hsz fresh hKx
            have e0 : a.tmps[14]?.getD undef = .bool false := by rw [← Array.getD_eq_getD_getElem?]; exact (need 1 (by kernel_rfl) (by kernel_rfl))
            refine op_value (v := .bool false) (wanted_none rfl) ?_ (hKx _ w1 rfl hG (Below.refl _ _))
            simp [execOp, go_sem, e0]
          case o3 =>
            intro a w1 Kx hG need old hsz fresh hKx
            exact skip_op (j := 2) rfl (need 2 (by kernel_rfl) (by kernel_rfl)) (by decide) (hKx undef w1 rfl hG (Below.refl _ _))
          case o4 =>
            intro a w1 Kx hG need old hsz fresh hKx
            exact skip_op (j := 2) rfl (need 2 (by kernel_rfl) (by kernel_rfl)) (by decide) (hKx undef w1 rfl hG (Below.refl _ _))
          case o5 =>
            intro a w1 Kx hG need old hsz fresh hKx
            exact skip_op (j := 2) rfl (need 2 (by kernel_rfl) (by kernel_rfl)) (by decide) (hKx undef w1 rfl hG (Below.refl _ _))
          case o6 =>
            intro a w1 Kx hG need old hsz fresh hKx
            exact skip_op (j := 2) rfl (need 2 (by kernel_rfl) (by kernel_rfl)) (by decide) (hKx undef w1 rfl hG (Below.refl _ _))
          case o7 =>
            intro a w1 Kx hG need old hsz fresh hKx
            exact skip_op (j := 2) rfl (need 2 (by kernel_rfl) (by kernel_rfl)) (by decide) (hKx undef w1 rfl hG (Below.refl _ _))
          case o8 =>
            intro a w1 Kx hG need old hsz fresh hKx
            exact skip_op (j := 2) rfl (need 2 (by kernel_rfl) (by kernel_rfl)) (by decide) (hKx undef w1 rfl hG (Below.refl _ _))
          case o9 =>
            intro a w1 Kx hG need old hsz fresh hKx
            have e0 : a.tmps[15]?.getD undef = .bool false := by rw [← Array.getD_eq_getD_getElem?]; exact (need 2 (by kernel_rfl) (by kernel_rfl))
            refine op_value (v := .bool false) (wanted_none rfl) ?_ (hKx _ w1 rfl hG (Below.refl _ _))
            simp [execOp, go_sem, asBool, e0]
        case hend =>
          intro a w6 hG hde hsz hφ hold
          obtain rfl := act_puts [(13, .int .i64 (jx : Nat)), (14, .bool false), (15, .bool false), (16, undef), (17, undef), (18, undef), (19, undef), (20, undef), (21, undef), (22, .bool false)] [13, 14, 15, 16, 17, 18, 19, 20, 21, 22] rfl (by kernel_rfl) (by kernel_rfl) hde hsz (List.forall_mem_cons.2 ⟨(show a.tmps.getD 13 undef = .int .i64 (jx : Nat) from (hφ 0 (by kernel_rfl))), (List.forall_mem_cons.2 ⟨(show a.tmps.getD 14 undef = .bool false from (hφ 1 (by kernel_rfl))), (List.forall_mem_cons.2 ⟨(show a.tmps.getD 15 undef = .bool false from (hφ 2 (by kernel_rfl))), (List.forall_mem_cons.2 ⟨(show a.tmps.getD 16 undef = undef from (hφ 3 (by kernel_rfl))), (List.forall_mem_cons.2 ⟨(show a.tmps.getD 17 undef = undef from (hφ 4 (by kernel_rfl))), (List.forall_mem_cons.2 ⟨(show a.tmps.getD 18 undef = undef from (hφ 5 (by kernel_rfl))), (List.forall_mem_cons.2 ⟨(show a.tmps.getD 19 undef = undef from (hφ 6 (by kernel_rfl))), (List.forall_mem_cons.2 ⟨(show a.tmps.getD 20 undef = undef from (hφ 7 (by kernel_rfl))), (List.forall_mem_cons.2 ⟨(show a.tmps.getD 21 undef = undef from (hφ 8 (by kernel_rfl))), (List.forall_mem_cons.2 ⟨(show a.tmps.getD 22 undef = .bool false from (hφ 9 (by kernel_rfl))), (fun _ h => absurd h (by simp))⟩)⟩)⟩)⟩)⟩)⟩)⟩)⟩)⟩)⟩) hold
          clear hφ hold hsz hde
          simp only [putAll]
          go_frame
          go_wp2_with fail
          go_roundw
          case rel =>
            refine ⟨jx + 1, by omega, by go_num, Lib.hid (fun i hi => ?_), Lib.hid (HBW.out.trans (hG.mono HBW.out.size))⟩
            rw [decide_eq_true (show i = 0 by have := HJP.out; omega)]; rfl
          case measure => simp [RowKit.intOf]; omega
      · have HJP : Hid (0 < jx) := Lib.hid (by omega)
        have HJ0 := Lib.hid hj0
        clear hj0
        by_cases he : nl = (NN : Int)
        · have HE := Lib.hid he
          clear he
          refine region_st (fun j v w' => match j with | 0 => v = .int .i64 (jx : Nat) | 1 => v = .bool true | 2 => v = .bool true | 3 => v = .pointer (some ⟨p, 1, none⟩) | 4 => v = .int .i64 nl | 5 => v = .agg #[.slice (some ⟨B, o, none⟩) t.length c] | 6 => v = .int .i64 (jx : Nat) | 7 => v = .int .i64 (NN : Nat) | 8 => v = .bool false | 9 => v = .bool false | _ => True) (fun _ w' => Below V.heap.size V w') (fun w1 w2 => Below w1.heap.size w1 w2) (by kernel_rfl) (by kernel_rfl) (by kernel_rfl) ?hR ?hG ?hops ?hend
          case hR =>
            intro j v w1 w2 hv hb
            match j, hv with
            | 0, hv => exact hv
            | 1, hv => exact hv
            | 2, hv => exact hv
            | 3, hv => exact hv
            | 4, hv => exact hv
            | 5, hv => exact hv
            | 6, hv => exact hv
            | 7, hv => exact hv
            | 8, hv => exact hv
            | 9, hv => exact hv
            | _ + 10, _ => exact trivial
          case hG => exact (Below.refl _ _).drew
          case hops =>
            refine OpsOkS.cons ?o0 (OpsOkS.cons ?o1 (OpsOkS.cons ?o2 (OpsOkS.cons ?o3 (OpsOkS.cons ?o4 (OpsOkS.cons ?o5 (OpsOkS.cons ?o6 (OpsOkS.cons ?o7 (OpsOkS.cons ?o8 (OpsOkS.cons ?o9 OpsOkS.nil)))))))))
            case o0 =>
              intro a w1 Kx hG need old hsz fresh hKx
              have e0 : a.tmps[3]?.getD undef = .int .i64 (jx : Nat) := by rw [← Array.getD_eq_getD_getElem?]; exact old 3 (by kernel_rfl)
              refine op_value (v := .int .i64 (jx : Nat)) (wanted_none rfl) ?_ (hKx _ w1 rfl hG (Below.refl _ _))
              simp [execOp, go_sem, e0]
            case o1 =>
              intro a w1 Kx hG need old hsz fresh hKx
              have e0 : a.tmps[13]?.getD undef = .int .i64 (jx : Nat) := by rw [← Array.getD_eq_getD_getElem?]; exact (need 0 (by kernel_rfl) (by kernel_rfl))
              refine op_value (v := .bool true) (wanted_none rfl) ?_ (hKx _ w1 rfl hG (Below.refl _ _))
              simp [execOp, go_sem, e0] <;> exact HJP.out
            case o2 =>
              intro a w1 Kx hG need old hsz fresh hKx
              have e0 : a.tmps[14]?.getD undef = .bool true := by rw [← Array.getD_eq_getD_getElem?]; exact (need 1 (by kernel_rfl) (by kernel_rfl))
              refine op_value (v := .bool true) (wanted_none rfl) ?_ (hKx _ w1 rfl hG (Below.refl _ _))
              simp [execOp, go_sem, e0]
            case o3 =>
              intro a w1 Kx hG need old hsz fresh hKx
              have e0 : a.tmps[4]?.getD undef = .pointer (some ⟨p, 0, none⟩) := by rw [← Array.getD_eq_getD_getElem?]; exact old 4 (by kernel_rfl)
              refine op_value (v := .pointer (some ⟨p, 1, none⟩)) (wanted_of (j := 2) rfl (need 2 (by kernel_rfl) (by kernel_rfl))) ?_ (hKx _ w1 rfl hG (Below.refl _ _))
              simp [execOp, go_sem, e0]
            case o4 =>
              intro a w1 Kx hG need old hsz fresh hKx
              have e0 : a.tmps[16]?.getD undef = .pointer (some ⟨p, 1, none⟩) := by rw [← Array.getD_eq_getD_getElem?]; exact (need 3 (by kernel_rfl) (by kernel_rfl))
              have k0 := (HKV.out w1 hG).1.cells.2.1
              refine op_value (v := .int .i64 nl) (wanted_of (j := 2) rfl (need 2 (by kernel_rfl) (by kernel_rfl))) ?_ (hKx _ w1 rfl hG (Below.refl _ _))
              simp [execOp, go_sem, e0, k0]
            case o5 =>
              intro a w1 Kx hG need old hsz fresh hKx
              have e0 : a.tmps[1]?.getD undef = .pointer (some ⟨P, 0, none⟩) := by rw [← Array.getD_eq_getD_getElem?]; exact old 1 (by kernel_rfl)
              have j0 := (HKV.out w1 hG).2.1
              refine op_value (v := .agg #[.slice (some ⟨B, o, none⟩) t.length c]) (wanted_of (j := 2) rfl (need 2 (by kernel_rfl) (by kernel_rfl))) ?_ (hKx _ w1 rfl hG (Below.refl _ _))
              simp [execOp, go_sem, e0, j0]
            case o6 =>
              intro a w1 Kx hG need old hsz fresh hKx
              have e0 : a.tmps[3]?.getD undef = .int .i64 (jx : Nat) := by rw [← Array.getD_eq_getD_getElem?]; exact old 3 (by kernel_rfl)
              refine op_value (v := .int .i64 (jx : Nat)) (wanted_of (j := 2) rfl (need 2 (by kernel_rfl) (by kernel_rfl))) ?_ (hKx _ w1 rfl hG (Below.refl _ _))
              simp [execOp, go_sem, e0]
            case o7 =>
              intro a w1 Kx hG need old hsz fresh hKx
              have e0 : a.tmps[18]?.getD undef = .agg #[.slice (some ⟨B, o, none⟩) t.length c] := by rw [← Array.getD_eq_getD_getElem?]; exact (need 5 (by kernel_rfl) (by kernel_rfl))
              have e1 : a.tmps[19]?.getD undef = .int .i64 (jx : Nat) := by rw [← Array.getD_eq_getD_getElem?]; exact (need 6 (by kernel_rfl) (by kernel_rfl))
              refine op_call (wanted_of (j := 2) rfl (need 2 (by kernel_rfl) (by kernel_rfl))) (f := 21) (args := #[.agg #[.slice (some ⟨B, o, none⟩) t.length c], .int .i64 (jx : Nat)]) ?run ((HNJ.out w1 (HKV.out w1 hG).2.2).mono ?post)
              case run => simp [go_sem, e0, e1]
              case post =>
                rintro e w2 ⟨rfl, hb2⟩
                exact ⟨_, rfl, hKx _ w2 rfl (hG.trans (hb2.mono hG.size)) hb2⟩
            case o8 =>
              intro a w1 Kx hG need old hsz fresh hKx
              have e0 : a.tmps[17]?.getD undef = .int .i64 nl := by rw [← Array.getD_eq_getD_getElem?]; exact (need 4 (by kernel_rfl) (by kernel_rfl))
              have e1 : a.tmps[20]?.getD undef = .int .i64 (NN : Nat) := by rw [← Array.getD_eq_getD_getElem?]; exact (need 7 (by kernel_rfl) (by kernel_rfl))
              refine op_value (v := .bool false) (wanted_of (j := 2) rfl (need 2 (by kernel_rfl) (by kernel_rfl))) ?_ (hKx _ w1 rfl hG (Below.refl _ _))
              simp [execOp, go_sem, e0, e1] <;> exact HE.out
            case o9 =>
              intro a w1 Kx hG need old hsz fresh hKx
              have e0 : a.tmps[15]?.getD undef = .bool true := by rw [← Array.getD_eq_getD_getElem?]; exact (need 2 (by kernel_rfl) (by kernel_rfl))
              have e1 : a.tmps[21]?.getD undef = .bool false := by rw [← Array.getD_eq_getD_getElem?]; exact (need 8 (by kernel_rfl) (by kernel_rfl))
              refine op_value (v := .bool false) (wanted_none rfl) ?_ (hKx _ w1 rfl hG (Below.refl _ _))
              simp [execOp, go_sem, asBool, e0, e1]
          case hend =>
            intro a w6 hG hde hsz hφ hold
            obtain rfl := act_puts [(13, .int .i64 (jx : Nat)), (14, .bool true), (15, .bool true), (16, .pointer (some ⟨p, 1, none⟩)), (17, .int .i64 nl), (18, .agg #[.slice (some ⟨B, o, none⟩) t.length c]), (19, .int .i64 (jx : Nat)), (20, .int .i64 (NN : Nat)), (21, .bool false), (22, .bool false)] [13, 14, 15, 16, 17, 18, 19, 20, 21, 22] rfl (by kernel_rfl) (by kernel_rfl) hde hsz (List.forall_mem_cons.2 ⟨(show a.tmps.getD 13 undef = .int .i64 (jx : Nat) from (hφ 0 (by kernel_rfl))), (List.forall_mem_cons.2 ⟨(show a.tmps.getD 14 undef = .bool true from (hφ 1 (by kernel_rfl))), (List.forall_mem_cons.2 ⟨(show a.tmps.getD 15 undef = .bool true from (hφ 2 (by kernel_rfl))), (List.forall_mem_cons.2 ⟨(show a.tmps.getD 16 undef = .pointer (some ⟨p, 1, none⟩) from (hφ 3 (by kernel_rfl))), (List.forall_mem_cons.2 ⟨(show a.tmps.getD 17 undef = .int .i64 nl from (hφ 4 (by kernel_rfl))), (List.forall_mem_cons.2 ⟨(show a.tmps.getD 18 undef = .agg #[.slice (some ⟨B, o, none⟩) t.length c] from (hφ 5 (by kernel_rfl))), (List.forall_mem_cons.2 ⟨(show a.tmps.getD 19 undef = .int .i64 (jx : Nat) from (hφ 6 (by kernel_rfl))), (List.forall_mem_cons.2 ⟨(show a.tmps.getD 20 undef = .int .i64 (NN : Nat) from (hφ 7 (by kernel_rfl))), (List.forall_mem_cons.2 ⟨(show a.tmps.getD 21 undef = .bool false from (hφ 8 (by kernel_rfl))), (List.forall_mem_cons.2 ⟨(show a.tmps.getD 22 undef = .bool false from (hφ 9 (by kernel_rfl))), (fun _ h => absurd h (by simp))⟩)⟩)⟩)⟩)⟩)⟩)⟩)⟩)⟩)⟩) hold
            clear hφ hold hsz hde
            simp only [putAll]
            go_frame
            go_wp2_with fail
            go_roundw
            case rel =>
              refine ⟨jx + 1, by omega, by go_num, Lib.hid (fun i hi => ?_), Lib.hid (HBW.out.trans (hG.mono HBW.out.size))⟩
              rcases Nat.lt_succ_iff_lt_or_eq.1 hi with h1 | h1
              · exact HF.out i h1
              · subst h1
                rw [← HNN.out, ← HNE.out, decide_eq_true HE.out, Bool.or_true]
            case measure => simp [RowKit.intOf]; omega
        · have HE := Lib.hid he
          clear he
          refine region_st (fun j v w' => match j with | 0 => v = .int .i64 (jx : Nat) | 1 => v = .bool true | 2 => v = .bool true | 3 => v = .pointer (some ⟨p, 1, none⟩) | 4 => v = .int .i64 nl | 5 => v = .agg #[.slice (some ⟨B, o, none⟩) t.length c] | 6 => v = .int .i64 (jx : Nat) | 7 => v = .int .i64 (NN : Nat) | 8 => v = .bool true | 9 => v = .bool true | _ => True) (fun _ w' => Below V.heap.size V w') (fun w1 w2 => Below w1.heap.size w1 w2) (by kernel_rfl) (by kernel_rfl) (by kernel_rfl) ?hR ?hG ?hops ?hend
          case hR =>
            intro j v w1 w2 hv hb
            match j, hv with
            | 0, hv => exact hv
            | 1, hv => exact hv
            | 2, hv => exact hv
            | 3, hv => exact hv
            | 4, hv => exact hv
            | 5, hv => exact hv
            | 6, hv => exact hv
            | 7, hv => exact hv
            | 8, hv => exact hv
            | 9, hv => exact hv
            | _ + 10, _ => exact trivial
          case hG => exact (Below.refl _ _).drew
          case hops =>
            refine OpsOkS.cons ?o0 (OpsOkS.cons ?o1 (OpsOkS.cons ?o2 (OpsOkS.cons ?o3 (OpsOkS.cons ?o4 (OpsOkS.cons ?o5 (OpsOkS.cons ?o6 (OpsOkS.cons ?o7 (OpsOkS.cons ?o8 (OpsOkS.cons ?o9 OpsOkS.nil)))))))))
            case o0 =>
              intro a w1 Kx hG need old hsz fresh hKx
              have e0 : a.tmps[3]?.getD undef = .int .i64 (jx : Nat) := by rw [← Array.getD_eq_getD_getElem?]; exact old 3 (by kernel_rfl)
              refine op_value (v := .int .i64 (jx : Nat)) (wanted_none rfl) ?_ (hKx _ w1 rfl hG (Below.refl _ _))
              simp [execOp, go_sem, e0]
            case o1 =>
              intro a w1 Kx hG need old hsz fresh hKx
              have e0 : a.tmps[13]?.getD undef = .int .i64 (jx : Nat) := by rw [← Array.getD_eq_getD_getElem?]; exact (need 0 (by kernel_rfl) (by kernel_rfl))
              refine op_value (v := .bool true) (wanted_none rfl) ?_ (hKx _ w1 rfl hG (Below.refl _ _))
              simp [execOp, go_sem, e0] <;> exact HJP.out
            case o2 =>
              intro a w1 Kx hG need old hsz fresh hKx
              have e0 : a.tmps[14]?.getD undef = .bool true := by rw [← Array.getD_eq_getD_getElem?]; exact (need 1 (by kernel_rfl) (by kernel_rfl))
              refine op_value (v := .bool true) (wanted_none rfl) ?_ (hKx _ w1 rfl hG (Below.refl _ _))
              simp [execOp, go_sem, e0]
            case o3 =>
              intro a w1 Kx hG need old hsz fresh hKx
              have e0 : a.tmps[4]?.getD undef = .pointer (some ⟨p, 0, none⟩) := by rw [← Array.getD_eq_getD_getElem?]; exact old 4 (by kernel_rfl)
              refine op_value (v := .pointer (some ⟨p, 1, none⟩)) (wanted_of (j := 2) rfl (need 2 (by kernel_rfl) (by kernel_rfl))) ?_ (hKx _ w1 rfl hG (Below.refl _ _))
              simp [execOp, go_sem, e0]
            case o4 =>
              intro a w1 Kx hG need old hsz fresh hKx
              have e0 : a.tmps[16]?.getD undef = .pointer (some ⟨p, 1, none⟩) := by rw [← Array.getD_eq_getD_getElem?]; exact (need 3 (by kernel_rfl) (by kernel_rfl))
              have k0 := (HKV.out w1 hG).1.cells.2.1
              refine op_value (v := .int .i64 nl) (wanted_of (j := 2) rfl (need 2 (by kernel_rfl) (by kernel_rfl))) ?_ (hKx _ w1 rfl hG (Below.refl _ _))
              simp [execOp, go_sem, e0, k0]
            case o5 =>
              intro a w1 Kx hG need old hsz fresh hKx
              have e0 : a.tmps[1]?.getD undef = .pointer (some ⟨P, 0, none⟩) := by rw [← Array.getD_eq_getD_getElem?]; exact old 1 (by kernel_rfl)
              have j0 := (HKV.out w1 hG).2.1
              refine op_value (v := .agg #[.slice (some ⟨B, o, none⟩) t.length c]) (wanted_of (j := 2) rfl (need 2 (by kernel_rfl) (by kernel_rfl))) ?_ (hKx _ w1 rfl hG (Below.refl _ _))
              simp [execOp, go_sem, e0, j0]
            case o6 =>
              intro a w1 Kx hG need old hsz fresh hKx
              have e0 : a.tmps[3]?.getD undef = .int .i64 (jx : Nat) := by rw [← Array.getD_eq_getD_getElem?]; exact old 3 (by kernel_rfl)
              refine op_value (v := .int .i64 (jx : Nat)) (wanted_of (j := 2) rfl (need 2 (by kernel_rfl) (by kernel_rfl))) ?_ (hKx _ w1 rfl hG (Below.refl _ _))
              simp [execOp, go_sem, e0]
            case o7 =>
              intro a w1 Kx hG need old hsz fresh hKx
              have e0 : a.tmps[18]?.getD undef = .agg #[.slice (some ⟨B, o, none⟩) t.length c] := by rw [← Array.getD_eq_getD_getElem?]; exact (need 5 (by kernel_rfl) (by kernel_rfl))
              have e1 : a.tmps[19]?.getD undef = .int .i64 (jx : Nat) := by rw [← Array.getD_eq_getD_getElem?]; exact (need 6 (by kernel_rfl) (by kernel_rfl))
              refine op_call (wanted_of (j := 2) rfl (need 2 (by kernel_rfl) (by kernel_rfl))) (f := 21) (args := #[.agg #[.slice (some ⟨B, o, none⟩) t.length c], .int .i64 (jx : Nat)]) ?run ((HNJ.out w1 (HKV.out w1 hG).2.2).mono ?post)
              case run => simp [go_sem, e0, e1]
              case post =>
                rintro e w2 ⟨rfl, hb2⟩
                exact ⟨_, rfl, hKx _ w2 rfl (hG.trans (hb2.mono hG.size)) hb2⟩
            case o8 =>
              intro a w1 Kx hG need old hsz fresh hKx
              have e0 : a.tmps[17]?.getD undef = .int .i64 nl := by rw [← Array.getD_eq_getD_getElem?]; exact (need 4 (by kernel_rfl) (by kernel_rfl))
              have e1 : a.tmps[20]?.getD undef = .int .i64 (NN : Nat) := by rw [← Array.getD_eq_getD_getElem?]; exact (need 7 (by kernel_rfl) (by kernel_rfl))
              refine op_value (v := .bool true) (wanted_of (j := 2) rfl (need 2 (by kernel_rfl) (by kernel_rfl))) ?_ (hKx _ w1 rfl hG (Below.refl _ _))
              simp [execOp, go_sem, e0, e1] <;> exact HE.out
            case o9 =>
              intro a w1 Kx hG need old hsz fresh hKx
              have e0 : a.tmps[15]?.getD undef = .bool true := by rw [← Array.getD_eq_getD_getElem?]; exact (need 2 (by kernel_rfl) (by kernel_rfl))
              have e1 : a.tmps[21]?.getD undef = .bool true := by rw [← Array.getD_eq_getD_getElem?]; exact (need 8 (by kernel_rfl) (by kernel_rfl))
              refine op_value (v := .bool true) (wanted_none rfl) ?_ (hKx _ w1 rfl hG (Below.refl _ _))
              simp [execOp, go_sem, asBool, e0, e1]
          case hend =>
            intro a w6 hG hde hsz hφ hold
            obtain rfl := act_puts [(13, .int .i64 (jx : Nat)), (14, .bool true), (15, .bool true), (16, .pointer (some ⟨p, 1, none⟩)), (17, .int .i64 nl), (18, .agg #[.slice (some ⟨B, o, none⟩) t.length c]), (19, .int .i64 (jx : Nat)), (20, .int .i64 (NN : Nat)), (21, .bool true), (22, .bool true)] [13, 14, 15, 16, 17, 18, 19, 20, 21, 22] rfl (by kernel_rfl) (by kernel_rfl) hde hsz (List.forall_mem_cons.2 ⟨(show a.tmps.getD 13 undef = .int .i64 (jx : Nat) from (hφ 0 (by kernel_rfl))), (List.forall_mem_cons.2 ⟨(show a.tmps.getD 14 undef = .bool true from (hφ 1 (by kernel_rfl))), (List.forall_mem_cons.2 ⟨(show a.tmps.getD 15 undef = .bool true from (hφ 2 (by kernel_rfl))), (List.forall_mem_cons.2 ⟨(show a.tmps.getD 16 undef = .pointer (some ⟨p, 1, none⟩) from (hφ 3 (by kernel_rfl))), (List.forall_mem_cons.2 ⟨(show a.tmps.getD 17 undef = .int .i64 nl from (hφ 4 (by kernel_rfl))), (List.forall_mem_cons.2 ⟨(show a.tmps.getD 18 undef = .agg #[.slice (some ⟨B, o, none⟩) t.length c] from (hφ 5 (by kernel_rfl))), (List.forall_mem_cons.2 ⟨(show a.tmps.getD 19 undef = .int .i64 (jx : Nat) from (hφ 6 (by kernel_rfl))), (List.forall_mem_cons.2 ⟨(show a.tmps.getD 20 undef = .int .i64 (NN : Nat) from (hφ 7 (by kernel_rfl))), (List.forall_mem_cons.2 ⟨(show a.tmps.getD 21 undef = .bool true from (hφ 8 (by kernel_rfl))), (List.forall_mem_cons.2 ⟨(show a.tmps.getD 22 undef = .bool true from (hφ 9 (by kernel_rfl))), (fun _ h => absurd h (by simp))⟩)⟩)⟩)⟩)⟩)⟩)⟩)⟩)⟩)⟩) hold
            clear hφ hold hsz hde
            simp only [putAll]
            go_frame
            go_wp2_with fail
            go_ret
            refine ⟨?_, HBA.out.trans ((HBW.out.trans (hG.mono HBW.out.size)).mono HBA.out.size)⟩
            have e : linksOk t = false := all_no hj1 (by rw [← HNN.out, ← HNE.out, decide_eq_false HE.out, decide_eq_false HJ0.out]; rfl)
            rw [e]; rfl
    · have d2 : decide ((jx : Int) < (t.length : Int)) = false := decide_eq_false (by omega)
      have HJ := Lib.hid (show t.length ≤ jx by omega)
      go_wp2_with fail
      go_ret
      refine ⟨?_, HBA.out.trans (HB.out.mono HBA.out.size)⟩
      have e : linksOk t = true := all_yes fun i hi => HF.out i (Nat.lt_of_lt_of_le hi HJ.out)
      rw [e]; rfl
set_option maxHeartbeats 4000000 in
set_option maxRecDepth 100000 in
theorem reachedl_any (t : List Nd) (A : Option Addr) (c : Nat) (r : Nat → NAddr) (hE : InT t) (hE2 : ∀ i, (at_ t i).en.length ≤ 1000000) (w : World) (h : TLies w A c t r) (h40 : t.length ≤ 40) (h0 : 0 < t.length) : Calls Tryd.prog 33 #[.agg #[.slice A t.length c]] w fun x w' => x = .returned (.bool (comesOk t)) ∧ Below w.heap.size w w' := by
  have HH := Lib.hid h
  obtain ⟨P, hP⟩ : ∃ P, P = w.heap.size := ⟨_, rfl⟩
  have HBA := Lib.hid ((Below.refl w.heap.size w).alloc (Nat.le_refl _) (.cells #[.slice A t.length c] 24))
  have HXA := Lib.hid (heap_alloc_new w (.cells #[.slice A t.length c] 24))
  rw [← hP] at HXA
  have HCM : Hid (∀ (i : Int) (w1 : World), TLies w1 A c t r → Calls Tryd.prog 41 #[.agg #[.slice A t.length c], .int .i64 0, .int .i64 i, .int .i64 11] w1 fun x w' => x = .returned (.bool (comesF t i 11 0)) ∧ Below w1.heap.size w1 w') := Lib.hid (fun i w1 hw => comes_any t A c r hE hE2 i 11 (by omega) 0 h0 w1 hw)
  have HPX : Hid (∀ w1, Below (w.alloc (.cells #[.slice A t.length c] 24)).heap.size (w.alloc (.cells #[.slice A t.length c] 24)) w1 → w1.cell? ⟨P, 0, none⟩ = some (.slice A t.length c)) := Lib.hid fun w1 hb => (tbox_cell ((hb.block P (by rw [hP]; simp)).trans HXA.out)).1
  clear h hE hE2
  go_enter Tryd.func33, Tryd.ntmps33
  go_wp2_with fail
  rw [← hP]
  generalize w.alloc _ = W at HBA HXA HPX ⊢
  clear hP
  go_loopw [3, 4, 8] (fun _ _ v8 wr => ∃ jx : Nat, jx ≤ t.length ∧ v8 = .int .i64 jx ∧ Hid (∀ i, i < jx → (!decide ((at_ t i).k = 2) || comesF t (i : Int) 11 0) = true) ∧ Hid (Below W.heap.size W wr)) (fun _ _ v8 _ => t.length - (RowKit.intOf v8).toNat)
  case atStart => exact ⟨0, Nat.zero_le _, rfl, Lib.hid (fun i hi => by omega), Lib.hid (Below.refl _ _)⟩
  case round =>
    obtain ⟨jx, hj, rfl, HF, HB⟩ := hrel
    by_cases hj1 : jx < t.length
    · have d2 : decide ((jx : Int) < (t.length : Int)) = true := decide_eq_true (by omega)
      have HTW := Lib.hid (fun w1 (hb : Below W.heap.size W w1) => HH.out.below (HBA.out.trans (hb.mono HBA.out.size)))
      obtain ⟨B, o, rfl, hBs, ⟨c0, c1, c2, c3, c4⟩, -⟩ := (HTW.out wr HB.out).node hj1
      obtain ⟨⟨RA, RB, rc, rd⟩, hr⟩ : ∃ a, a = r jx := ⟨_, rfl⟩
      rw [← hr] at c3 c4
      obtain ⟨n, hn⟩ : ∃ n, n = at_ t jx := ⟨_, rfl⟩
      rw [← hn] at c0 c1 c2 c3 c4
      have HNE := Lib.hid hn
      clear hn hr
      obtain ⟨nk, nl, nz, S, L⟩ := n
      dsimp only at c0 c1 c2 c3 c4
      have HBW := Lib.hid (HB.out.alloc HB.out.size (.cells #[.int .i64 nk, .int .i64 nl, .int .i64 nz, .slice RA S.length rc, .slice RB L.length rd] 32))
      have HXW := Lib.hid (heap_alloc_new wr (.cells #[.int .i64 nk, .int .i64 nl, .int .i64 nz, .slice RA S.length rc, .slice RB L.length rd] 32))
      have HCJ := Lib.hid (fun w1 hw => HCM.out (jx : Int) w1 hw)
      obtain ⟨NN, hNN⟩ : ∃ m, m = comesF t (jx : Int) 11 0 := ⟨_, rfl⟩
      rw [← hNN] at HCJ
      have HNN := Lib.hid hNN
      clear hNN
      go_upto_region 4 with (fail)
      generalize wr.alloc _ = V at HBW HXW ⊢
      obtain ⟨p, hp⟩ : ∃ p, p = wr.heap.size := ⟨_, rfl⟩
      rw [← hp] at HXW ⊢
      have u0 := (BoxAt.cells HXW.out).1
      have u1 := HPX.out V HBW.out
      clear hp c0 c1 c2 c3 c4 HXW
      by_cases k2 : nk = 2
      · subst k2
        cases NN with
        | true =>
          go_wp2_with (first
            | (go_at_call 41; (with_reducible refine (HCJ.out _ (HTW.out _ HBW.out)).mono ?_); rintro e w2 ⟨rfl, hb2⟩; have HB2 := Lib.hid (HBW.out.trans (hb2.mono HBW.out.size)); clear hb2)
            | fail)
          go_roundw
          case rel =>
            refine ⟨jx + 1, by omega, by go_num, Lib.hid (fun i hi => ?_), HB2⟩
            rcases Nat.lt_succ_iff_lt_or_eq.1 hi with h1 | h1
            · exact HF.out i h1
            · subst h1
              rw [← HNN.out, Bool.or_true]
          case measure => simp [RowKit.intOf]; omega
        | false =>
          go_wp2_with (first
            | (go_at_call 41; (with_reducible refine (HCJ.out _ (HTW.out _ HBW.out)).mono ?_); rintro e w2 ⟨rfl, hb2⟩; have HB2 := Lib.hid (HBW.out.trans (hb2.mono HBW.out.size)); clear hb2)
            | fail)
          go_ret
          refine ⟨?_, HBA.out.trans (HB2.out.mono HBA.out.size)⟩
          have e : comesOk t = false := all_no hj1 (by rw [← HNN.out, ← HNE.out]; rfl)
          rw [e]; rfl
      · have b2 : (nk == 2) = false := by simpa using k2
        have HK2 := Lib.hid k2
        clear k2
        go_wp2_with fail
        go_roundw
        case rel =>
          refine ⟨jx + 1, by omega, by go_num, Lib.hid (fun i hi => ?_), HBW⟩
          rcases Nat.lt_succ_iff_lt_or_eq.1 hi with h1 | h1
          · exact HF.out i h1
          · subst h1
            rw [← HNE.out, decide_eq_false HK2.out]; rfl
        case measure => simp [RowKit.intOf]; omega
    · have d2 : decide ((jx : Int) < (t.length : Int)) = false := decide_eq_false (by omega)
      have HJ := Lib.hid (show t.length ≤ jx by omega)
      go_wp2_with fail
      go_ret
      refine ⟨?_, HBA.out.trans (HB.out.mono HBA.out.size)⟩
      have e : comesOk t = true := all_yes fun i hi => HF.out i (Nat.lt_of_lt_of_le hi HJ.out)
      rw [e]; rfl
end Go.Proofs.YtfboilbmehcgoaaDoor

/- Package dir: apart: sorted and compacted, as many as before. -/
namespace Go.Proofs.YtfboilbmehcgoaaDoor
open Go.RowKit Go.Lib

theorem holds_own {α : Type} [Inhabited α] {enc : α → Value} {w : World} {base g cap : Nat} {e : TypeId} {ks : List α} (h : w.ownsRow base e 1 (.slice (some ⟨g, 0, none⟩) ks.length cap) ks.length (ks.map enc)) : Sort.Holds enc w g 0 ks.toArray := by
  intro j hj
  have hj' : j < ks.length := by simpa using hj
  have hc := h.cellAt j (by omega)
  rcases h.2 with ⟨h0, _⟩ | ⟨g', cap', cur, hv, _, hb, _⟩
  · cases h0
  · cases hv
    refine ⟨?_, by simp [World.frozen?, hb]⟩
    rw [Nat.zero_add, hc]
    simp [hj']
theorem grown_sort {α : Type} [Inhabited α] (enc : α → Value) (w : World) (g n : Nat) (os : Array Obj) (d : Array α) : w.grownBy (Sort.grow (Sort.putRow enc (Sort.ahead w n) g 0 d) os) (some g) :=
  ⟨rfl, rfl, rfl, by simp, fun k hk hne => by
    rw [Sort.heap_grow_old _ _ (by simpa using hk)]
    have hgk : g ≠ k := fun e => hne (by rw [e])
    simp [Sort.putRow, Sort.mapBlock, Array.getElem?_modify, hgk]⟩
theorem own_sort {α : Type} [Inhabited α] {enc : α → Value} {w : World} {base g cap n : Nat} {e : TypeId} {os : Array Obj} {ks ts : List α} (hl : ts.length = ks.length)
    (h : w.ownsRow base e 1 (.slice (some ⟨g, 0, none⟩) ks.length cap) ks.length (ks.map enc)) :
    (Sort.grow (Sort.putRow enc (Sort.ahead w n) g 0 ts.toArray) os).ownsRow base e 1 (.slice (some ⟨g, 0, none⟩) ks.length cap) ks.length (ts.map enc) := by
  refine ⟨by simp [hl], ?_⟩
  rcases h.2 with ⟨h0, _⟩ | ⟨g', cap', cur, hv, hbase, hb, h1, h2, h3, h4⟩
  · cases h0
  · cases hv
    have hg := lt_size hb
    refine .inr ⟨_, _, Sort.putCells enc 0 ts.toArray cur, rfl, hbase, ?_, h1, h2, by simpa [Sort.putCells] using h3, ?_⟩
    · rw [Sort.heap_grow_old _ _ (by simpa using hg)]
      simp [Sort.putRow, Sort.mapBlock, Array.getElem?_modify, hb, Sort.onCells]
    · apply List.ext_getElem?
      intro j
      by_cases hj : j < ts.length
      · have : j < cur.size := by omega
        rw [List.getElem?_take_of_lt (by omega), Array.getElem?_toList]
        simp [Sort.putCells, hj, this]
      · rw [List.getElem?_take_eq_none (by omega), List.getElem?_eq_none (by simp; omega)]
/-- Sorted and compacted: as many as before just where no two are equal. -/
theorem compact_len {l : List Int} (h : l.Pairwise (· ≤ ·)) : (Lib.compact l).length = l.length ↔ l.Nodup := by
  have e : (Lib.compact l).length = ((List.range l.length).filter (keeps l.toArray)).length := by
    unfold Lib.compact compactUpTo; simp
  have e2 : (Lib.compact l).length = l.length ↔ ∀ j, j < l.length → keeps l.toArray j = true := by
    rw [e]
    conv => lhs; rhs; rw [← List.length_range (n := l.length)]
    rw [List.length_filter_eq_length_iff]
    simp
  rw [e2, List.nodup_iff_pairwise_ne]
  rw [List.pairwise_iff_getElem] at h ⊢
  constructor
  · intro hk i j hi hj hij
    have h1 := hk j hj
    unfold keeps at h1
    rw [decide_eq_true_eq] at h1
    rcases h1 with h1 | h1
    · omega
    · have hj1 : j - 1 < l.length := by omega
      rw [getElem!_pos _ _ (by simpa using hj), getElem!_pos _ _ (by simpa using hj1)] at h1
      have h2 := h (j - 1) j hj1 hj (by omega)
      simp only [List.getElem_toArray] at h1
      rcases Nat.lt_or_ge i (j - 1) with h3 | h3
      · have h4 := h i (j - 1) hi hj1 h3
        omega
      · obtain rfl : i = j - 1 := by omega
        exact fun e => h1 e.symm
  · intro hn j hj
    unfold keeps
    rw [decide_eq_true_eq]
    rcases Nat.eq_zero_or_pos j with h0 | h0
    · exact .inl h0
    · right
      have hj1 : j - 1 < l.length := by omega
      rw [getElem!_pos _ _ (by simpa using hj), getElem!_pos _ _ (by simpa using hj1)]
      simp only [List.getElem_toArray]
      exact fun e => hn (j - 1) j hj1 hj (by omega) e.symm
theorem sorted_len (l : List Int) : decide ((Lib.compact (l.mergeSort fun x y => decide (x ≤ y))).length = l.length) = decide l.Nodup := by
  have hp := List.mergeSort_perm l (fun x y => decide (x ≤ y))
  have hs : (l.mergeSort fun x y => decide (x ≤ y)).Pairwise (· ≤ ·) := by
    have := List.pairwise_mergeSort (le := fun x y : Int => decide (x ≤ y)) (fun a b c => by simp; omega) (fun a b => by simp; omega) l
    exact this.imp fun h => of_decide_eq_true h
  have h1 := compact_len hs
  rw [List.length_mergeSort, hp.nodup_iff] at h1
  exact decide_eq_decide.2 h1
def nzS (l : List Int) : List Int := l.filter fun s => decide (s ≠ 0)
theorem nzS_take {l : List Int} {j : Nat} (h : j < l.length) : nzS (l.take (j + 1)) = nzS (l.take j) ++ (if l[j] = 0 then [] else [l[j]]) := by
  unfold nzS
  rw [List.take_succ_eq_append_getElem h, List.filter_append]
  congr 1
  by_cases e : l[j] = 0 <;> simp [e]
theorem nzS_allSeq {t : List Nd} {j : Nat} (h : j < t.length) : nzS (allSeq (t.take (j + 1))) = nzS (allSeq (t.take j)) ++ nzS t[j].sq := by
  unfold allSeq nzS
  rw [List.take_succ_eq_append_getElem h, List.flatMap_append, List.filter_append]
  simp
theorem allSeq_le : ∀ t : List Nd, (∀ n ∈ t, n.sq.length ≤ 60) → (allSeq t).length ≤ 60 * t.length
  | [], _ => by simp [allSeq]
  | n :: t, h => by
    have h1 := allSeq_le t fun x hx => h x (by simp [hx])
    have h2 := h n (by simp)
    unfold allSeq at h1 ⊢
    rw [List.flatMap_cons, List.length_append, List.length_cons]; omega
theorem nzS_le (l : List Int) : (nzS l).length ≤ l.length := List.length_filter_le _ _
theorem ilies_one_at (w : World) (x : Int) : ILies (w.alloc (.cells #[.int .i64 x] 3)) (some ⟨w.heap.size, 0, none⟩) [x] := by
  intro _
  have hn := heap_alloc_new w (.cells #[.int .i64 x] 3)
  refine ⟨_, 0, rfl, lt_size hn, fun j hj => ?_⟩
  obtain rfl : j = 0 := by simpa using hj
  generalize w.alloc _ = W at hn ⊢
  simp [World.cell?, hn]
set_option maxHeartbeats 4000000 in
set_option maxRecDepth 100000 in
theorem apartl_any (t : List Nd) (A : Option Addr) (c : Nat) (r : Nat → NAddr) (w : World) (h : TLies w A c t r) (h40 : t.length ≤ 40) (h60 : ∀ n ∈ t, n.sq.length ≤ 60) : Calls Tryd.prog 34 #[.agg #[.slice A t.length c]] w fun x w' => x = .returned (.bool (noTw (allSeq t))) ∧ Below w.heap.size w w' := by
  have HH := Lib.hid h
  have HBA := Lib.hid ((Below.refl w.heap.size w).alloc (Nat.le_refl _) (.cells #[.slice A t.length c] 24))
  have H60 := Lib.hid h60
  have HSL : Hid (∀ j, (nzS (allSeq (t.take j))).length ≤ 2400) := Lib.hid fun j => by
    have h1 := allSeq_le (t.take j) fun n hn => H60.out n (List.mem_of_mem_take hn)
    have h2 := nzS_le (allSeq (t.take j))
    rw [List.length_take] at h1
    omega
  clear h h60
  go_enter Tryd.func34, Tryd.ntmps34
  go_wp2_with fail
  generalize w.alloc _ = W at HBA ⊢
  go_loopw [3, 5, 7, 11, 18] (fun v3 _ _ v11 _ wr => ∃ jx : Nat, jx ≤ t.length ∧ v11 = .int .i64 jx ∧ Hid (IOwn wr W.heap.size v3 (nzS (allSeq (t.take jx)))) ∧ Hid (Below W.heap.size W wr)) (fun _ _ _ v11 _ _ => t.length - (RowKit.intOf v11).toNat)
  case atStart => exact ⟨0, Nat.zero_le _, rfl, Lib.hid (by simpa [nzS, allSeq] using iown_nil W W.heap.size), Lib.hid (Below.refl _ _)⟩
  case round =>
    obtain ⟨jx, hj, rfl, HO, HB⟩ := hrel
    by_cases hj1 : jx < t.length
    · have d2 : decide ((jx : Int) < (t.length : Int)) = true := decide_eq_true (by omega)
      have HT := Lib.hid (nzS_allSeq hj1)
      have h6 := H60.out _ (at_mem hj1)
      have hS := HSL.out jx
      obtain ⟨B, o, rfl, hBs, hc, hn⟩ := (HH.out.below (HBA.out.trans (HB.out.mono HBA.out.size))).node hj1
      rw [at_lt hj1] at hc hn h6
      generalize nzS (allSeq (t.take jx)) = S at HT HO hS ⊢
      have HNW : Hid (∀ w1, Below W.heap.size W w1 → NLiesA w1 t[jx] (r jx)) := Lib.hid fun w1 hb => by
        have := (HH.out.below (HBA.out.trans (hb.mono HBA.out.size))).rows hj1
        rwa [at_lt hj1] at this
      generalize t[jx] = n at hc HNW HT h6
      obtain ⟨c0, c1, c2, c3, c4⟩ := hc
      obtain ⟨⟨RA, RB, rc, rd⟩, hr⟩ : ∃ a, a = r jx := ⟨_, rfl⟩
      rw [← hr] at c3 c4 HNW
      obtain ⟨N, hN⟩ : ∃ N, N = Obj.cells #[.int .i64 n.k, .int .i64 n.l, .int .i64 n.z, .slice RA n.sq.length rc, .slice RB n.en.length rd] 32 (0, 0) := ⟨_, rfl⟩
      have HBW := Lib.hid (HB.out.alloc HB.out.size N)
      have HO2 : Hid (IOwn (wr.alloc N) W.heap.size u3 S) := Lib.hid (HO.out.alloc _)
      clear hr HO
      go_wp2_with fail
      rw [← hN]
      generalize wr.alloc _ = W2 at HBW HO2 ⊢
      clear hN
      go_loopw [3, 7, 18] (fun v3 _ v18 wr2 => ∃ jy : Nat, jy ≤ n.sq.length ∧ v18 = .int .i64 jy ∧ Hid (IOwn wr2 W.heap.size v3 (S ++ nzS (n.sq.take jy))) ∧ Hid (Below W.heap.size W wr2)) (fun _ _ v18 _ => n.sq.length - (RowKit.intOf v18).toNat)
      case atStart => exact ⟨0, Nat.zero_le _, rfl, Lib.hid (by simpa [nzS] using HO2.out), HBW⟩
      case round =>
        obtain ⟨jy, hjy, rfl, HO3, HB3⟩ := hrel
        by_cases hj2 : jy < n.sq.length
        · have d3 : decide ((jy : Int) < (n.sq.length : Int)) = true := decide_eq_true (by omega)
          have HT2 := Lib.hid (nzS_take hj2)
          have hl2 := nzS_le (n.sq.take jy)
          rw [List.length_take] at hl2
          obtain ⟨B2, o2, rfl, hB2, hcc⟩ := (HNW.out wr HB3.out).sq (by show 0 < n.sq.length; omega)
          have k0 := hcc jy hj2
          generalize n.sq[jy] = x at k0 HT2
          have hML : (S ++ nzS (n.sq.take jy)).length ≤ 2460 := by rw [List.length_append]; omega
          obtain ⟨M, hM⟩ : ∃ M, M = S ++ nzS (n.sq.take jy) := ⟨_, rfl⟩
          rw [← hM] at HO3 hML
          have HM := Lib.hid hM
          clear hcc hM
          by_cases g : x = 0
          · subst g
            go_wp2_with fail
            go_roundw
            case rel => exact ⟨jy + 1, by omega, by go_num, Lib.hid (by rw [HT2.out, if_pos rfl, List.append_nil, ← HM.out]; exact HO3.out), HB3⟩
            case measure => simp [RowKit.intOf]; omega
          · have b : (x != 0) = true := by simpa using g
            have G := Lib.hid g
            obtain ⟨q, cap, hq, -⟩ := own_slice HO3.out
            subst hq
            have HO5 : Hid (IOwn (wr.alloc (.cells #[.int .i64 x] 3)) W.heap.size (.slice q M.length cap) M) := Lib.hid (HO3.out.alloc _)
            have HL1 := Lib.hid (ilies_one_at wr x)
            have HB5 := Lib.hid (HB3.out.alloc HB3.out.size (.cells #[.int .i64 x] 3))
            have HLT : Hid (M.length + [x].length ≤ 100000) := Lib.hid (by simp; omega)
            clear g
            go_wp2_with (at_builtin; refine wpList_iapp rfl _ _ rfl W.heap.size (.slice q M.length cap) M [x] _ _ rfl rfl HO5.out HL1.out (fun e => by cases e) HLT.out HB5.out.size ?_; intro q2 cap2 w3 hown2 hg2)
            have HB7 := Lib.hid (HB5.out.grown hg2 HB5.out.size fun k e => (HO5.out.lt k e).1)
            have HO6 := Lib.hid hown2
            clear hown2
            go_roundw
            case rel => exact ⟨jy + 1, by omega, by go_num, Lib.hid (by rw [HT2.out, if_neg G.out, ← List.append_assoc, ← HM.out]; exact HO6.out), HB7⟩
            case measure => simp [RowKit.intOf]; omega
        · have d3 : decide ((jy : Int) < (n.sq.length : Int)) = false := decide_eq_false (by omega)
          have HE : Hid (n.sq.take jy = n.sq) := Lib.hid (List.take_of_length_le (by omega))
          go_wp2_with fail
          go_roundw
          case rel => exact ⟨jx + 1, by omega, by go_num, Lib.hid (by rw [HT.out]; have := HO3.out; rw [HE.out] at this; exact this), HB3⟩
          case measure => simp [RowKit.intOf]; omega
    · have d2 : decide ((jx : Int) < (t.length : Int)) = false := decide_eq_false (by omega)
      have HE : Hid (nzS (allSeq (t.take jx)) = nzS (allSeq t)) := Lib.hid (by rw [List.take_of_length_le (by omega)])
      have hS := HSL.out jx
      rw [HE.out] at HO hS
      have HV : Hid (noTw (allSeq t) = decide (nzS (allSeq t)).Nodup) := Lib.hid rfl
      have HBE := Lib.hid (HBA.out.trans (HB.out.mono HBA.out.size))
      generalize nzS (allSeq t) = S at HO hS HV
      obtain ⟨q, cap, hq, hcap⟩ := own_slice HO.out
      subst hq
      have HSO := Lib.hid (sorted_len S)
      by_cases h0 : S = []
      · subst h0
        go_wp2_with (first
          | (go_at_call 54; refine (Tryd.slices_Sort_int_none _ _ _).mono ?_; rintro e w' ⟨rfl, rfl⟩)
          | (go_at_call 55; refine (Tryd.slices_Compact_int_empty _ _ _).mono ?_; rintro e w' ⟨rfl, rfl⟩)
          | fail)
        go_ret
        exact ⟨by rw [HV.out]; rfl, HBE.out⟩
      · have hs1 : 1 ≤ S.length := Nat.pos_of_ne_zero fun h => h0 (List.eq_nil_of_length_eq_zero h)
        obtain ⟨g, rfl⟩ : ∃ g, q = some ⟨g, 0, none⟩ := row_where HO.out (by omega)
        have hgl := HO.out.lt g rfl
        obtain ⟨Z, hZ⟩ : ∃ Z, Z = S.mergeSort fun x y => decide (x ≤ y) := ⟨_, rfl⟩
        have hZl : Z.length = S.length := by rw [hZ]; exact List.length_mergeSort S
        rw [← hZ] at HSO
        have HZ := Lib.hid hZ
        have HZL := Lib.hid hZl
        have HCO : Hid (∀ w', IOwn w' W.heap.size (.slice (some ⟨g, 0, none⟩) S.length cap) Z → Below W.heap.size W w' → Calls Tryd.prog 55 #[.slice (some ⟨g, 0, none⟩) S.length cap] w' fun e w'' => e = .returned (.slice (some ⟨g, 0, none⟩) (Lib.compact Z).length cap) ∧ Below W.heap.size W w'') := Lib.hid (by
          intro w' ho hb
          have hg2 := (ho.lt g rfl).1
          unfold IOwn at ho
          rw [← hZl] at ho hcap ⊢
          refine (Tryd.slices_Compact_int g 0 cap Z w' (holds_own ho) (by omega) hcap).mono ?_
          rintro e w'' ⟨rfl, nn, rfl⟩
          refine ⟨rfl, hb.grown (row := some g) ?_ hb.size (fun j hj => by cases hj; exact hg2)⟩
          have := grown_sort (Value.int .i64) w' g nn #[] (Lib.compact Z ++ List.replicate (Z.length - (Lib.compact Z).length) 0).toArray
          rwa [Sort.grow_empty] at this)
        clear h0 hZ hZl
        go_wp2_with (first
          | (go_at_call 54; refine (Tryd.slices_Sort_int g 0 cap S _ (holds_own HO.out) hgl.2 (by omega)).mono ?_; rintro e w' ⟨rfl, nn, os, hw2⟩; have HO8 : Hid (IOwn w' W.heap.size (.slice (some ⟨g, 0, none⟩) S.length cap) Z) := Lib.hid (by rw [hw2, ← HZ.out]; have := own_sort (os := os) (n := nn) HZL.out HO.out; unfold IOwn; rw [HZL.out]; exact this); have HB8 : Hid (Below W.heap.size W w') := Lib.hid (by rw [hw2]; exact HB.out.grown (grown_sort _ _ _ _ _ _) HB.out.size (fun j hj => by cases hj; exact hgl.1)); clear hw2)
          | (go_at_call 55; refine (HCO.out _ HO8.out HB8.out).mono ?_; rintro e w' ⟨rfl, hb9⟩; have HB9 := Lib.hid (HBA.out.trans (hb9.mono HBA.out.size)); clear hb9)
          | fail)
        go_ret
        refine ⟨?_, HB9.out⟩
        rw [HV.out, ← HSO.out]
        have key : ∀ a b : Nat, ((a : Int) == (b : Int)) = decide (a = b) := fun a b => by
          rw [Bool.eq_iff_iff, beq_iff_eq, decide_eq_true_eq]; exact Int.ofNat_inj
        simp [key]
end Go.Proofs.YtfboilbmehcgoaaDoor

/- Package dir: May. -/
namespace Go.Proofs.YtfboilbmehcgoaaDoor
open Go.RowKit Go.Lib

theorem mayNd_sizes {n : Nd} (h : mayNd n = true) : n.sq.length ≤ 5 ∧ n.en.length ≤ 10 := by
  refine ⟨may_len5 h, ?_⟩
  unfold mayNd at h
  split at h
  · simp only [Bool.and_eq_true, decide_eq_true_eq] at h
    omega
  · split at h
    · simp only [Bool.and_eq_true, decide_eq_true_eq] at h
      exact (mayEs_iff.1 h.2.2.2).1
    · split at h
      · have := (mayFl_at h).2.2.2.2.2.1
        omega
      · cases h
set_option maxHeartbeats 4000000 in
set_option maxRecDepth 100000 in
theorem mayl_any (t : List Nd) (A : Option Addr) (c : Nat) (r : Nat → NAddr) (w : World) (h : TLies w A c t r) : Calls Tryd.prog 14 #[.agg #[.slice A t.length c]] w fun x w' => x = .returned (.bool (mayT t)) ∧ Below w.heap.size w w' := by
  rw [← mayLd_eq]
  have HH := Lib.hid h
  have hmx := h.sm
  unfold maxLen at hmx
  obtain ⟨P, hP⟩ : ∃ P, P = w.heap.size := ⟨_, rfl⟩
  have HBA := Lib.hid ((Below.refl w.heap.size w).alloc (Nat.le_refl _) (.cells #[.slice A t.length c] 24))
  have HXA := Lib.hid (heap_alloc_new w (.cells #[.slice A t.length c] 24))
  rw [← hP] at HXA
  have HPX : Hid (∀ w1, Below (w.alloc (.cells #[.slice A t.length c] 24)).heap.size (w.alloc (.cells #[.slice A t.length c] 24)) w1 → w1.cell? ⟨P, 0, none⟩ = some (.slice A t.length c)) := Lib.hid fun w1 hb => (tbox_cell ((hb.block P (by rw [hP]; simp)).trans HXA.out)).1
  clear h
  by_cases h12 : t.length = 12
  rotate_left
  · have HV : Hid (mayLd t = false) := Lib.hid (by unfold mayLd; rw [decide_eq_false h12]; rfl)
    have b0 : ((t.length : Int) != 12) = true := by simp; omega
    go_enter Tryd.func14, Tryd.ntmps14
    go_wp2_with fail
    go_ret
    exact ⟨by rw [HV.out]; rfl, HBA.out⟩
  have b0 : ((t.length : Int) != 12) = false := by simp; omega
  obtain ⟨B, o, hA, hBs, hc0, -⟩ := HH.out.node (show 0 < t.length by omega)
  have c0 := hc0.c0
  subst hA
  have c0' := (HBA.out.cell (p := ⟨B, o + 0 * 5, none⟩) hBs).trans c0
  have i0 : (0 : Int) < (t.length : Int) := by omega
  rw [Nat.zero_mul, Nat.add_zero] at c0'
  obtain ⟨k0, hk0⟩ : ∃ k, k = (at_ t 0).k := ⟨_, rfl⟩
  rw [← hk0] at c0'
  clear c0 hc0
  by_cases hk : k0 = 2
  rotate_left
  · have HV : Hid (mayLd t = false) := Lib.hid (by unfold mayLd; rw [decide_eq_true h12, ← hk0, decide_eq_false hk]; rfl)
    have b1 : (k0 != 2) = true := by simpa using hk
    clear hk0 h12
    go_enter Tryd.func14, Tryd.ntmps14
    go_upto_region 1 with fail
    rw [← hP]
    generalize w.alloc _ = W at HBA HXA HPX c0' ⊢
    clear hP
    have u0 := HPX.out W (Below.refl _ _)
    go_wp2_with fail
    go_ret
    exact ⟨by rw [HV.out]; rfl, HBA.out⟩
  have b1 : (k0 != 2) = false := by simp [hk]
  have HK0 : Hid ((at_ t 0).k = 2) := Lib.hid (by rw [← hk0]; exact hk)
  have H12 := Lib.hid h12
  have h40 : t.length ≤ 40 := by omega
  clear hk hk0 h12
  go_enter Tryd.func14, Tryd.ntmps14
  go_upto_region 1 with fail
  rw [← hP]
  generalize w.alloc _ = W at HBA HXA HPX c0' ⊢
  have u0 := HPX.out W (Below.refl _ _)
  clear hP
  go_wp2_with fail
  clear u0 c0' b0 b1
  go_loopw [4, 20] (fun _ v20 wr => ∃ jx : Nat, jx ≤ t.length ∧ v20 = .int .i64 jx ∧ Hid (∀ i, i < jx → mayNd (at_ t i) = true) ∧ Hid (Below W.heap.size W wr)) (fun _ v20 _ => t.length - (RowKit.intOf v20).toNat)
  case atStart => exact ⟨0, Nat.zero_le _, rfl, Lib.hid (fun i hi => by omega), Lib.hid (Below.refl _ _)⟩
  case round =>
    obtain ⟨jx, hj, rfl, HF, HB⟩ := hrel
    have HTW := Lib.hid (fun w1 (hb : Below W.heap.size W w1) => HH.out.below (HBA.out.trans (hb.mono HBA.out.size)))
    by_cases hj1 : jx < t.length
    · have d2 : decide ((jx : Int) < (t.length : Int)) = true := decide_eq_true (by omega)
      obtain ⟨B', o', e', hBs', ⟨c0, c1, c2, c3, c4⟩, hn⟩ := (HTW.out wr HB.out).node hj1
      simp only [Option.some.injEq, Addr.mk.injEq] at e'
      obtain ⟨rfl, rfl, -⟩ := e'
      obtain ⟨⟨RA, RB, rc, rd⟩, hr⟩ : ∃ a, a = r jx := ⟨_, rfl⟩
      rw [← hr] at c3 c4 hn
      obtain ⟨n, hnn⟩ : ∃ n, n = at_ t jx := ⟨_, rfl⟩
      rw [← hnn] at c0 c1 c2 c3 c4 hn
      have HNE := Lib.hid hnn
      have HBW := Lib.hid (HB.out.alloc HB.out.size (.cells #[.int .i64 n.k, .int .i64 n.l, .int .i64 n.z, .slice RA n.sq.length rc, .slice RB n.en.length rd] 32))
      have HC := Lib.hid (fun w1 (hw : NLies w1 n RA RB rc rd) => maynl_any n RA RB rc rd w1 hw)
      have HN := Lib.hid (hn.below ((Below.refl _ _).alloc (Nat.le_refl _) (.cells #[.int .i64 n.k, .int .i64 n.l, .int .i64 n.z, .slice RA n.sq.length rc, .slice RB n.en.length rd] 32)))
      obtain ⟨m, hm⟩ : ∃ m, m = mayNd n := ⟨_, rfl⟩
      rw [← hm] at HC
      have HM := Lib.hid hm
      clear hn hr hnn hm
      cases m with
      | true =>
        go_wp2_with (first
          | (go_at_call 31; (with_reducible refine (HC.out _ HN.out).mono ?_); rintro e w2 ⟨rfl, hb2⟩; have HB2 := Lib.hid (HBW.out.trans (hb2.mono HBW.out.size)); clear hb2)
          | fail)
        go_roundw
        case rel =>
          refine ⟨jx + 1, by omega, by go_num, Lib.hid (fun i hi => ?_), HB2⟩
          rcases Nat.lt_succ_iff_lt_or_eq.1 hi with h1 | h1
          · exact HF.out i h1
          · subst h1
            rw [← HNE.out, ← HM.out]
        case measure => simp [RowKit.intOf]; omega
      | false =>
        go_wp2_with (first
          | (go_at_call 31; (with_reducible refine (HC.out _ HN.out).mono ?_); rintro e w2 ⟨rfl, hb2⟩; have HB2 := Lib.hid (HBW.out.trans (hb2.mono HBW.out.size)); clear hb2)
          | fail)
        go_ret
        refine ⟨?_, HBA.out.trans (HB2.out.mono HBA.out.size)⟩
        have e : t.all mayNd = false := by
          rw [List.all_eq_false]
          exact ⟨_, at_mem hj1, by rw [← HNE.out, ← HM.out]; simp⟩
        have e2 : mayLd t = false := by unfold mayLd; rw [e]; simp
        rw [e2]; rfl
    · have d2 : decide ((jx : Int) < (t.length : Int)) = false := decide_eq_false (by omega)
      have HALL : Hid (t.all mayNd = true) := Lib.hid (List.all_eq_true.2 fun n hn => by
        obtain ⟨i, hi, rfl⟩ := mem_at hn
        exact HF.out i (by omega))
      have HV : Hid (mayLd t = (linksOk t && (comesOk t && noTw (allSeq t)))) := Lib.hid (by unfold mayLd; rw [decide_eq_true H12.out, decide_eq_true HK0.out, HALL.out]; simp)
      have hsz : ∀ n ∈ t, n.sq.length ≤ 5 ∧ n.en.length ≤ 10 := fun n hn => mayNd_sizes (List.all_eq_true.1 HALL.out n hn)
      have HE := Lib.hid (all_inT H12.out HALL.out).1
      have hE2 : ∀ i, (at_ t i).en.length ≤ 1000000 := fun i => by
        by_cases hi : i < t.length
        · have := (hsz _ (at_mem hi)).2; omega
        · unfold at_
          rw [List.getD_eq_getElem?_getD, List.getElem?_eq_none (by omega)]
          simp
      have HQ1 := Lib.hid (fun w1 (hb : Below W.heap.size W w1) => namedl_any t _ c r w1 (HTW.out w1 hb) h40 (fun n hn => by have := (hsz n hn).2; omega))
      have HQ2 := Lib.hid (fun w1 (hb : Below W.heap.size W w1) => reachedl_any t _ c r HE.out hE2 w1 (HTW.out w1 hb) h40 (by have := H12.out; omega))
      have HQ3 := Lib.hid (fun w1 (hb : Below W.heap.size W w1) => apartl_any t _ c r w1 (HTW.out w1 hb) h40 (fun n hn => by have := (hsz n hn).1; omega))
      clear hsz hE2
      have u0 := HPX.out wr HB.out
      cases h1 : linksOk t with
      | false =>
        rw [h1] at HQ1
        have H1 := Lib.hid h1
        clear h1
        go_wp2_with (first
          | (go_at_call 32; (with_reducible refine (HQ1.out _ HB.out).mono ?_); rintro e w2 ⟨rfl, hb2⟩; have HB2 := Lib.hid (HB.out.trans (hb2.mono HB.out.size)); clear hb2)
          | fail)
        go_ret
        exact ⟨by rw [HV.out, H1.out]; rfl, HBA.out.trans (HB2.out.mono HBA.out.size)⟩
      | true =>
        rw [h1] at HQ1
        cases h2 : comesOk t with
        | false =>
          rw [h2] at HQ2
          have H1 := Lib.hid h1
          have H2 := Lib.hid h2
          clear h1 h2
          go_wp2_with (first
            | (go_at_call 32; (with_reducible refine (HQ1.out _ HB.out).mono ?_); rintro e w2 ⟨rfl, hb2⟩; have HB2 := Lib.hid (HB.out.trans (hb2.mono HB.out.size)); have u2 := HPX.out w2 HB2.out; clear hb2)
            | (go_at_call 33; (with_reducible refine (HQ2.out _ HB2.out).mono ?_); rintro e w3 ⟨rfl, hb2⟩; have HB3 := Lib.hid (HB2.out.trans (hb2.mono HB2.out.size)); clear hb2)
            | fail)
          go_ret
          exact ⟨by rw [HV.out, H1.out, H2.out]; rfl, HBA.out.trans (HB3.out.mono HBA.out.size)⟩
        | true =>
          rw [h2] at HQ2
          have H1 := Lib.hid h1
          have H2 := Lib.hid h2
          clear h1 h2
          obtain ⟨x, hx⟩ : ∃ x, x = noTw (allSeq t) := ⟨_, rfl⟩
          rw [← hx] at HQ3 HV
          clear hx
          go_wp2_with (first
            | (go_at_call 32; (with_reducible refine (HQ1.out _ HB.out).mono ?_); rintro e w2 ⟨rfl, hb2⟩; have HB2 := Lib.hid (HB.out.trans (hb2.mono HB.out.size)); have u2 := HPX.out w2 HB2.out; clear hb2)
            | (go_at_call 33; (with_reducible refine (HQ2.out _ HB2.out).mono ?_); rintro e w3 ⟨rfl, hb2⟩; have HB3 := Lib.hid (HB2.out.trans (hb2.mono HB2.out.size)); have u3 := HPX.out w3 HB3.out; clear hb2)
            | (go_at_call 34; (with_reducible refine (HQ3.out _ HB3.out).mono ?_); rintro e w4 ⟨rfl, hb2⟩; have HB4 := Lib.hid (HB3.out.trans (hb2.mono HB3.out.size)); clear hb2)
            | fail)
          go_ret
          exact ⟨by rw [HV.out, H1.out, H2.out]; rfl, HBA.out.trans (HB4.out.mono HBA.out.size)⟩
end Go.Proofs.YtfboilbmehcgoaaDoor

/- Package dir: find, by names. -/
namespace Go.Proofs.YtfboilbmehcgoaaDoor
open Go.RowKit Go.Lib

/-- Strings lie at an address. -/
def SLo (w : World) (A : Option Addr) (L : List ByteArray) : Prop := L ≠ [] → ∃ b o, A = some ⟨b, o, none⟩ ∧ b < w.heap.size ∧ ∀ j (h : j < L.length), w.cell? ⟨b, o + j, none⟩ = some (.string L[j])
theorem SLo.below {w w' : World} {A : Option Addr} {L : List ByteArray} (h : SLo w A L) (hb : Below w.heap.size w w') : SLo w' A L := fun hn => by
  obtain ⟨b, o, e, h1, h2⟩ := h hn
  exact ⟨b, o, e, Nat.lt_of_lt_of_le h1 hb.size, fun j hj => (hb.cell (p := ⟨b, o + j, none⟩) h1).trans (h2 j hj)⟩
theorem SL.o {w : World} {lo : Nat} {A : Option Addr} {L : List ByteArray} (h : SL w lo A L) : SLo w A L := fun hn => by
  obtain ⟨b, e, _, h1, h2⟩ := h hn
  exact ⟨b, 0, e, h1, fun j hj => by rw [Nat.zero_add]; exact h2 j hj⟩
theorem SLo.tail {w : World} {b o : Nat} {s : ByteArray} {L : List ByteArray} (h : SLo w (some ⟨b, o, none⟩) (s :: L)) : SLo w (some ⟨b, o + 1, none⟩) L := fun _ => by
  obtain ⟨b', o', e, h1, h2⟩ := h (by simp)
  simp only [Option.some.injEq, Addr.mk.injEq] at e
  obtain ⟨rfl, rfl, -⟩ := e
  exact ⟨_, _, rfl, h1, fun j hj => by have := h2 (j + 1) (by simpa using hj); rw [show o + 1 + j = o + (j + 1) by omega]; exact this⟩
/-- Name by name: the node, and the error. -/
def findT (t : List Nd) : Int → List ByteArray → Int × Int
  | i, [] => (i, 0)
  | i, s :: L => if (at_ t i.toNat).k = 2 then (if findE (at_ t i.toNat).en s < 0 then (0, 8) else findT t (findE (at_ t i.toNat).en s) L) else (0, 11)
theorem findE_cases (l : List Ent) (s : ByteArray) : findE l s = -1 ∨ ∃ e ∈ l, e.2 = findE l s := by
  induction l with
  | nil => exact .inl rfl
  | cons e l ih =>
    rw [findE]
    split
    · exact .inr ⟨e, by simp, rfl⟩
    · rcases ih with h | ⟨x, hx, h⟩
      · exact .inl h
      · exact .inr ⟨x, by simp [hx], h⟩
set_option maxHeartbeats 4000000 in
set_option maxRecDepth 100000 in
theorem findl_any (t : List Nd) (A : Option Addr) (c : Nat) (r : Nat → NAddr) (hE : InT t) (hE2 : ∀ i, (at_ t i).en.length ≤ 100) (h40 : t.length ≤ 40) : ∀ (L : List ByteArray) (i : Nat), i < t.length → L.length ≤ 100 → ∀ (q : Option Addr) (d : Nat), L.length ≤ d → d ≤ maxLen → ∀ w, TLies w A c t r → SLo w q L → Calls Tryd.prog 39 #[.agg #[.slice A t.length c], .int .i64 i, .slice q L.length d] w fun x w' => x = .returned (.tuple #[.int .i64 (findT t i L).1, .int .i64 (findT t i L).2]) ∧ Below w.heap.size w w'
  | L, i, hi, hL, q, d, hd, hdm, w, h, hS => by
    have HH := Lib.hid h
    have HSL := Lib.hid hS
    obtain ⟨P, hP⟩ : ∃ P, P = w.heap.size := ⟨_, rfl⟩
    have HBA := Lib.hid ((Below.refl w.heap.size w).alloc (Nat.le_refl _) (.cells #[.slice A t.length c] 24))
    have HXA := Lib.hid (heap_alloc_new w (.cells #[.slice A t.length c] 24))
    rw [← hP] at HXA
    have HPX : Hid (∀ w1, Below (w.alloc (.cells #[.slice A t.length c] 24)).heap.size (w.alloc (.cells #[.slice A t.length c] 24)) w1 → w1.cell? ⟨P, 0, none⟩ = some (.slice A t.length c)) := Lib.hid fun w1 hb => (tbox_cell ((hb.block P (by rw [hP]; simp)).trans HXA.out)).1
    clear h hS
    cases L with
    | nil =>
      go_enter Tryd.func39, Tryd.ntmps39
      go_wp2_with fail
      refine bodyPost_ret (by simp [results, Tryd.results39, go_sem]; try rfl) rfl ?_
      exact ⟨rfl, HBA.out⟩
    | cons s L =>
      have HI := Lib.hid (findl_any t A c r hE hE2 h40 L)
      have hEi := Lib.hid (hE i)
      obtain ⟨B, o, rfl, hBs, ⟨c0, c1, c2, c3, c4⟩, hn⟩ := (HH.out.below HBA.out).node hi
      obtain ⟨⟨RA, RB, rc, rd⟩, hr⟩ : ∃ x, x = r i := ⟨_, rfl⟩
      rw [← hr] at c3 c4 hn
      have HV : Hid (findT t i (s :: L) = if (at_ t i).k = 2 then (if findE (at_ t i).en s < 0 then (0, 8) else findT t (findE (at_ t i).en s) L) else (0, 11)) := Lib.hid (by rw [findT, Int.toNat_natCast])
      have h10 := hE2 i
      obtain ⟨n, hnn⟩ : ∃ n, n = at_ t i := ⟨_, rfl⟩
      rw [← hnn] at c0 c1 c2 c3 c4 hn HV h10 hEi
      clear hr hnn
      have HN := Lib.hid hn
      clear hn hE hE2
      obtain ⟨b, ob, rfl, hbs, hcs⟩ := HSL.out (by simp)
      have k0 := hcs 0 (by simp)
      rw [Nat.add_zero, List.getElem_cons_zero] at k0
      have k1 := (HBA.out.cell (p := ⟨b, ob, none⟩) hbs).trans k0
      have i1 : (0 : Int) < ((L.length : Int) + 1) := by omega
      have hz0 : ((L.length : Int) + 1 == 0) = false := by simp; omega
      have hll : ((s :: L).length : Int) = (L.length : Int) + 1 := by simp
      clear hcs k0
      have HTW := Lib.hid (fun w1 (hb : Below w.heap.size w w1) => HH.out.below hb)
      have HSW := Lib.hid (fun w1 (hb : Below w.heap.size w w1) => (HSL.out.below hb).tail)
      have HBX : Hid (∀ w1, Below (w.alloc (.cells #[.slice (some ⟨B, o, none⟩) t.length c] 24)).heap.size (w.alloc (.cells #[.slice (some ⟨B, o, none⟩) t.length c] 24)) w1 → w1.cell? ⟨b, ob, none⟩ = some (.string s)) := Lib.hid fun w1 hb => (hb.cell (p := ⟨b, ob, none⟩) (Nat.lt_of_lt_of_le hbs HBA.out.size)).trans k1
      go_enter Tryd.func39, Tryd.ntmps39
      go_upto_region 1 with fail
      rw [← hP]
      generalize w.alloc _ = W at HBA HXA HPX c0 c1 c2 c3 c4 HN k1 HBX hBs ⊢
      clear hP
      have u0 := HPX.out W (Below.refl _ _)
      have HBW := Lib.hid (HBA.out.alloc HBA.out.size (.cells #[.int .i64 n.k, .int .i64 n.l, .int .i64 n.z, .slice RA n.sq.length rc, .slice RB n.en.length rd] 32))
      have HBV := Lib.hid ((Below.refl W.heap.size W).alloc (Nat.le_refl _) (.cells #[.int .i64 n.k, .int .i64 n.l, .int .i64 n.z, .slice RA n.sq.length rc, .slice RB n.en.length rd] 32))
      have HXW := Lib.hid (heap_alloc_new W (.cells #[.int .i64 n.k, .int .i64 n.l, .int .i64 n.z, .slice RA n.sq.length rc, .slice RB n.en.length rd] 32))
      clear k1
      go_upto_region 4 with fail
      generalize W.alloc _ = V at HBW HBV HXW ⊢
      obtain ⟨p, hp⟩ : ∃ p, p = W.heap.size := ⟨_, rfl⟩
      rw [← hp] at HXW ⊢
      clear hp c0 c1 c2 c3 c4 u0
      have v0 := (BoxAt.cells HXW.out).1
      by_cases hk : n.k = 2
      rotate_left
      · have b1 : (n.k != 2) = true := by simpa using hk
        have HV2 : Hid (findT t i (s :: L) = (0, 11)) := Lib.hid (by rw [HV.out, if_neg hk])
        clear hk
        go_wp2_with fail
        refine bodyPost_ret (by simp [results, Tryd.results39, go_sem]; try rfl) rfl ?_
        rw [HV2.out]
        exact ⟨rfl, HBW.out⟩
      have b1 : (n.k != 2) = false := by simp [hk]
      have HV1 : Hid (findT t i (s :: L) = if findE n.en s < 0 then (0, 8) else findT t (findE n.en s) L) := Lib.hid (by rw [HV.out, if_pos hk])
      have hfc := findE_cases n.en s
      have HFC : Hid (0 ≤ findE n.en s → findE n.en s < (t.length : Int)) := Lib.hid fun h0 => by
        rcases hfc with h | ⟨e, he, h⟩
        · omega
        · rw [← h]; exact (hEi.out e he).2
      have HFN := Lib.hid (fun w1 (hw : NLies w1 n RA RB rc rd) => find_any RB rd n.en s w1 hw.en (by unfold maxLen; omega))
      generalize findE n.en s = m at HV1 HFC HFN
      clear hfc hk
      go_upto_region 6 with fail
      have v4 := (BoxAt.cells HXW.out).2.2.2.2
      have v5 := HBX.out V HBV.out
      have HS0 : Hid (∀ U, Below V.heap.size V U → U.cell? ⟨p, 4, none⟩ = some (.slice RB n.en.length rd) ∧ U.cell? ⟨b, ob, none⟩ = some (.string s)) := Lib.hid fun U hU => ⟨(hU.cell (p := ⟨p, 4, none⟩) (lt_size HXW.out)).trans (BoxAt.cells HXW.out).2.2.2.2, HBX.out U (HBV.out.trans (hU.mono HBV.out.size))⟩
      go_region_held3 (fun U => U.cell? ⟨p, 4, none⟩ = some (.slice RB n.en.length rd) ∧ U.cell? ⟨b, ob, none⟩ = some (.string s))
        (first | assumption | exact ⟨v4, v5⟩ | (refine HS0.out _ ?_; (repeat (first | exact Below.refl _ _ | refine Below.drew ?_)); done))
        (first
          | (go_at_call 62; refine (HFN.out _ (HN.out.below (HBV.out.trans (Below.refl _ _).drew))).mono ?_; rintro e w2 ⟨rfl, hb4⟩; have hb5 : Below V.heap.size V w2 := (Below.refl _ _).drew.trans hb4; have hcy2 := HS0.out _ hb5; replace hb5 := Lib.hid hb5; clear hb4)
          | fail)
      all_goals
        have HB2 := Lib.hid (HBW.out.trans (hb5.out.mono HBW.out.size))
        have HBX2 := Lib.hid (HBV.out.trans (hb5.out.mono HBV.out.size))
        clear hcy2 v4 v5 v0
        by_cases hm : m < 0
        · have d1 : decide (m < 0) = true := decide_eq_true hm
          have HV2 : Hid (findT t i (s :: L) = (0, 8)) := Lib.hid (by rw [HV1.out, if_pos hm])
          clear hm
          go_wp2_with fail
          refine bodyPost_ret (by simp [results, Tryd.results39, go_sem]; try rfl) rfl ?_
          rw [HV2.out]
          exact ⟨rfl, HB2.out⟩
        · have d1 : decide (m < 0) = false := decide_eq_false hm
          have hlt := HFC.out (by omega)
          obtain ⟨m', rfl⟩ : ∃ m' : Nat, m = (m' : Int) := ⟨m.toNat, by omega⟩
          have HV2 : Hid (findT t i (s :: L) = findT t m' L) := Lib.hid (by rw [HV1.out, if_neg hm])
          have u2 := HPX.out w2 HBX2.out
          obtain ⟨o9, ho9⟩ : ∃ o9, (d = 1 ∧ o9 = ob ∨ d ≠ 1 ∧ o9 = ob + 1) := by
            by_cases h : d = 1
            · exact ⟨_, .inl ⟨h, rfl⟩⟩
            · exact ⟨_, .inr ⟨h, rfl⟩⟩
          have HO9 := Lib.hid ho9
          have HS9 : Hid (∀ w1, Below w.heap.size w w1 → SLo w1 (some ⟨b, o9, none⟩) L) := Lib.hid (by
            rcases ho9 with ⟨h, h9⟩ | ⟨h, h9⟩
            · have : L = [] := List.eq_nil_of_length_eq_zero (by simp at hd; omega)
              intro w1 _ hn
              exact absurd this hn
            · rw [h9]; exact HSW.out)
          clear ho9
          have HI2 := Lib.hid (fun w1 (hb : Below w.heap.size w w1) => HI.out m' (by omega) (by simp at hL; omega) (some ⟨b, o9, none⟩) (d - 1) (by simp at hd; omega) (by omega) w1 (HTW.out w1 hb) (HS9.out w1 hb))
          have l1 : ((1 : Int) ≤ (L.length : Int) + 1) := by omega
          have l2 : ((L.length : Int) + 1 ≤ (d : Int)) := by simp at hd; omega
          have HSU : Hid (∀ U, Below w2.heap.size w2 U → U.cell? ⟨P, 0, none⟩ = some (.slice (some ⟨B, o, none⟩) t.length c)) := Lib.hid fun U hU => HPX.out U (HBX2.out.trans (hU.mono HBX2.out.size))
          clear hm hlt
          go_upto_region 9 with fail
          refine region_st (fun j v w' => match j with | 0 => v = .agg #[.slice (some ⟨B, o, none⟩) t.length c] | 1 => v = .int .i64 (m' : Nat) | 2 => v = .slice (some ⟨b, ob, none⟩) (L.length + 1) d | 3 => v = .slice (some ⟨b, o9, none⟩) L.length (d - 1) | 4 => v = .tuple #[.int .i64 (findT t m' L).1, .int .i64 (findT t m' L).2] | 5 => v = .int .i64 (findT t m' L).1 | 6 => v = .int .i64 (findT t m' L).2 | 7 => v = .int .i64 (findT t m' L).1 | 8 => v = .int .i64 (findT t m' L).2 | _ => True) (fun _ w' => Below w2.heap.size w2 w') (fun w1 w2 => Below w1.heap.size w1 w2) (by kernel_rfl) (by kernel_rfl) (by kernel_rfl) ?hR ?hG ?hops ?hend
          case hR =>
            intro j v w1 w2 hv hb
            match j, hv with
            | 0, hv => exact hv
            | 1, hv => exact hv
            | 2, hv => exact hv
            | 3, hv => exact hv
            | 4, hv => exact hv
            | 5, hv => exact hv
            | 6, hv => exact hv
            | 7, hv => exact hv
            | 8, hv => exact hv
            | _ + 9, _ => exact trivial
          case hG => exact (Below.refl _ _).drew
          case hops =>
            refine OpsOkS.cons ?o0 (OpsOkS.cons ?o1 (OpsOkS.cons ?o2 (OpsOkS.cons ?o3 (OpsOkS.cons ?o4 (OpsOkS.cons ?o5 (OpsOkS.cons ?o6 (OpsOkS.cons ?o7 (OpsOkS.cons ?o8 OpsOkS.nil))))))))
            case o0 =>
              intro a w1 Kx hG need old hsz fresh hKx
              have e0 : a.tmps[3]?.getD undef = .pointer (some ⟨P, 0, none⟩) := by rw [← Array.getD_eq_getD_getElem?]; exact old 3 (by kernel_rfl)
              have j0 := HSU.out w1 hG
              refine op_value (v := .agg #[.slice (some ⟨B, o, none⟩) t.length c]) (wanted_none rfl) ?_ (hKx _ w1 rfl hG (Below.refl _ _))
              simp [execOp, go_sem, e0, j0]
            case o1 =>
              intro a w1 Kx hG need old hsz fresh hKx
              have e0 : a.tmps[9]?.getD undef = .int .i64 (m' : Nat) := by rw [← Array.getD_eq_getD_getElem?]; exact old 9 (by kernel_rfl)
              refine op_value (v := .int .i64 (m' : Nat)) (wanted_none rfl) ?_ (hKx _ w1 rfl hG (Below.refl _ _))
              simp [execOp, go_sem, e0]
            case o2 =>
              intro a w1 Kx hG need old hsz fresh hKx
              have e0 : a.tmps[2]?.getD undef = .slice (some ⟨b, ob, none⟩) (L.length + 1) d := by rw [← Array.getD_eq_getD_getElem?]; exact old 2 (by kernel_rfl)
              refine op_value (v := .slice (some ⟨b, ob, none⟩) (L.length + 1) d) (wanted_none rfl) ?_ (hKx _ w1 rfl hG (Below.refl _ _))
              simp [execOp, go_sem, e0]
            case o3 =>
              intro a w1 Kx hG need old hsz fresh hKx
              have e0 : a.tmps[32]?.getD undef = .slice (some ⟨b, ob, none⟩) (L.length + 1) d := by rw [← Array.getD_eq_getD_getElem?]; exact (need 2 (by kernel_rfl) (by kernel_rfl))
              refine op_value (v := .slice (some ⟨b, o9, none⟩) L.length (d - 1)) (wanted_none rfl) ?_ (hKx _ w1 rfl hG (Below.refl _ _))
              rcases HO9.out with ⟨h, h9⟩ | ⟨h, h9⟩ <;> simp [execOp, go_sem, e0, l1, h, h9]
            case o4 =>
              intro a w1 Kx hG need old hsz fresh hKx
              have e0 : a.tmps[30]?.getD undef = .agg #[.slice (some ⟨B, o, none⟩) t.length c] := by rw [← Array.getD_eq_getD_getElem?]; exact (need 0 (by kernel_rfl) (by kernel_rfl))
              have e1 : a.tmps[31]?.getD undef = .int .i64 (m' : Nat) := by rw [← Array.getD_eq_getD_getElem?]; exact (need 1 (by kernel_rfl) (by kernel_rfl))
              have e2 : a.tmps[33]?.getD undef = .slice (some ⟨b, o9, none⟩) L.length (d - 1) := by rw [← Array.getD_eq_getD_getElem?]; exact (need 3 (by kernel_rfl) (by kernel_rfl))
              refine op_call (wanted_none rfl) (f := 39) (args := #[.agg #[.slice (some ⟨B, o, none⟩) t.length c], .int .i64 (m' : Nat), .slice (some ⟨b, o9, none⟩) L.length (d - 1)]) ?run ((HI2.out w1 (HB2.out.trans (hG.mono HB2.out.size))).mono ?post)
              case run => simp [go_sem, e0, e1, e2]
              case post =>
                rintro e w2 ⟨rfl, hb2⟩
                exact ⟨_, rfl, hKx _ w2 rfl (hG.trans (hb2.mono hG.size)) hb2⟩
            case o5 =>
              intro a w1 Kx hG need old hsz fresh hKx
              have e0 : a.tmps[34]?.getD undef = .tuple #[.int .i64 (findT t m' L).1, .int .i64 (findT t m' L).2] := by rw [← Array.getD_eq_getD_getElem?]; exact (need 4 (by kernel_rfl) (by kernel_rfl))
              refine op_value (v := .int .i64 (findT t m' L).1) (wanted_none rfl) ?_ (hKx _ w1 rfl hG (Below.refl _ _))
              simp [execOp, go_sem, e0]
            case o6 =>
              intro a w1 Kx hG need old hsz fresh hKx
              have e0 : a.tmps[34]?.getD undef = .tuple #[.int .i64 (findT t m' L).1, .int .i64 (findT t m' L).2] := by rw [← Array.getD_eq_getD_getElem?]; exact (need 4 (by kernel_rfl) (by kernel_rfl))
              refine op_value (v := .int .i64 (findT t m' L).2) (wanted_none rfl) ?_ (hKx _ w1 rfl hG (Below.refl _ _))
              simp [execOp, go_sem, e0]
            case o7 =>
              intro a w1 Kx hG need old hsz fresh hKx
              have e0 : a.tmps[35]?.getD undef = .int .i64 (findT t m' L).1 := by rw [← Array.getD_eq_getD_getElem?]; exact (need 5 (by kernel_rfl) (by kernel_rfl))
              refine op_value (v := .int .i64 (findT t m' L).1) (wanted_none rfl) ?_ (hKx _ w1 rfl hG (Below.refl _ _))
              simp [execOp, go_sem, e0]
            case o8 =>
              intro a w1 Kx hG need old hsz fresh hKx
              have e0 : a.tmps[36]?.getD undef = .int .i64 (findT t m' L).2 := by rw [← Array.getD_eq_getD_getElem?]; exact (need 6 (by kernel_rfl) (by kernel_rfl))
              refine op_value (v := .int .i64 (findT t m' L).2) (wanted_none rfl) ?_ (hKx _ w1 rfl hG (Below.refl _ _))
              simp [execOp, go_sem, e0]
          case hend =>
            intro a w6 hG hde hsz hφ hold
            obtain rfl := act_puts [(30, .agg #[.slice (some ⟨B, o, none⟩) t.length c]), (31, .int .i64 (m' : Nat)), (32, .slice (some ⟨b, ob, none⟩) (L.length + 1) d), (33, .slice (some ⟨b, o9, none⟩) L.length (d - 1)), (34, .tuple #[.int .i64 (findT t m' L).1, .int .i64 (findT t m' L).2]), (35, .int .i64 (findT t m' L).1), (36, .int .i64 (findT t m' L).2), (6, .int .i64 (findT t m' L).1), (7, .int .i64 (findT t m' L).2)] [30, 31, 32, 33, 34, 35, 36, 6, 7] rfl (by kernel_rfl) (by kernel_rfl) hde hsz (List.forall_mem_cons.2 ⟨(show a.tmps.getD 30 undef = .agg #[.slice (some ⟨B, o, none⟩) t.length c] from (hφ 0 (by kernel_rfl))), (List.forall_mem_cons.2 ⟨(show a.tmps.getD 31 undef = .int .i64 (m' : Nat) from (hφ 1 (by kernel_rfl))), (List.forall_mem_cons.2 ⟨(show a.tmps.getD 32 undef = .slice (some ⟨b, ob, none⟩) (L.length + 1) d from (hφ 2 (by kernel_rfl))), (List.forall_mem_cons.2 ⟨(show a.tmps.getD 33 undef = .slice (some ⟨b, o9, none⟩) L.length (d - 1) from (hφ 3 (by kernel_rfl))), (List.forall_mem_cons.2 ⟨(show a.tmps.getD 34 undef = .tuple #[.int .i64 (findT t m' L).1, .int .i64 (findT t m' L).2] from (hφ 4 (by kernel_rfl))), (List.forall_mem_cons.2 ⟨(show a.tmps.getD 35 undef = .int .i64 (findT t m' L).1 from (hφ 5 (by kernel_rfl))), (List.forall_mem_cons.2 ⟨(show a.tmps.getD 36 undef = .int .i64 (findT t m' L).2 from (hφ 6 (by kernel_rfl))), (List.forall_mem_cons.2 ⟨(show a.tmps.getD 6 undef = .int .i64 (findT t m' L).1 from (hφ 7 (by kernel_rfl))), (List.forall_mem_cons.2 ⟨(show a.tmps.getD 7 undef = .int .i64 (findT t m' L).2 from (hφ 8 (by kernel_rfl))), (fun _ h => absurd h (by simp))⟩)⟩)⟩)⟩)⟩)⟩)⟩)⟩)⟩) hold
            clear hφ hold hsz hde
            simp only [putAll]
            go_frame
            go_wp2_with fail
            refine bodyPost_ret (by simp [results, Tryd.results39, go_sem]; try rfl) rfl ?_
            rw [HV2.out]
            exact ⟨rfl, HB2.out.trans (hG.mono HB2.out.size)⟩
termination_by L => L.length
end Go.Proofs.YtfboilbmehcgoaaDoor

/- Package dir: Find, Parent. -/
namespace Go.Proofs.YtfboilbmehcgoaaDoor
open Go.RowKit Go.Lib

def bL (l : List UInt8) : ByteArray := ⟨l.toArray⟩
theorem bL_data (l : List UInt8) : (bL l).data.toList = l := by simp [bL]
theorem bL_back (s : ByteArray) : bL s.data.toList = s := byte_ext (bL_data _)
theorem bL_map (L : List ByteArray) : (L.map (·.data.toList)).map bL = L := by
  rw [List.map_map]
  conv => rhs; rw [← List.map_id L]
  exact List.map_congr_left fun s _ => bL_back s
/-- What Find tells. -/
def findS (t : List Nd) (s : ByteArray) : Int × Int :=
  if mayT t = true then (match splitL s.data.toList with | none => (0, 7) | some L => findT t 0 (L.map bL)) else (0, 1)
theorem findT_in {t : List Nd} (hE : InT t) : ∀ (L : List ByteArray) (i : Int), 0 ≤ i → i < (t.length : Int) → 0 ≤ (findT t i L).1 ∧ (findT t i L).1 < (t.length : Int)
  | [], i, h0, h1 => ⟨h0, h1⟩
  | s :: L, i, h0, h1 => by
    rw [findT]
    split
    · split
      · exact ⟨Int.le_refl _, by show (0 : Int) < _; omega⟩
      · next h =>
        have h2 : findE (at_ t i.toNat).en s < (t.length : Int) := by
          rcases findE_cases (at_ t i.toNat).en s with e | ⟨x, hx, e⟩
          · omega
          · rw [← e]; exact (hE _ x hx).2
        exact findT_in hE L _ (by omega) h2
    · exact ⟨Int.le_refl _, by show (0 : Int) < _; omega⟩
/-- What a tree that may be gives to who goes along. -/
theorem MayT.ens {t : List Nd} (h : MayT t) : ∀ i, (at_ t i).en.length ≤ 100 := fun i => by
  by_cases hi : i < t.length
  · have := (mayNd_sizes (h.node i hi)).2; omega
  · unfold at_
    rw [List.getD_eq_getElem?_getD, List.getElem?_eq_none (by omega)]
    simp
set_option maxHeartbeats 4000000 in
set_option maxRecDepth 100000 in
theorem findSl_any (t : List Nd) (A : Option Addr) (c : Nat) (r : Nat → NAddr) (s : ByteArray) (w : World) (h : TLies w A c t r) : Calls Tryd.prog 17 #[.agg #[.slice A t.length c], .string s] w fun x w' => x = .returned (.tuple #[.int .i64 (findS t s).1, .int .i64 (findS t s).2]) ∧ Below w.heap.size w w' := by
  have HTW := Lib.hid (fun w1 (hb : Below w.heap.size w w1) => h.below hb)
  obtain ⟨P, hP⟩ : ∃ P, P = w.heap.size := ⟨_, rfl⟩
  have HBA := Lib.hid ((Below.refl w.heap.size w).alloc (Nat.le_refl _) (.cells #[.slice A t.length c] 24))
  have HXA := Lib.hid (heap_alloc_new w (.cells #[.slice A t.length c] 24))
  rw [← hP] at HXA
  have HPX : Hid (∀ w1, Below (w.alloc (.cells #[.slice A t.length c] 24)).heap.size (w.alloc (.cells #[.slice A t.length c] 24)) w1 → w1.cell? ⟨P, 0, none⟩ = some (.slice A t.length c)) := Lib.hid fun w1 hb => (tbox_cell ((hb.block P (by rw [hP]; simp)).trans HXA.out)).1
  have HMY := Lib.hid (fun w1 (hb : Below w.heap.size w w1) => mayl_any t A c r w1 (HTW.out w1 hb))
  have HSP := Lib.hid (fun w1 => split_two s w1)
  clear h
  by_cases hm : mayT t = true
  rotate_left
  · have hm' : mayT t = false := by simpa using hm
    have HV : Hid (findS t s = (0, 1)) := Lib.hid (by unfold findS; rw [if_neg hm])
    rw [hm'] at HMY
    clear hm hm'
    go_enter Tryd.func17, Tryd.ntmps17
    go_upto_region 1 with fail
    rw [← hP]
    generalize w.alloc _ = W at HBA HXA HPX ⊢
    clear hP
    have u0 := HPX.out W (Below.refl _ _)
    go_wp2_with (first
      | (go_at_call 14; (with_reducible refine (HMY.out _ HBA.out).mono ?_); rintro e w1 ⟨rfl, hb1⟩; have HB1 := Lib.hid (HBA.out.trans (hb1.mono HBA.out.size)); clear hb1)
      | fail)
    refine bodyPost_ret (by simp [results, Tryd.results17, go_sem]; try rfl) rfl ?_
    rw [HV.out]
    exact ⟨rfl, HB1.out⟩
  have HM := Lib.hid (mayT_iff.1 hm)
  have HV : Hid (findS t s = (match splitL s.data.toList with | none => (0, 7) | some L => findT t 0 (L.map bL))) := Lib.hid (by unfold findS; rw [if_pos hm])
  rw [hm] at HMY
  have HFD : Hid (∀ (L : List ByteArray), L.length ≤ 61 → ∀ q w1, Below w.heap.size w w1 → SLo w1 q L → Calls Tryd.prog 39 #[.agg #[.slice A t.length c], .int .i64 0, .slice q L.length L.length] w1 fun x w' => x = .returned (.tuple #[.int .i64 (findT t 0 L).1, .int .i64 (findT t 0 L).2]) ∧ Below w1.heap.size w1 w') := Lib.hid (fun L hL q w1 hb hs => findl_any t A c r HM.out.inT.1 HM.out.ens (by have := HM.out.len; omega) L 0 (by have := HM.out.len; omega) (by omega) q L.length (Nat.le_refl _) (by unfold maxLen; omega) w1 (HTW.out w1 hb) hs)
  clear hm
  go_enter Tryd.func17, Tryd.ntmps17
  go_upto_region 1 with fail
  rw [← hP]
  generalize w.alloc _ = W at HBA HXA HPX ⊢
  clear hP
  have u0 := HPX.out W (Below.refl _ _)
  go_upto_region 4 with (first
    | (go_at_call 14; (with_reducible refine (HMY.out _ HBA.out).mono ?_); rintro e w1 ⟨rfl, hb1⟩; have HB0 := Lib.hid hb1; have HB1 := Lib.hid (HBA.out.trans (hb1.mono HBA.out.size)); clear hb1)
    | (go_at_call 38; (with_reducible refine (HSP.out _).mono ?_); rintro e w2 ⟨q, L, rr, rfl, hb2, hl61, hsl, hcase⟩; have HL61 := Lib.hid hl61; have HCA := Lib.hid hcase; have HSL := Lib.hid hsl.o; have HB20 := Lib.hid (HB0.out.trans (hb2.mono HB0.out.size)); have HB2 := Lib.hid (HB1.out.trans (hb2.mono HB1.out.size)); clear hb2 hcase hsl hl61)
    | fail)
  clear u0
  have u2 := HPX.out w2 HB20.out
  rcases HCA.out with ⟨rfl, rfl, rfl, hN⟩ | ⟨rfl, hS⟩
  · have HV2 : Hid (findS t s = (0, 7)) := Lib.hid (by rw [HV.out, hN])
    clear hN
    go_wp2_with fail
    refine bodyPost_ret (by simp [results, Tryd.results17, go_sem]; try rfl) rfl ?_
    rw [HV2.out]
    exact ⟨rfl, HB2.out⟩
  · have HV2 : Hid (findS t s = findT t 0 L) := Lib.hid (by
      rw [HV.out, hS]
      show findT t 0 ((L.map (·.data.toList)).map bL) = _
      rw [bL_map])
    clear hS
    go_wp2_with (first
      | (go_at_call 39; (with_reducible refine (HFD.out L HL61.out q _ HB2.out HSL.out).mono ?_); rintro e w3 ⟨rfl, hb3⟩; have HB3 := Lib.hid (HB2.out.trans (hb3.mono HB2.out.size)); clear hb3)
      | fail)
    refine bodyPost_ret (by simp [results, Tryd.results17, go_sem]; try rfl) rfl ?_
    rw [HV2.out]
    exact ⟨rfl, HB3.out⟩
theorem findS_in {t : List Nd} (h : MayT t) (s : ByteArray) : 0 ≤ (findS t s).1 ∧ (findS t s).1 < (t.length : Int) := by
  have hl := h.len
  unfold findS
  rw [if_pos (mayT_iff.2 h)]
  split
  · exact ⟨Int.le_refl _, by show (0 : Int) < _; omega⟩
  · exact findT_in h.inT.1 _ 0 (Int.le_refl _) (by omega)
end Go.Proofs.YtfboilbmehcgoaaDoor

/- Package dir: Parent. -/
namespace Go.Proofs.YtfboilbmehcgoaaDoor
open Go.RowKit Go.Lib

def noB : ByteArray := ⟨#[]⟩
/-- What Parent tells. -/
def parentS (t : List Nd) (s : ByteArray) : Int × ByteArray × Int :=
  if mayT t = true then (match splitL s.data.toList with
    | none => (0, noB, 7)
    | some L => if L = [] then (0, noB, 18) else
      if (findS t (joinB (L.dropLast.map bL))).2 ≠ 0 then (0, noB, (findS t (joinB (L.dropLast.map bL))).2)
      else if (at_ t (findS t (joinB (L.dropLast.map bL))).1.toNat).k ≠ 2 then (0, noB, 11)
      else ((findS t (joinB (L.dropLast.map bL))).1, bL (L.getLastD []), 0))
  else (0, noB, 1)
set_option maxHeartbeats 4000000 in
set_option maxRecDepth 100000 in
theorem parentl_any (t : List Nd) (A : Option Addr) (c : Nat) (r : Nat → NAddr) (s : ByteArray) (w : World) (h : TLies w A c t r) : Calls Tryd.prog 18 #[.agg #[.slice A t.length c], .string s] w fun x w' => x = .returned (.tuple #[.int .i64 (parentS t s).1, .string (parentS t s).2.1, .int .i64 (parentS t s).2.2]) ∧ Below w.heap.size w w' := by
  have HTW := Lib.hid (fun w1 (hb : Below w.heap.size w w1) => h.below hb)
  obtain ⟨P, hP⟩ : ∃ P, P = w.heap.size := ⟨_, rfl⟩
  have HBA := Lib.hid ((Below.refl w.heap.size w).alloc (Nat.le_refl _) (.cells #[.slice A t.length c] 24))
  have HXA := Lib.hid (heap_alloc_new w (.cells #[.slice A t.length c] 24))
  rw [← hP] at HXA
  have HPX : Hid (∀ w1, Below (w.alloc (.cells #[.slice A t.length c] 24)).heap.size (w.alloc (.cells #[.slice A t.length c] 24)) w1 → w1.cell? ⟨P, 0, none⟩ = some (.slice A t.length c)) := Lib.hid fun w1 hb => (tbox_cell ((hb.block P (by rw [hP]; simp)).trans HXA.out)).1
  have HMY := Lib.hid (fun w1 (hb : Below w.heap.size w w1) => mayl_any t A c r w1 (HTW.out w1 hb))
  have HLA := Lib.hid (fun w1 => last_any s w1)
  have HFS := Lib.hid (fun x w1 (hb : Below w.heap.size w w1) => findSl_any t A c r x w1 (HTW.out w1 hb))
  clear h
  by_cases hm : mayT t = true
  rotate_left
  · have hm' : mayT t = false := by simpa using hm
    have HV : Hid (parentS t s = (0, noB, 1)) := Lib.hid (by unfold parentS; rw [if_neg hm])
    rw [hm'] at HMY
    clear hm hm'
    go_enter Tryd.func18, Tryd.ntmps18
    go_upto_region 1 with fail
    rw [← hP]
    generalize w.alloc _ = W at HBA HXA HPX ⊢
    clear hP
    have u0 := HPX.out W (Below.refl _ _)
    go_wp2_with (first
      | (go_at_call 14; (with_reducible refine (HMY.out _ HBA.out).mono ?_); rintro e w1 ⟨rfl, hb1⟩; have HB1 := Lib.hid (HBA.out.trans (hb1.mono HBA.out.size)); clear hb1)
      | fail)
    refine bodyPost_ret (by simp [results, Tryd.results18, go_sem]; try rfl) rfl ?_
    rw [HV.out]
    exact ⟨rfl, HB1.out⟩
  have HM := Lib.hid (mayT_iff.1 hm)
  have HV : Hid (parentS t s = (match splitL s.data.toList with
    | none => (0, noB, 7)
    | some L => if L = [] then (0, noB, 18) else
      if (findS t (joinB (L.dropLast.map bL))).2 ≠ 0 then (0, noB, (findS t (joinB (L.dropLast.map bL))).2)
      else if (at_ t (findS t (joinB (L.dropLast.map bL))).1.toNat).k ≠ 2 then (0, noB, 11)
      else ((findS t (joinB (L.dropLast.map bL))).1, bL (L.getLastD []), 0))) := Lib.hid (by unfold parentS; rw [if_pos hm])
  rw [hm] at HMY
  clear hm
  go_enter Tryd.func18, Tryd.ntmps18
  go_upto_region 1 with fail
  rw [← hP]
  generalize w.alloc _ = W at HBA HXA HPX ⊢
  clear hP
  have u0 := HPX.out W (Below.refl _ _)
  go_upto_region 4 with (first
    | (go_at_call 14; (with_reducible refine (HMY.out _ HBA.out).mono ?_); rintro e w1 ⟨rfl, hb1⟩; have HB0 := Lib.hid hb1; have HB1 := Lib.hid (HBA.out.trans (hb1.mono HBA.out.size)); clear hb1)
    | (go_at_call 40; (with_reducible refine (HLA.out _).mono ?_); rintro e w2 ⟨x, y, rr, rfl, hb2, hcase⟩; have HCA := Lib.hid hcase; have HB20 := Lib.hid (HB0.out.trans (hb2.mono HB0.out.size)); have HB2 := Lib.hid (HB1.out.trans (hb2.mono HB1.out.size)); clear hb2 hcase)
    | fail)
  clear u0
  have u2 := HPX.out w2 HB20.out
  rcases HCA.out with ⟨rfl, hN⟩ | ⟨rfl, hN⟩ | ⟨rfl, L, rfl, hS⟩
  · have HV2 : Hid (parentS t s = (0, noB, 7)) := Lib.hid (by rw [HV.out, hN])
    clear hN
    go_wp2_with fail
    refine bodyPost_ret (by simp [results, Tryd.results18, go_sem]; try rfl) rfl ?_
    rw [HV2.out]
    exact ⟨rfl, HB2.out⟩
  · have HV2 : Hid (parentS t s = (0, noB, 18)) := Lib.hid (by rw [HV.out, hN]; rfl)
    clear hN
    go_wp2_with fail
    refine bodyPost_ret (by simp [results, Tryd.results18, go_sem]; try rfl) rfl ?_
    rw [HV2.out]
    exact ⟨rfl, HB2.out⟩
  · have HV2 : Hid (parentS t s = if (findS t (joinB L)).2 ≠ 0 then (0, noB, (findS t (joinB L)).2) else if (at_ t (findS t (joinB L)).1.toNat).k ≠ 2 then (0, noB, 11) else ((findS t (joinB L)).1, y, 0)) := Lib.hid (by
      rw [HV.out, hS]
      have e1 : ((L ++ [y]).map (·.data.toList)).dropLast.map bL = L := by
        rw [List.map_append, List.map_cons, List.map_nil, List.dropLast_concat, bL_map]
      have e2 : bL (((L ++ [y]).map (·.data.toList)).getLastD []) = y := by
        rw [List.map_append, List.map_cons, List.map_nil, List.getLastD_concat]; exact bL_back y
      show (if (L ++ [y]).map (·.data.toList) = [] then _ else _) = _
      rw [if_neg (by simp), e1, e2])
    have hin := findS_in HM.out (joinB L)
    have HFX := Lib.hid (HFS.out (joinB L))
    generalize joinB L = x at HV2 hin HFX ⊢
    obtain ⟨f, hf⟩ : ∃ f, f = findS t x := ⟨_, rfl⟩
    rw [← hf] at HV2 hin HFX
    clear hf hS HFS
    obtain ⟨i, er⟩ := f
    dsimp only at HV2 hin HFX
    obtain ⟨m, rfl⟩ : ∃ m : Nat, i = (m : Int) := ⟨i.toNat, by omega⟩
    by_cases he : er = 0
    rotate_left
    · have b1 : (er != 0) = true := by simpa using he
      have HV3 : Hid (parentS t s = (0, noB, er)) := Lib.hid (by rw [HV2.out, if_pos he])
      clear he
      go_wp2_with (first
        | (go_at_call 17; (with_reducible refine (HFX.out _ HB2.out).mono ?_); rintro e w3 ⟨rfl, hb3⟩; have HB3 := Lib.hid (HB2.out.trans (hb3.mono HB2.out.size)); clear hb3)
        | fail)
      refine bodyPost_ret (by simp [results, Tryd.results18, go_sem]; try rfl) rfl ?_
      rw [HV3.out]
      exact ⟨rfl, HB3.out⟩
    subst he
    have HV4 : Hid (parentS t s = if (at_ t m).k ≠ 2 then (0, noB, 11) else ((m : Int), y, 0)) := Lib.hid (by rw [HV2.out, if_neg (by simp), Int.toNat_natCast])
    have hml : m < t.length := by omega
    obtain ⟨B, o, hA, hBs, hc0, -⟩ := (HTW.out w (Below.refl _ _)).node hml
    subst hA
    have HC0 : Hid (∀ w1, Below w.heap.size w w1 → w1.cell? ⟨B, o + m * 5, none⟩ = some (.int .i64 (at_ t m).k)) := Lib.hid fun w1 hb => (hb.cell (p := ⟨B, o + m * 5, none⟩) hBs).trans hc0.c0
    clear hc0
    obtain ⟨k, hk⟩ : ∃ k, k = (at_ t m).k := ⟨_, rfl⟩
    rw [← hk] at HC0 HV4
    clear hk hin
    go_upto_region 9 with (first
      | (go_at_call 17; (with_reducible refine (HFX.out _ HB2.out).mono ?_); rintro e w3 ⟨rfl, hb3⟩; have HB30 := Lib.hid (HB20.out.trans (hb3.mono HB20.out.size)); have HB3 := Lib.hid (HB2.out.trans (hb3.mono HB2.out.size)); clear hb3)
      | fail)
    have u3 := HPX.out w3 HB30.out
    have c3 := HC0.out w3 HB3.out
    clear u2
    by_cases h2 : k = 2
    · subst h2
      go_wp2_with fail
      refine bodyPost_ret (by simp [results, Tryd.results18, go_sem]; try rfl) rfl ?_
      rw [HV4.out]
      exact ⟨rfl, HB3.out⟩
    · have b2 : (k != 2) = true := by simpa using h2
      have HV5 : Hid (parentS t s = (0, noB, 11)) := Lib.hid (by rw [HV4.out, if_pos h2])
      clear h2
      go_wp2_with fail
      refine bodyPost_ret (by simp [results, Tryd.results18, go_sem]; try rfl) rfl ?_
      rw [HV5.out]
      exact ⟨rfl, HB3.out⟩
end Go.Proofs.YtfboilbmehcgoaaDoor

/- DirFrees, DirInside, over what the landed calls are asked to answer. -/
namespace Go.Proofs.YtfboilbmehcgoaaDoor
open Go.RowKit Go.Lib

theorem sumW_le (l : List Ent) (hl : l.length ≤ 60) (h : ∀ e ∈ l, e.1.size ≤ 8) : 0 ≤ sumW l ∧ sumW l ≤ 8 * (l.length : Int) := by
  have key : ∀ j : Nat, j ≤ l.length → 0 ≤ sumW (l.take j) ∧ sumW (l.take j) ≤ 8 * (j : Int) := by
    intro j
    induction j with
    | zero => intro _; exact ⟨by simp [sumW], by simp [sumW]⟩
    | succ j ih =>
      intro hj
      have h1 := ih (by omega)
      rw [List.take_succ_eq_append_getElem (by omega), sumW_snoc]
      have h8 := h l[j] (List.getElem_mem _)
      rw [i64w_idE _ (by omega)]
      omega
  have := key l.length (Nat.le_refl _)
  rwa [List.take_length] at this
theorem may_light {n : Nd} (h : mayNd n = true) : lightN n = 0 := by
  have h5 := may_len5 h
  unfold lightN
  rw [if_neg (by omega)]
  unfold lightV
  have hen : n.en.length ≤ 10 ∧ ∀ e ∈ n.en, e.1.size ≤ 8 := by
    unfold mayNd at h
    split at h
    · simp only [Bool.and_eq_true, decide_eq_true_eq] at h
      rw [List.eq_nil_of_length_eq_zero h.2.2.2]; simp
    · split at h
      · simp only [Bool.and_eq_true, decide_eq_true_eq] at h
        obtain ⟨h1, h2, _⟩ := mayEs_iff.1 h.2.2.2
        refine ⟨h1, fun e he => ?_⟩
        have h3 := h2 e he
        unfold mayE at h3
        simp only [Bool.and_eq_true, decide_eq_true_eq] at h3
        have h4 := h3.1.1
        unfold mayL at h4
        simp only [Bool.and_eq_true, decide_eq_true_eq] at h4
        have : e.1.size = e.1.data.toList.length := Array.length_toList.symm
        omega
      · split at h
        · rw [List.eq_nil_of_length_eq_zero (mayFl_at h).2.2.2.2.2.1]; simp
        · cases h
  have := sumW_le n.en (by omega) hen.2
  rw [if_pos ⟨by omega, by omega⟩]
theorem mayT_light {t : List Nd} (h : 0 < lightT t) : mayT t = false := may_not fun hm => by
  have hl := hm.len
  unfold lightT at h
  rw [if_neg (by omega)] at h
  have key : ∀ l : List Nd, (∀ n ∈ l, lightN n = 0) → sumLt l = 0 := by
    intro l
    induction l with
    | nil => intro _; rfl
    | cons n l ih =>
      intro hh
      rw [sumLt, hh n (by simp), ih (fun x hx => hh x (by simp [hx]))]; rfl
  rw [key t (fun n hn => by
    obtain ⟨i, hi, rfl⟩ := mem_at hn
    exact may_light (hm.node i hi))] at h
  omega
def freeI : Nat → List Nd → Int
  | _, [] => -1
  | i, n :: t => if n.k = 0 then (i : Int) else freeI (i + 1) t
def freeT (t : List Nd) : Int := if mayT t = true then freeI 0 t else -1
theorem freeI_spec : ∀ (i : Nat) (t : List Nd), (freeI i t = -1 ∧ ∀ n ∈ t, n.k ≠ 0) ∨ ∃ j, ∃ h : j < t.length, freeI i t = ((i + j : Nat) : Int) ∧ t[j].k = 0 ∧ ∀ j' (h' : j' < j), (t[j']'(by omega)).k ≠ 0
  | i, [] => .inl ⟨rfl, by simp⟩
  | i, n :: t => by
    rw [freeI]
    by_cases h : n.k = 0
    · rw [if_pos h]
      exact .inr ⟨0, by simp, by simp, by simpa using h, fun j' h' => by omega⟩
    · rw [if_neg h]
      rcases freeI_spec (i + 1) t with ⟨h1, h2⟩ | ⟨j, hj, h1, h2, h3⟩
      · refine .inl ⟨h1, fun x hx => ?_⟩
        rcases List.mem_cons.1 hx with rfl | hx
        · exact h
        · exact h2 x hx
      · refine .inr ⟨j + 1, by simpa using hj, by rw [h1]; congr 1; omega, by simpa using h2, fun j' h' => ?_⟩
        cases j' with
        | zero => simpa using h
        | succ j' => simpa using h3 j' (by omega)
/-- A tree that can be gone through. -/
abbrev LightT (t : List Nd) : Prop := t.length ≤ 40 ∧ ∀ n ∈ t, n.sq.length ≤ 60 ∧ n.en.length ≤ 60
set_option maxRecDepth 100000 in
set_option maxHeartbeats 8000000 in
theorem frees_law
    (land : ∀ (t : List Nd) (A : Option Addr) (c : Nat) (r : Nat → NAddr) (w : World), TLies w A c t r → LightT t → Calls Tryd.prog 23 #[.agg #[.slice A t.length c]] w fun x w' => x = .returned (.int .i64 (freeT t)) ∧ Below w.heap.size w w')
    (awk : ∀ w : World, Calls Tryd.prog 10 #[] w fun x w' => x = .returned (.bool true) ∧ Below w.heap.size w w')
    (t : List Nd) (A : Option Addr) (c : Nat) (r : Nat → NAddr) (w : World) (h : TLies w A c t r) : Calls Tryd.prog 7 #[.agg #[.slice A t.length c]] w fun x w' => x = .returned (.bool true) ∧ Below w.heap.size w w' := by
  have hsm := h.sm
  have hmx : maxLen = 9223372036854775807 := rfl
  have HH := Lib.hid h
  have HLC := Lib.hid (lightT_cases t)
  have HL0 := Lib.hid (fun h => mayT_light (t := t) h)
  have HBA := Lib.hid ((Below.refl w.heap.size w).alloc (Nat.le_refl _) (.cells #[.slice A t.length c] 24))
  have HX := Lib.hid (heap_alloc_new w (.cells #[.slice A t.length c] 24))
  have HLA := Lib.hid (fun w1 h => lightT_any t A c r w1 h)
  have HMY := Lib.hid (fun w1 h => mayTr_any t A c r w1 h)
  have HFR := Lib.hid (fun w1 h hl => land t A c r w1 h hl)
  have HAW := Lib.hid awk
  have HFT : Hid (mayT t = true → freeT t = freeI 0 t) := Lib.hid fun h => if_pos h
  have HMT : Hid (mayT t = true → t.length = 12 ∧ (at_ t 0).k = 2) := Lib.hid fun h => ⟨(mayT_iff.1 h).len, (mayT_iff.1 h).root⟩
  clear h land awk
  obtain ⟨M, hM⟩ : ∃ M, mayT t = M := ⟨_, rfl⟩
  obtain ⟨LA, hLA⟩ : ∃ L, lightT t = L := ⟨_, rfl⟩
  rw [hM] at HL0 HMY HFT HMT
  rw [hLA] at HLC HL0 HLA
  clear hM hLA
  go_enter Tryd.func7, Tryd.ntmps7
  go_upto_region 1 with (fail)
  generalize w.alloc _ = W at HBA HX ⊢
  obtain ⟨P, hP⟩ : ∃ P, P = w.heap.size := ⟨_, rfl⟩
  rw [← hP] at HX ⊢
  clear hP
  have HTL : Hid (∀ w1, Below W.heap.size W w1 → TLies w1 A c t r) := Lib.hid fun w1 hb => (HH.out.below HBA.out).below hb
  have HPX : Hid (∀ w1, Below W.heap.size W w1 → w1.cell? ⟨P, 0, none⟩ = some (.slice A t.length c)) := Lib.hid fun w1 hb => by
    have := (hb.block P (lt_size HX.out)).trans HX.out
    simp [World.cell?, this]
  have q0 := HPX.out W (Below.refl _ _)
  have out : Hid (M = false → ∀ LX : Int, 0 ≤ LX → LX = LA → True) := Lib.hid fun _ _ _ _ => trivial
  clear out
  rcases HLC.out with ⟨rfl, hl⟩ | hpos
  case inr =>
    have HMF := Lib.hid (HL0.out hpos)
    have hMF := HMF.out
    subst hMF
    have b1 : decide (0 < LA) = true := decide_eq_true hpos
    clear hpos
    go_wp2_with (first
      | (go_at_call 9; (with_reducible refine (HLA.out _ (HTL.out _ (Below.refl _ _))).mono ?_); rintro e w1 ⟨rfl, hb1⟩; replace hb1 := Lib.hid hb1; have q1 := HPX.out _ hb1.out)
      | (go_at_call 15; (with_reducible refine (HMY.out _ (HTL.out _ hb1.out)).mono ?_); rintro e w2 ⟨rfl, hb2⟩; replace hb2 := Lib.hid (hb1.out.trans (hb2.mono hb1.out.size)))
      | (go_at_call 10; (with_reducible refine (HAW.out _).mono ?_); rintro e w3 ⟨rfl, hb3⟩; replace hb3 := Lib.hid (hb2.out.trans (hb3.mono hb2.out.size)))
      | fail)
    go_ret
    exact ⟨rfl, HBA.out.trans (hb3.out.mono HBA.out.size)⟩
  have HLT : Hid (LightT t) := Lib.hid hl
  clear hl
  cases M with
  | false =>
    go_wp2_with (first
      | (go_at_call 9; (with_reducible refine (HLA.out _ (HTL.out _ (Below.refl _ _))).mono ?_); rintro e w1 ⟨rfl, hb1⟩; replace hb1 := Lib.hid hb1; have q1 := HPX.out _ hb1.out)
      | (go_at_call 15; (with_reducible refine (HMY.out _ (HTL.out _ hb1.out)).mono ?_); rintro e w2 ⟨rfl, hb2⟩; replace hb2 := Lib.hid (hb1.out.trans (hb2.mono hb1.out.size)); have q2 := HPX.out _ hb2.out; have hz2 := hb2)
      | (go_at_call 15; (with_reducible refine (HMY.out _ (HTL.out _ hz2.out)).mono ?_); rintro e w4 ⟨rfl, hb4⟩; replace hb4 := Lib.hid (hz2.out.trans (hb4.mono hz2.out.size)))
      | (go_at_call 10; (with_reducible refine (HAW.out _).mono ?_); rintro e w3 ⟨rfl, hb3⟩; replace hb3 := Lib.hid (hb4.out.trans (hb3.mono hb4.out.size)))
      | fail)
    go_ret
    exact ⟨rfl, HBA.out.trans (hb3.out.mono HBA.out.size)⟩
  | true =>
    rw [HFT.out rfl] at HFR
    obtain ⟨h12, h0k⟩ := HMT.out rfl
    have HSP : Hid ((freeI 0 t = -1 ∧ ∀ i, i < t.length → (at_ t i).k ≠ 0) ∨ ∃ j, 0 < j ∧ j < t.length ∧ freeI 0 t = (j : Int) ∧ (at_ t j).k = 0 ∧ ∀ i, i < j → (at_ t i).k ≠ 0) := Lib.hid (by
      rcases freeI_spec 0 t with ⟨h1, h2⟩ | ⟨j, hj, h1, h2, h3⟩
      · exact .inl ⟨h1, fun i hi => h2 _ (at_mem hi)⟩
      · refine .inr ⟨j, ?_, hj, by simpa using h1, by rw [at_lt hj]; exact h2, fun i hi => by rw [at_lt (by omega)]; exact h3 i hi⟩
        by_cases e : j = 0
        · subst e
          rw [at_lt hj, h2] at h0k
          omega
        · omega)
    generalize freeI 0 t = F at HFR HSP
    have H12 := Lib.hid h12
    clear h12 h0k
    have hFb : -1 ≤ F ∧ F < (t.length : Int) ∧ F ≠ 0 := by
      rcases HSP.out with ⟨rfl, _⟩ | ⟨j, h1, h2, rfl, _⟩
      · have := H12.out; omega
      · omega
    have b1 : decide (F < -1) = false := decide_eq_false (by omega)
    have b2 : decide ((t.length : Int) ≤ F) = false := decide_eq_false (by omega)
    have b3 : (F == 0) = false := by simpa using hFb.2.2
    clear hFb
    go_wp2_with (first
      | (go_at_call 9; (with_reducible refine (HLA.out _ (HTL.out _ (Below.refl _ _))).mono ?_); rintro e w1 ⟨rfl, hb1⟩; replace hb1 := Lib.hid hb1; have q1 := HPX.out _ hb1.out)
      | (go_at_call 15; (with_reducible refine (HMY.out _ (HTL.out _ hb1.out)).mono ?_); rintro e w2 ⟨rfl, hb2⟩; replace hb2 := Lib.hid (hb1.out.trans (hb2.mono hb1.out.size)); have q2 := HPX.out _ hb2.out)
      | (go_at_call 23; (with_reducible refine (HFR.out _ (HTL.out _ hb2.out) HLT.out).mono ?_); rintro e w3 ⟨rfl, hb3⟩; replace hb3 := Lib.hid (hb2.out.trans (hb3.mono hb2.out.size)); have q3 := HPX.out _ hb3.out)
      | fail)
    go_loopw [4, 5, 38] (fun _ _ v38 wr => ∃ jx : Nat, jx ≤ t.length ∧ v38 = .int .i64 jx ∧ Hid (Below W.heap.size W wr)) (fun _ _ v38 _ => t.length - (RowKit.intOf v38).toNat)
    case atStart => exact ⟨0, Nat.zero_le _, rfl, hb3⟩
    case round =>
      clear q0 q1 q2 q3
      obtain ⟨jx, hj, rfl, HB⟩ := hrel
      by_cases hj1 : jx < t.length
      · have d2 : decide ((jx : Int) < (t.length : Int)) = true := decide_eq_true (by omega)
        obtain ⟨B, o, rfl, hBs, ⟨c0, c1, c2, c3, c4⟩, -⟩ := (HTL.out wr HB.out).node hj1
        obtain ⟨⟨RA, RB, rc, rd⟩, hr⟩ : ∃ a, a = r jx := ⟨_, rfl⟩
        rw [← hr] at c3 c4
        have HBW := Lib.hid (HB.out.alloc HB.out.size (.cells #[.int .i64 (at_ t jx).k, .int .i64 (at_ t jx).l, .int .i64 (at_ t jx).z, .slice RA (at_ t jx).sq.length rc, .slice RB (at_ t jx).en.length rd] 32))
        clear hr
        by_cases hk : (at_ t jx).k = 0
        · have b4 : ((at_ t jx).k == 0) = true := by simpa using hk
          have hF2 : 0 ≤ F ∧ F ≤ (jx : Int) := by
            rcases HSP.out with ⟨_, h2⟩ | ⟨j, h1, h2, rfl, h4, h5⟩
            · exact absurd hk (h2 jx hj1)
            · refine ⟨by omega, ?_⟩
              rcases Nat.lt_or_ge jx j with h | h
              · exact absurd hk (h5 jx h)
              · omega
          have b5 : decide (F < 0) = false := decide_eq_false (by omega)
          have b6 : decide ((jx : Int) < F) = false := decide_eq_false (by omega)
          have b7 : ((at_ t jx).k != 0) = false := by simpa using hk
          by_cases hf : (jx : Int) = F
          · have b8 : ((jx : Int) == F) = true := by simpa using hf
            generalize (at_ t jx).k = kk at c0 b4 b7 HBW
            clear hf hF2 hk
            go_wp2_with fail
            go_roundw
            case rel => exact ⟨jx + 1, by omega, by go_num, HBW⟩
            case measure => simp [RowKit.intOf]; omega
          · have b8 : ((jx : Int) == F) = false := by simpa using hf
            generalize (at_ t jx).k = kk at c0 b4 b7 HBW
            clear hf hF2 hk
            go_wp2_with fail
            go_roundw
            case rel => exact ⟨jx + 1, by omega, by go_num, HBW⟩
            case measure => simp [RowKit.intOf]; omega
        · have b4 : ((at_ t jx).k == 0) = false := by simpa using hk
          have b8 : ((jx : Int) == F) = false := by
            have : (jx : Int) ≠ F := fun e => by
              rcases HSP.out with ⟨h1, _⟩ | ⟨j, h1, h2, h3, h4, _⟩
              · omega
              · have : jx = j := by omega
                subst this
                exact hk h4
            simpa using this
          generalize (at_ t jx).k = kk at c0 b4 HBW
          clear hk
          go_wp2_with fail
          go_roundw
          case rel => exact ⟨jx + 1, by omega, by go_num, HBW⟩
          case measure => simp [RowKit.intOf]; omega
      · have d2 : decide ((jx : Int) < (t.length : Int)) = false := decide_eq_false (by omega)
        go_wp2_with (first
          | (go_at_call 10; (with_reducible refine (HAW.out _).mono ?_); rintro e w5 ⟨rfl, hb5⟩; replace hb5 := Lib.hid (HB.out.trans (hb5.mono HB.out.size)))
          | fail)
        go_ret
        exact ⟨rfl, HBA.out.trans (hb5.out.mono HBA.out.size)⟩
end Go.Proofs.YtfboilbmehcgoaaDoor

/- Package dir: Inside, Free. -/
namespace Go.Proofs.YtfboilbmehcgoaaDoor
open Go.RowKit Go.Lib

set_option maxHeartbeats 4000000 in
set_option maxRecDepth 100000 in
theorem insidel_any (t : List Nd) (A : Option Addr) (c : Nat) (r : Nat → NAddr) (a b : Int) (w : World) (h : TLies w A c t r) : Calls Tryd.prog 20 #[.agg #[.slice A t.length c], .int .i64 a, .int .i64 b] w fun x w' => x = .returned (.bool (insF t a b)) ∧ Below w.heap.size w w' := by
  have HTW := Lib.hid (fun w1 (hb : Below w.heap.size w w1) => h.below hb)
  obtain ⟨P, hP⟩ : ∃ P, P = w.heap.size := ⟨_, rfl⟩
  have HBA := Lib.hid ((Below.refl w.heap.size w).alloc (Nat.le_refl _) (.cells #[.slice A t.length c] 24))
  have HXA := Lib.hid (heap_alloc_new w (.cells #[.slice A t.length c] 24))
  rw [← hP] at HXA
  have HPX : Hid (∀ w1, Below (w.alloc (.cells #[.slice A t.length c] 24)).heap.size (w.alloc (.cells #[.slice A t.length c] 24)) w1 → w1.cell? ⟨P, 0, none⟩ = some (.slice A t.length c)) := Lib.hid fun w1 hb => (tbox_cell ((hb.block P (by rw [hP]; simp)).trans HXA.out)).1
  have HMY := Lib.hid (fun w1 (hb : Below w.heap.size w w1) => mayl_any t A c r w1 (HTW.out w1 hb))
  clear h
  by_cases hm : mayT t = true
  rotate_left
  · have hm' : mayT t = false := by simpa using hm
    have HV : Hid (insF t a b = false) := Lib.hid (by unfold insF; rw [hm']; rfl)
    rw [hm'] at HMY
    clear hm hm'
    go_enter Tryd.func20, Tryd.ntmps20
    go_upto_region 1 with fail
    rw [← hP]
    generalize w.alloc _ = W at HBA HXA HPX ⊢
    clear hP
    have u0 := HPX.out W (Below.refl _ _)
    go_wp2_with (first
      | (go_at_call 14; (with_reducible refine (HMY.out _ HBA.out).mono ?_); rintro e w1 ⟨rfl, hb1⟩; have HB1 := Lib.hid (HBA.out.trans (hb1.mono HBA.out.size)); clear hb1)
      | fail)
    go_ret
    exact ⟨by rw [HV.out]; rfl, HB1.out⟩
  have hM := mayT_iff.1 hm
  have hl12 := hM.len
  have HM := Lib.hid hM
  rw [hm] at HMY
  clear hm hM
  by_cases ha : 0 ≤ a
  rotate_left
  · have d1 : decide (a < 0) = true := decide_eq_true (by omega)
    have HV : Hid (insF t a b = false) := Lib.hid (insF_not (by omega))
    clear ha hl12
    go_enter Tryd.func20, Tryd.ntmps20
    go_upto_region 1 with fail
    rw [← hP]
    generalize w.alloc _ = W at HBA HXA HPX ⊢
    clear hP
    have u0 := HPX.out W (Below.refl _ _)
    go_wp2_with (first
      | (go_at_call 14; (with_reducible refine (HMY.out _ HBA.out).mono ?_); rintro e w1 ⟨rfl, hb1⟩; have HB1 := Lib.hid (HBA.out.trans (hb1.mono HBA.out.size)); clear hb1)
      | fail)
    go_ret
    exact ⟨by rw [HV.out]; rfl, HB1.out⟩
  have d1 : decide (a < 0) = false := decide_eq_false (by omega)
  by_cases ha2 : a < 12
  rotate_left
  · have d2 : decide (12 ≤ a) = true := decide_eq_true (by omega)
    have HV : Hid (insF t a b = false) := Lib.hid (insF_not (by omega))
    clear ha ha2 hl12
    go_enter Tryd.func20, Tryd.ntmps20
    go_upto_region 1 with fail
    rw [← hP]
    generalize w.alloc _ = W at HBA HXA HPX ⊢
    clear hP
    have u0 := HPX.out W (Below.refl _ _)
    go_wp2_with (first
      | (go_at_call 14; (with_reducible refine (HMY.out _ HBA.out).mono ?_); rintro e w1 ⟨rfl, hb1⟩; have HB1 := Lib.hid (HBA.out.trans (hb1.mono HBA.out.size)); clear hb1)
      | fail)
    go_ret
    exact ⟨by rw [HV.out]; rfl, HB1.out⟩
  have d2 : decide (12 ≤ a) = false := decide_eq_false (by omega)
  obtain ⟨m, rfl⟩ : ∃ m : Nat, a = (m : Int) := ⟨a.toNat, by omega⟩
  have hml : m < t.length := by omega
  obtain ⟨B, o, hA, hBs, hc0, -⟩ := (HTW.out w (Below.refl _ _)).node hml
  subst hA
  have HC0 : Hid (∀ w1, Below w.heap.size w w1 → w1.cell? ⟨B, o + m * 5, none⟩ = some (.int .i64 (at_ t m).k)) := Lib.hid fun w1 hb => (hb.cell (p := ⟨B, o + m * 5, none⟩) hBs).trans hc0.c0
  clear hc0
  have H12 := Lib.hid hl12
  by_cases hk : (at_ t m).k = 2
  rotate_left
  · have HV : Hid (insF t m b = false) := Lib.hid (insF_not (by simp [hk]))
    obtain ⟨k, hkk⟩ : ∃ k, k = (at_ t m).k := ⟨_, rfl⟩
    rw [← hkk] at HC0 hk
    have b1 : (k != 2) = true := by simpa using hk
    clear hk hkk ha ha2 hl12
    go_enter Tryd.func20, Tryd.ntmps20
    go_upto_region 1 with fail
    rw [← hP]
    generalize w.alloc _ = W at HBA HXA HPX ⊢
    clear hP
    have u0 := HPX.out W (Below.refl _ _)
    go_wp2_with (first
      | (go_at_call 14; (with_reducible refine (HMY.out _ HBA.out).mono ?_); rintro e w1 ⟨rfl, hb1⟩; have u1 := HPX.out _ hb1; have c1 := HC0.out _ (HBA.out.trans (hb1.mono HBA.out.size)); have HB1 := Lib.hid (HBA.out.trans (hb1.mono HBA.out.size)); clear hb1)
      | fail)
    go_ret
    exact ⟨by rw [HV.out]; rfl, HB1.out⟩
  have HCM : Hid (∀ w1, Below w.heap.size w w1 → Calls Tryd.prog 41 #[.agg #[.slice (some ⟨B, o, none⟩) t.length c], .int .i64 m, .int .i64 b, .int .i64 11] w1 fun x w' => x = .returned (.bool (insF t m b)) ∧ Below w1.heap.size w1 w') := Lib.hid (fun w1 hb => by
    rw [← comes_insF HM.out hml hk b]
    exact comes_any t _ c r HM.out.inT.1 (fun i => by have := HM.out.ens i; omega) b 11 (by omega) m hml w1 (HTW.out w1 hb))
  rw [hk] at HC0
  clear hk ha ha2 hl12
  generalize insF t m b = z at HCM ⊢
  go_enter Tryd.func20, Tryd.ntmps20
  go_upto_region 1 with fail
  rw [← hP]
  generalize w.alloc _ = W at HBA HXA HPX ⊢
  clear hP
  have u0 := HPX.out W (Below.refl _ _)
  go_wp2_with (first
    | (go_at_call 14; (with_reducible refine (HMY.out _ HBA.out).mono ?_); rintro e w1 ⟨rfl, hb1⟩; have u1 := HPX.out _ hb1; have c1 := HC0.out _ (HBA.out.trans (hb1.mono HBA.out.size)); have HB1 := Lib.hid (HBA.out.trans (hb1.mono HBA.out.size)); clear hb1)
    | (go_at_call 41; (with_reducible refine (HCM.out _ HB1.out).mono ?_); rintro e w2 ⟨rfl, hb2⟩; have HB2 := Lib.hid (HB1.out.trans (hb2.mono HB1.out.size)); clear hb2)
    | fail)
  go_ret
  exact ⟨rfl, HB2.out⟩
end Go.Proofs.YtfboilbmehcgoaaDoor

/- Package dir: Free, Same. -/
namespace Go.Proofs.YtfboilbmehcgoaaDoor
open Go.RowKit Go.Lib

set_option maxRecDepth 100000 in
theorem freeclos_any (n : Nd) (A B : Option Addr) (c d : Nat) (w : World) : Calls Tryd.prog 43 #[ndV n A B c d] w fun x w' => x = .returned (.bool (decide (n.k = 0))) ∧ Below w.heap.size w w' := by
  unfold ndV
  obtain ⟨W, hW⟩ : ∃ W, W = w.alloc (.cells #[.int .i64 n.k, .int .i64 n.l, .int .i64 n.z, .slice A n.sq.length c, .slice B n.en.length d] 32) := ⟨_, rfl⟩
  have HBA : Hid (Below w.heap.size w W) := Lib.hid (by rw [hW]; exact (Below.refl _ _).alloc (Nat.le_refl _) _)
  have q0 : W.cell? ⟨w.heap.size, 0, none⟩ = some (.int .i64 n.k) := by rw [hW]; simp [go_sem]
  have HW := Lib.hid hW
  clear hW
  have hb : (n.k == 0) = decide (n.k = 0) := by rw [Bool.eq_iff_iff, beq_iff_eq, decide_eq_true_eq]
  go_enter Tryd.func43, Tryd.ntmps43
  go_upto_region 1 with fail
  rw [← HW.out]
  go_wp2_with fail
  go_ret
  exact ⟨by first | rfl | (rw [← hb]; rfl), HBA.out⟩
set_option maxHeartbeats 4000000 in
set_option maxRecDepth 100000 in
theorem idxn_any (t : List Nd) (A : Option Addr) (c : Nat) (r : Nat → NAddr) (w : World) (h : TLies w A c t r) (h40 : t.length ≤ 40) :
    Calls Tryd.prog 42 #[.slice A t.length c, .func (.func 43) #[] #[]] w fun e w' => ∃ q, e = .returned (.int .i64 q) ∧ IdxP (fun n : Nd => decide (n.k = 0)) t q ∧ Below w.heap.size w w' := by
  have HH := Lib.hid h
  clear h
  go_enter Tryd.func42, Tryd.ntmps42
  go_wp2_with fail
  go_loopw [5, 8] (fun _ v8 wr => ∃ jx : Nat, jx ≤ t.length ∧ v8 = .int .i64 jx ∧ Hid (∀ i (hi : i < jx) (hl : i < t.length), decide (t[i].k = 0) = false) ∧ Hid (Below w.heap.size w wr)) (fun _ v8 _ => t.length - (RowKit.intOf v8).toNat)
  case atStart => exact ⟨0, Nat.zero_le _, rfl, Lib.hid (fun i hi => by omega), Lib.hid (Below.refl _ _)⟩
  case round =>
    obtain ⟨jx, hj, rfl, HF, HB⟩ := hrel
    by_cases hj1 : jx < t.length
    · have d2 : decide ((jx : Int) < (t.length : Int)) = true := decide_eq_true (by omega)
      obtain ⟨B, o, rfl, hBs, ⟨c0, c1, c2, c3, c4⟩, -⟩ := (HH.out.below HB.out).node hj1
      obtain ⟨⟨RA, RB, rc, rd⟩, hr⟩ : ∃ a, a = r jx := ⟨_, rfl⟩
      rw [← hr] at c3 c4
      rw [at_lt hj1] at c0 c1 c2 c3 c4
      obtain ⟨n, hn⟩ : ∃ n, n = t[jx] := ⟨_, rfl⟩
      rw [← hn] at c0 c1 c2 c3 c4
      have HNE := Lib.hid hn
      have HCL := Lib.hid (fun w1 => freeclos_any n RA RB rc rd w1)
      have HJ1 := Lib.hid hj1
      clear hn hr
      cases hp : decide (n.k = 0) with
      | true =>
        rw [hp] at HCL
        go_wp2_with (first
          | (go_at_call 43; (with_reducible refine (HCL.out _).mono ?_); rintro e w2 ⟨rfl, hb2⟩; have HB2 := Lib.hid (HB.out.trans (hb2.mono HB.out.size)); clear hb2)
          | fail)
        go_ret
        exact ⟨_, rfl, .inr ⟨jx, HJ1.out, rfl, by rw [← HNE.out]; exact hp, fun i hi => HF.out i hi (Nat.lt_trans hi HJ1.out)⟩, HB2.out⟩
      | false =>
        rw [hp] at HCL
        go_wp2_with (first
          | (go_at_call 43; (with_reducible refine (HCL.out _).mono ?_); rintro e w2 ⟨rfl, hb2⟩; have HB2 := Lib.hid (HB.out.trans (hb2.mono HB.out.size)); clear hb2)
          | fail)
        go_roundw
        case rel =>
          refine ⟨jx + 1, by omega, by go_num, Lib.hid (fun i hi hl2 => ?_), HB2⟩
          rcases Nat.lt_succ_iff_lt_or_eq.1 hi with e | e
          · exact HF.out i e hl2
          · subst e; rw [← HNE.out]; exact hp
        case measure => simp [RowKit.intOf]; omega
    · have d2 : decide ((jx : Int) < (t.length : Int)) = false := decide_eq_false (by omega)
      have HJ := Lib.hid (show t.length ≤ jx by omega)
      go_wp2_with fail
      go_ret
      refine ⟨_, rfl, .inl ⟨rfl, fun x hx => ?_⟩, HB.out⟩
      obtain ⟨i, hi, rfl⟩ := List.getElem_of_mem hx
      exact HF.out i (Nat.lt_of_lt_of_le hi HJ.out) hi
theorem idx_free {t : List Nd} {q : Int} (h : IdxP (fun n : Nd => decide (n.k = 0)) t q) : q = freeI 0 t := by
  rcases freeI_spec 0 t with ⟨e, h1⟩ | ⟨j, hj, e, h0, h1⟩
  · rcases h with ⟨rfl, _⟩ | ⟨i, hi, rfl, hp, _⟩
    · exact e.symm
    · exact absurd (of_decide_eq_true hp) (h1 _ (List.getElem_mem hi))
  · rw [e, Nat.zero_add]
    rcases h with ⟨_, h2⟩ | ⟨i, hi, rfl, hp, h2⟩
    · have := h2 _ (List.getElem_mem hj)
      have h3 : decide (t[j].k = 0) = false := this
      rw [decide_eq_true h0] at h3
      cases h3
    · rcases Nat.lt_trichotomy i j with hij | hij | hij
      · exact absurd (of_decide_eq_true hp) (h1 i hij)
      · rw [hij]
      · have h3 : decide (t[j].k = 0) = false := h2 j hij
        rw [decide_eq_true h0] at h3
        cases h3
set_option maxHeartbeats 4000000 in
set_option maxRecDepth 100000 in
theorem freel_any (t : List Nd) (A : Option Addr) (c : Nat) (r : Nat → NAddr) (w : World) (h : TLies w A c t r) : Calls Tryd.prog 23 #[.agg #[.slice A t.length c]] w fun x w' => x = .returned (.int .i64 (freeT t)) ∧ Below w.heap.size w w' := by
  have HTW := Lib.hid (fun w1 (hb : Below w.heap.size w w1) => h.below hb)
  obtain ⟨P, hP⟩ : ∃ P, P = w.heap.size := ⟨_, rfl⟩
  have HBA := Lib.hid ((Below.refl w.heap.size w).alloc (Nat.le_refl _) (.cells #[.slice A t.length c] 24))
  have HXA := Lib.hid (heap_alloc_new w (.cells #[.slice A t.length c] 24))
  rw [← hP] at HXA
  have HPX : Hid (∀ w1, Below (w.alloc (.cells #[.slice A t.length c] 24)).heap.size (w.alloc (.cells #[.slice A t.length c] 24)) w1 → w1.cell? ⟨P, 0, none⟩ = some (.slice A t.length c)) := Lib.hid fun w1 hb => (tbox_cell ((hb.block P (by rw [hP]; simp)).trans HXA.out)).1
  have HMY := Lib.hid (fun w1 (hb : Below w.heap.size w w1) => mayl_any t A c r w1 (HTW.out w1 hb))
  clear h
  by_cases hm : mayT t = true
  rotate_left
  · have hm' : mayT t = false := by simpa using hm
    have HV : Hid (freeT t = -1) := Lib.hid (by unfold freeT; rw [if_neg hm])
    rw [hm'] at HMY
    clear hm hm'
    go_enter Tryd.func23, Tryd.ntmps23
    go_upto_region 1 with fail
    rw [← hP]
    generalize w.alloc _ = W at HBA HXA HPX ⊢
    clear hP
    have u0 := HPX.out W (Below.refl _ _)
    go_wp2_with (first
      | (go_at_call 14; (with_reducible refine (HMY.out _ HBA.out).mono ?_); rintro e w1 ⟨rfl, hb1⟩; have HB1 := Lib.hid (HBA.out.trans (hb1.mono HBA.out.size)); clear hb1)
      | fail)
    go_ret
    exact ⟨by rw [HV.out]; rfl, HB1.out⟩
  have HV : Hid (freeT t = freeI 0 t) := Lib.hid (by unfold freeT; rw [if_pos hm])
  have h12 := (mayT_iff.1 hm).len
  rw [hm] at HMY
  have HIX := Lib.hid (fun w1 (hb : Below w.heap.size w w1) => idxn_any t A c r w1 (HTW.out w1 hb) (by omega))
  clear hm h12
  go_enter Tryd.func23, Tryd.ntmps23
  go_upto_region 1 with fail
  rw [← hP]
  generalize w.alloc _ = W at HBA HXA HPX ⊢
  clear hP
  have u0 := HPX.out W (Below.refl _ _)
  go_wp2_with (first
    | (go_at_call 14; (with_reducible refine (HMY.out _ HBA.out).mono ?_); rintro e w1 ⟨rfl, hb1⟩; have u1 := HPX.out _ hb1; have HB1 := Lib.hid (HBA.out.trans (hb1.mono HBA.out.size)); clear hb1)
    | (go_at_call 42; (with_reducible refine (HIX.out _ HB1.out).mono ?_); rintro e w2 ⟨q, rfl, hq, hb2⟩; have HQ := Lib.hid (idx_free hq); have HB2 := Lib.hid (HB1.out.trans (hb2.mono HB1.out.size)); clear hb2 hq)
    | fail)
  go_ret
  exact ⟨by rw [HV.out, ← HQ.out]; rfl, HB2.out⟩
theorem sameN_dec (n m : Nd) : sameN n m = decide (n = m) := by
  obtain ⟨k, l, z, sq, en⟩ := n
  obtain ⟨k', l', z', sq', en'⟩ := m
  rw [sameN_eq, Bool.eq_iff_iff]
  simp only [Bool.and_eq_true, decide_eq_true_eq, Nd.mk.injEq]
  try exact ⟨fun ⟨h1, h2, h3, h4, h5⟩ => ⟨h1, h2, h3, h4, h5⟩, fun ⟨h1, h2, h3, h4, h5⟩ => ⟨h1, h2, h3, h4, h5⟩⟩
set_option maxHeartbeats 4000000 in
set_option maxRecDepth 100000 in
theorem eqn_any (t u : List Nd) (A A' : Option Addr) (c c' : Nat) (r r' : Nat → NAddr) (w : World) (h : TLies w A c t r) (h' : TLies w A' c' u r') (h40 : t.length ≤ 40) :
    Calls Tryd.prog 44 #[.slice A t.length c, .slice A' u.length c', .func (.func 45) #[] #[]] w fun e w' => e = .returned (.bool (decide (t = u))) ∧ Below w.heap.size w w' := by
  have HH := Lib.hid (fun w1 (hb : Below w.heap.size w w1) => h.below hb)
  have HU := Lib.hid (fun w1 (hb : Below w.heap.size w w1) => h'.below hb)
  clear h h'
  by_cases hl : t.length = u.length
  rotate_left
  · have b0 : ((t.length : Int) != (u.length : Int)) = true := by simp; omega
    have HV : Hid (decide (t = u) = false) := Lib.hid (decide_eq_false fun e => hl (by rw [e]))
    clear hl
    go_enter Tryd.func44, Tryd.ntmps44
    go_wp2_with fail
    go_ret
    exact ⟨by rw [HV.out]; rfl, Below.refl _ _⟩
  have b0 : ((t.length : Int) != (u.length : Int)) = false := by simp; omega
  have HL := Lib.hid hl
  clear hl
  go_enter Tryd.func44, Tryd.ntmps44
  go_wp2_with fail
  go_loopw [7, 8, 9, 17] (fun _ _ _ v17 wr => ∃ jx : Nat, jx ≤ t.length ∧ v17 = .int .i64 jx ∧ Hid (∀ i (hi : i < jx), at_ t i = at_ u i) ∧ Hid (Below w.heap.size w wr)) (fun _ _ _ v17 _ => t.length - (RowKit.intOf v17).toNat)
  case atStart => exact ⟨0, Nat.zero_le _, rfl, Lib.hid (fun i hi => by omega), Lib.hid (Below.refl _ _)⟩
  case round =>
    obtain ⟨jx, hj, rfl, HF, HB⟩ := hrel
    by_cases hj1 : jx < t.length
    · have d2 : decide ((jx : Int) < (t.length : Int)) = true := decide_eq_true (by omega)
      have hj2 : jx < u.length := by rw [← HL.out]; exact hj1
      have e1 : (jx : Int) < (u.length : Int) := by omega
      obtain ⟨B, o, rfl, hBs, ⟨c0, c1, c2, c3, c4⟩, hn⟩ := (HH.out wr HB.out).node hj1
      obtain ⟨B', o', rfl, hBs', ⟨k0, k1, k2, k3, k4⟩, hm⟩ := (HU.out wr HB.out).node hj2
      obtain ⟨⟨RA, RB, rc, rd⟩, hr⟩ : ∃ a, a = r jx := ⟨_, rfl⟩
      obtain ⟨⟨QA, QB, qc, qd⟩, hq⟩ : ∃ a, a = r' jx := ⟨_, rfl⟩
      rw [← hr] at c3 c4 hn
      rw [← hq] at k3 k4 hm
      obtain ⟨n, hnn⟩ : ∃ n, n = at_ t jx := ⟨_, rfl⟩
      obtain ⟨m, hmm⟩ : ∃ n, n = at_ u jx := ⟨_, rfl⟩
      rw [← hnn] at c0 c1 c2 c3 c4 hn
      rw [← hmm] at k0 k1 k2 k3 k4 hm
      have HN := Lib.hid hnn
      have HM := Lib.hid hmm
      obtain ⟨N, hN⟩ : ∃ N, N = Obj.cells #[.int .i64 n.k, .int .i64 n.l, .int .i64 n.z, .slice RA n.sq.length rc, .slice RB n.en.length rd] 32 (0, 0) := ⟨_, rfl⟩
      obtain ⟨M, hM⟩ : ∃ N, N = Obj.cells #[.int .i64 m.k, .int .i64 m.l, .int .i64 m.z, .slice QA m.sq.length qc, .slice QB m.en.length qd] 32 (0, 0) := ⟨_, rfl⟩
      have HBN := Lib.hid ((Below.refl wr.heap.size wr).alloc (Nat.le_refl _) N)
      have hz : (wr.alloc N).heap.size = wr.heap.size + 1 := by simp
      have HBM := Lib.hid (HBN.out.alloc (by rw [hz]; omega) M)
      have HXN := Lib.hid (heap_alloc_new wr N)
      have HXM := Lib.hid (heap_alloc_new (wr.alloc N) M)
      have HXN2 := Lib.hid ((((Below.refl (wr.alloc N).heap.size _).alloc (Nat.le_refl _) M).block wr.heap.size (by rw [hz]; omega)).trans HXN.out)
      rw [hz] at HXM
      have HCS := Lib.hid (fun w1 (hb : Below wr.heap.size wr w1) => samel_any n m RA RB QA QB rc rd qc qd w1 (hn.below hb) (hm.below hb))
      rw [sameN_dec] at HCS
      have k0' := (HBN.out.cell (p := ⟨B', o' + jx * 5, none⟩) hBs').trans k0
      have k1' := (HBN.out.cell (p := ⟨B', o' + jx * 5 + 1, none⟩) hBs').trans k1
      have k2' := (HBN.out.cell (p := ⟨B', o' + jx * 5 + 2, none⟩) hBs').trans k2
      have k3' := (HBN.out.cell (p := ⟨B', o' + jx * 5 + 3, none⟩) hBs').trans k3
      have k4' := (HBN.out.cell (p := ⟨B', o' + jx * 5 + 4, none⟩) hBs').trans k4
      clear hn hm hr hq hnn hmm hz k0 k1 k2 k3 k4
      go_upto_region 6 with fail
      rw [← hN]
      obtain ⟨V, hV⟩ : ∃ V, V = wr.alloc N := ⟨_, rfl⟩
      have HVV := Lib.hid hV
      have HNN := Lib.hid hN
      rw [← hV] at k0' k1' k2' k3' k4' ⊢
      obtain ⟨p1, hp1⟩ : ∃ p, p = wr.heap.size := ⟨_, rfl⟩
      have hVs : V.heap.size = p1 + 1 := by rw [hV, hp1]; simp
      have HVS := Lib.hid hVs
      rw [← hp1] at HXN2 HXM ⊢
      clear c0 c1 c2 c3 c4 hV hN hp1
      clear hVs
      go_upto_region 7 with fail
      rw [← hM, HVS.out, HVV.out]
      generalize (wr.alloc N).alloc M = V2 at HBM HXM HXN2 ⊢
      rw [HNN.out] at HXN2
      rw [hM] at HXM
      have x0 := BoxAt.cells HXN2.out
      have y0 := BoxAt.cells HXM.out
      obtain ⟨x0, x1, x2, x3, x4⟩ := x0
      obtain ⟨y0, y1, y2, y3, y4⟩ := y0
      have HBM2 := Lib.hid (HB.out.trans (HBM.out.mono HB.out.size))
      clear k0' k1' k2' k3' k4' hM
      obtain ⟨z, hz⟩ : ∃ z, z = decide (n = m) := ⟨_, rfl⟩
      rw [← hz] at HCS
      have HZ := Lib.hid hz
      clear hz
      cases z with
      | true =>
        go_wp2_with (first
          | (go_at_call 45; (with_reducible refine (HCS.out _ HBM.out).mono ?_); rintro e w2 ⟨rfl, hb2⟩; have HB2 := Lib.hid (HBM2.out.trans (hb2.mono HBM2.out.size)); clear hb2)
          | fail)
        go_roundw
        case rel =>
          refine ⟨jx + 1, by omega, by go_num, Lib.hid (fun i hi => ?_), HB2⟩
          rcases Nat.lt_succ_iff_lt_or_eq.1 hi with e | e
          · exact HF.out i e
          · subst e; rw [← HN.out, ← HM.out]; exact of_decide_eq_true HZ.out.symm
        case measure => simp [RowKit.intOf]; omega
      | false =>
        go_wp2_with (first
          | (go_at_call 45; (with_reducible refine (HCS.out _ HBM.out).mono ?_); rintro e w2 ⟨rfl, hb2⟩; have HB2 := Lib.hid (HBM2.out.trans (hb2.mono HBM2.out.size)); clear hb2)
          | fail)
        go_ret
        have HE : decide (t = u) = false := decide_eq_false fun e => by
          have h1 := of_decide_eq_false HZ.out.symm
          rw [HN.out, HM.out, e] at h1
          exact h1 rfl
        exact ⟨by rw [HE]; rfl, HB2.out⟩
    · have d2 : decide ((jx : Int) < (t.length : Int)) = false := decide_eq_false (by omega)
      have HE : Hid (decide (t = u) = true) := Lib.hid (decide_eq_true (List.ext_getElem HL.out fun i h1 h2 => by
        have := HF.out i (by omega)
        rwa [at_lt h1, at_lt h2] at this))
      go_wp2_with fail
      go_ret
      exact ⟨by rw [HE.out]; rfl, HB.out⟩
set_option maxHeartbeats 4000000 in
set_option maxRecDepth 100000 in
theorem sameTl_any (t u : List Nd) (A A' : Option Addr) (c c' : Nat) (r r' : Nat → NAddr) (w : World) (h : TLies w A c t r) (h' : TLies w A' c' u r') (h40 : t.length ≤ 40) : Calls Tryd.prog 24 #[.agg #[.slice A t.length c], .agg #[.slice A' u.length c']] w fun x w' => x = .returned (.bool (decide (t = u))) ∧ Below w.heap.size w w' := by
  have HQ := Lib.hid (fun w1 (hb : Below w.heap.size w w1) => eqn_any t u A A' c c' r r' w1 (h.below hb) (h'.below hb) h40)
  obtain ⟨W, hW⟩ : ∃ W, W = (w.alloc (.cells #[.slice A t.length c] 24)).alloc (.cells #[.slice A' u.length c'] 24) := ⟨_, rfl⟩
  have HBA : Hid (Below w.heap.size w W) := Lib.hid (by rw [hW]; exact ((Below.refl _ _).alloc (Nat.le_refl _) _).alloc (by simp) _)
  have q0 : W.cell? ⟨w.heap.size, 0, none⟩ = some (.slice A t.length c) := by rw [hW]; simp [go_sem]
  have q1 : W.cell? ⟨w.heap.size + 1, 0, none⟩ = some (.slice A' u.length c') := by rw [hW]; simp [go_sem]
  have HW := Lib.hid hW
  clear hW h h'
  generalize decide (t = u) = z at HQ ⊢
  go_enter Tryd.func24, Tryd.ntmps24
  go_upto_region 1 with fail
  rw [← HW.out]
  go_wp2_with (first
    | (go_at_call 44; (with_reducible refine (HQ.out _ HBA.out).mono ?_); rintro e w2 ⟨rfl, hb2⟩; have HB2 := Lib.hid (HBA.out.trans (hb2.mono HBA.out.size)); clear hb2)
    | fail)
  go_ret
  exact ⟨rfl, HB2.out⟩
end Go.Proofs.YtfboilbmehcgoaaDoor

/- Package dir: Copy. -/
namespace Go.Proofs.YtfboilbmehcgoaaDoor
open Go.RowKit Go.Lib

theorem TrLies.cell {w : World} {A : Option Addr} {t : List Nd} {r : Nat → NAddr} (h : TrLies w A t r) {ad : Addr} (e : A = some ad) : ∀ (k : Nat) (u : Value), (ncells r 0 t)[k]? = some u → w.cell? (ad.add k) = some u := fun k u hu => by
  have hk : k < t.length * 5 := by
    have := (List.getElem?_eq_some_iff.1 hu).1
    rwa [ncells_len] at this
  have hj : k / 5 < t.length := by omega
  obtain ⟨B, o, e1, hB, hc⟩ := h (by omega)
  rw [e] at e1
  simp only [Option.some.injEq] at e1
  subst e1
  obtain ⟨⟨c0, c1, c2, c3, c4⟩, -⟩ := hc (k / 5) hj
  have hf : k % 5 < 5 := Nat.mod_lt _ (by omega)
  have h2 := ncells_at r 0 t (k / 5) hj (k % 5) hf
  rw [show k / 5 * 5 + k % 5 = k by omega, hu, Nat.zero_add] at h2
  have ea : (⟨B, o, none⟩ : Addr).add k = ⟨B, o + k, none⟩ := by
    unfold Addr.add
    split
    · next e => subst e; rfl
    · rfl
  rw [ea, show o + k = o + k / 5 * 5 + k % 5 by omega, h2]
  rcases (by omega : k % 5 = 0 ∨ k % 5 = 1 ∨ k % 5 = 2 ∨ k % 5 = 3 ∨ k % 5 = 4) with e5 | e5 | e5 | e5 | e5 <;> rw [e5]
  · exact c0
  · exact c1
  · exact c2
  · exact c3
  · exact c4
theorem ncells_one {r : Nat → NAddr} {u : Value} : ∀ {i : Nat} {t : List Nd}, u ∈ ncells r i t → u.oneCell' = true
  | _, [], h => by cases h
  | i, n :: t, h => by
    rw [ncells, List.mem_append] at h
    rcases h with h | h
    · exact nenc_one h
    · exact ncells_one h
theorem run_tapp {w : World} {base : Nat} {v : Value} {t : List Nd} {r : Nat → NAddr} {ad : Addr} {c : Nat} (ty : TypeId) (hown : w.ownsRow base 32 5 v 0 []) (hl : TrLies w (some ad) t r) (h63 : t.length ≤ 100000) (hbase : base ≤ w.heap.size) :
    ∃ q cap w', (Builtin.append_ #[22, 22] ty #[v, .slice (some ad) t.length c]).run Tryd.prog w = .ok (.slice q t.length cap) w' ∧ w'.ownsRow base 32 5 (.slice q t.length cap) t.length (ncells r 0 t) ∧ w.grownBy w' v.ownBlock := by
  obtain ⟨i, hi, hz, hs5, hb⟩ := node_partsF
  obtain ⟨v', w', hr, h2, h3, _⟩ := run_append_own (P := Tryd.prog) (w := w) base 22 ty 32 i _ 5 72 Tryd.underlying22 hi hz hs5 hb rfl (by omega) v 0 [] hown ad t.length c (ncells r 0 t) (ncells_len r 0 t) (hl.cell rfl) (fun u hu => ncells_one hu) (by unfold maxLen; omega) (by omega) hbase
  rw [Nat.zero_add] at h2
  obtain ⟨q, cap, rfl, _⟩ := own_slice h2
  exact ⟨q, cap, w', hr, by simpa using h2, h3⟩
theorem wpList_tapp {w : World} {ops : Array Oper} {rest : List Oper} {o : Oper} {a : Act} {Q : Exit → Act → World → Prop} (hgd : o.guard = none) (x y : Operand) (ho : o.op = .call { callee := .builtin .append, args := #[x, y], argTypes := #[22, 22] })
    (base : Nat) (v : Value) (t : List Nd) (r : Nat → NAddr) (ad : Addr) (c : Nat) (hs : a.eval x = v) (hx : a.eval y = .slice (some ad) t.length c) (hown : w.ownsRow base 32 5 v 0 []) (hl : TrLies w (some ad) t r) (h63 : t.length ≤ 100000) (hbase : base ≤ w.heap.size)
    (h : ∀ q cap w', w'.ownsRow base 32 5 (.slice q t.length cap) t.length (ncells r 0 t) → w.grownBy w' v.ownBlock → wpList Tryd.prog ops Q rest (a.put o.dst (.slice q t.length cap)) w') : wpList Tryd.prog ops Q (o :: rest) a w :=
  wpList_plain hgd fun _ hK => by
    obtain ⟨q, cap, w', hr, h2, h3⟩ := run_tapp (c := c) o.type hown hl h63 hbase
    unfold Oper.wp execOp
    simp only [ho, resolve, invoke, builtin, Sem.run_bind, Sem.run_pure, Result.andThen_ok, List.map_toArray, List.map_cons, List.map_nil, hs, hx, hr]
    exact hK _ _ (h q cap w' h2 h3)
set_option maxRecDepth 100000 in
set_option maxHeartbeats 2000000 in
theorem clonet_any (t : List Nd) (A : Option Addr) (c : Nat) (r : Nat → NAddr) (w : World) (h : TLies w A c t r) (h40 : t.length ≤ 40) : Calls Tryd.prog 27 #[.slice A t.length c] w fun e w' =>
    ∃ q cap, e = .returned (.slice q t.length cap) ∧ w'.ownsRow w.heap.size 32 5 (.slice q t.length cap) t.length (ncells r 0 t) ∧ Below w.heap.size w w' := by
  cases A with
  | none =>
    obtain ⟨rfl, rfl⟩ := h.sn rfl
    have hn := fun w1 : World => Lib.run_eql_slice_nil (P := Tryd.prog) w1 22 32 none 0 0 0 0 Tryd.underlying22
    simp only [Option.isNone] at hn
    go_enter Tryd.func27, Tryd.ntmps27
    go_wp2_with fail
    go_ret
    exact ⟨none, 0, rfl, World.ownsRow_nil _ _ _ _, Below.refl _ _⟩
  | some ad =>
    have HL := Lib.hid h.lie
    have HX := Lib.hid (heap_alloc_new w (.cells #[] 32))
    have HB := Lib.hid ((Below.refl w.heap.size w).alloc (Nat.le_refl _) (.cells #[] 32))
    have hn := fun w1 : World => Lib.run_eql_slice_nil (P := Tryd.prog) w1 22 32 (some ad) t.length c 0 0 Tryd.underlying22
    simp only [Option.isNone] at hn
    clear h
    go_enter Tryd.func27, Tryd.ntmps27
    go_wp2_with (at_builtin; refine wpList_tapp rfl _ _ rfl w.heap.size (.slice (some ⟨w.heap.size, 0, none⟩) 0 0) t r ad c rfl rfl ⟨rfl, .inr ⟨w.heap.size, 0, #[], rfl, Nat.le_refl _, HX.out, Nat.le_refl _, Nat.zero_le _, rfl, rfl⟩⟩ (HL.out.below HB.out) (by omega) HB.out.size ?_; intro q cap w2 hown hg)
    have HO := Lib.hid hown
    have HB2 := Lib.hid (HB.out.grown hg HB.out.size fun k e => by cases e; exact Nat.le_refl _)
    clear hown hg
    go_ret
    exact ⟨q, cap, by first | rfl | simp, HO.out, HB2.out⟩
/-- Up to the j-th where the copies lie, from there on where the first ones do. -/
def mixA (rn r : Nat → NAddr) (j : Nat) : Nat → NAddr := fun i => if i < j then rn i else r i
theorem own_cells {w : World} {base g n cap : Nat} {e : TypeId} {xs : List Value} (h : w.ownsRow base e 5 (.slice (some ⟨g, 0, none⟩) n cap) n xs) {j : Nat} (hj : j < n * 5) {u : Value} (hu : xs[j]? = some u) : w.cell? ⟨g, j, none⟩ = some u ∧ w.frozen? ⟨g, j, none⟩ = false :=
  ⟨(h.cellAt j hj).trans hu, h.frozenAt j⟩
theorem ncells_put (r : Nat → NAddr) (n : Nd) (a : NAddr) : ∀ (i : Nat) (t : List Nd) (j : Nat) (h : j < t.length), t[j] = n → (((((ncells r i t).set (j * 5) (.int .i64 n.k)).set (j * 5 + 1) (.int .i64 n.l)).set (j * 5 + 2) (.int .i64 n.z)).set (j * 5 + 3) (.slice a.A n.sq.length a.c)).set (j * 5 + 4) (.slice a.B n.en.length a.d) = ncells (fun k => if k = i + j then a else r k) i t
  | i, [], _, h, _ => by cases h
  | i, m :: t, 0, h, e => by
    have e2 : m = n := e
    subst e2
    have e3 : ncells (fun k => if k = i + 0 then a else r k) (i + 1) t = ncells r (i + 1) t := ncells_congr _ _ fun k h1 _ => if_neg (by omega)
    rw [ncells, ncells, e3]
    simp [nenc]
  | i, m :: t, j + 1, h, e => by
    have ih := ncells_put r n a (i + 1) t j (by simpa using h) (by simpa using e)
    have el : (nenc m (r i)).length = 5 := rfl
    rw [ncells, ncells, if_neg (by omega)]
    rw [List.set_append_right _ _ (by rw [el]; omega), List.set_append_right _ _ (by rw [el]; omega), List.set_append_right _ _ (by rw [el]; omega), List.set_append_right _ _ (by rw [el]; omega), List.set_append_right _ _ (by rw [el]; omega), el]
    rw [show (j + 1) * 5 - 5 = j * 5 by omega, show (j + 1) * 5 + 1 - 5 = j * 5 + 1 by omega, show (j + 1) * 5 + 2 - 5 = j * 5 + 2 by omega, show (j + 1) * 5 + 3 - 5 = j * 5 + 3 by omega, show (j + 1) * 5 + 4 - 5 = j * 5 + 4 by omega, ih]
    rw [show i + 1 + j = i + (j + 1) by omega]
set_option maxRecDepth 100000 in
set_option maxHeartbeats 8000000 in
theorem copyTl_any (t : List Nd) (A : Option Addr) (c : Nat) (r : Nat → NAddr) (w : World) (h : TLies w A c t r) (h40 : t.length ≤ 40) (h60 : ∀ n ∈ t, n.sq.length ≤ 60 ∧ n.en.length ≤ 60) : Calls Tryd.prog 11 #[.agg #[.slice A t.length c]] w (CopyTPost w t) := by
  have HTW := Lib.hid (fun w1 (hb : Below w.heap.size w w1) => h.below hb)
  have HCL := Lib.hid (fun w1 (hb : Below w.heap.size w w1) => clonet_any t A c r w1 (h.below hb) h40)
  have H60 := Lib.hid h60
  obtain ⟨P, hP⟩ : ∃ p, p = w.heap.size := ⟨_, rfl⟩
  obtain ⟨W, hW⟩ : ∃ X, X = (w.alloc (.cells #[.slice A t.length c] 24)).alloc (.cells #[.slice none 0 0] 24) := ⟨_, rfl⟩
  have z1 : (w.alloc (.cells #[.slice A t.length c] 24)).heap.size = P + 1 := by rw [hP]; simp
  have b1 := (Below.refl (w.alloc (.cells #[.slice A t.length c] 24)).heap.size _).alloc (Nat.le_refl _) (.cells #[.slice none 0 0] 24)
  have HW0 : Hid (W.heap[P]? = some (.cells #[.slice A t.length c] 24 (0, 0))) := Lib.hid (by rw [hW]; exact (b1.block P (by omega)).trans (by rw [hP]; exact heap_alloc_new _ _))
  have HW1 : Hid (W.heap[P + 1]? = some (.cells #[.slice none 0 0] 24 (0, 0))) := Lib.hid (by
    have := heap_alloc_new (w.alloc (.cells #[.slice A t.length c] 24)) (.cells #[.slice none 0 0] 24)
    rw [z1] at this
    rw [hW]; exact this)
  have HBA : Hid (Below w.heap.size w W) := Lib.hid (by rw [hW]; exact ((Below.refl _ _).alloc (Nat.le_refl _) _).alloc (by simp) _)
  have HPP : Hid (w.heap.size = P ∧ W.heap.size = P + 2) := Lib.hid ⟨hP.symm, by rw [hW, hP]; simp⟩
  have HW := Lib.hid hW
  have q0 := (tbox_cell HW0.out).1
  clear h h60 b1 z1
  go_enter Tryd.func11, Tryd.ntmps11
  go_upto_region 1 with fail
  rw [← hW, ← hP]
  clear hW hP
  go_wp2_with (first
    | (go_at_call 27; (with_reducible refine (HCL.out _ HBA.out).mono ?_); rintro e w2 ⟨q, cap, rfl, hrow, hb2⟩; have HROW := Lib.hid hrow; have HB2 := Lib.hid hb2; clear hrow hb2)
    | fail)
  clear q0
  go_loopw [4, 5, 11] (fun _ _ v11 wr => ∃ (jx : Nat) (rn : Nat → NAddr), jx ≤ t.length ∧ v11 = .int .i64 jx ∧ Hid (wr.ownsRow W.heap.size 32 5 (.slice q t.length cap) t.length (ncells (mixA rn r jx) 0 t)) ∧ Hid (∀ j (h : j < t.length), j < jx → IOwn wr W.heap.size (.slice (rn j).A t[j].sq.length (rn j).c) t[j].sq ∧ EOwn wr W.heap.size (.slice (rn j).B t[j].en.length (rn j).d) t[j].en) ∧ Hid (Below W.heap.size W wr)) (fun _ _ v11 _ => t.length - (RowKit.intOf v11).toNat)
  case atStart => exact ⟨0, r, Nat.zero_le _, rfl, Lib.hid (by rw [show ncells (mixA r r 0) 0 t = ncells r 0 t from ncells_congr 0 t fun j _ _ => (show mixA r r 0 j = r j from if_neg (by omega))]; exact HROW.out), Lib.hid (fun j _ h => by omega), HB2⟩
  case round =>
    obtain ⟨jx, rn, hj, rfl, HR, HI, HB⟩ := hrel
    by_cases hj1 : jx < t.length
    · have d2 : decide ((jx : Int) < (t.length : Int)) = true := decide_eq_true (by omega)
      have HJ1 := Lib.hid hj1
      obtain ⟨g, rfl⟩ : ∃ g, q = some ⟨g, 0, none⟩ := row_where HR.out (by omega)
      have hn := fun w1 (hb : Below W.heap.size W w1) => (HTW.out w1 (HBA.out.trans (hb.mono HBA.out.size))).rows hj1
      obtain ⟨n, hnn⟩ : ∃ n, n = t[jx]'hj1 := ⟨_, rfl⟩
      rw [at_lt hj1, ← hnn] at hn
      have hna := ncells_at (mixA rn r jx) 0 t jx hj1
      rw [← hnn, Nat.zero_add, show mixA rn r jx jx = r jx from if_neg (by omega)] at hna
      obtain ⟨⟨RA, RB, rc, rd⟩, hr⟩ : ∃ a, a = r jx := ⟨_, rfl⟩
      rw [← hr] at hna hn
      have HNA := Lib.hid hna
      have HN := Lib.hid hn
      have h6 := H60.out n (by rw [hnn]; exact List.getElem_mem hj1)
      have HNN := Lib.hid hnn
      clear hna hn hr hnn
      have c0 := (own_cells HR.out (j := jx * 5 + 0) (by omega) (HNA.out 0 (by omega))).1
      have c1 := (own_cells HR.out (j := jx * 5 + 1) (by omega) (HNA.out 1 (by omega))).1
      have c2 := (own_cells HR.out (j := jx * 5 + 2) (by omega) (HNA.out 2 (by omega))).1
      have c3 := (own_cells HR.out (j := jx * 5 + 3) (by omega) (HNA.out 3 (by omega))).1
      have c4 := (own_cells HR.out (j := jx * 5 + 4) (by omega) (HNA.out 4 (by omega))).1
      rw [Nat.add_zero] at c0
      obtain ⟨N, hN⟩ : ∃ N, N = Obj.cells #[.int .i64 n.k, .int .i64 n.l, .int .i64 n.z, .slice RA n.sq.length rc, .slice RB n.en.length rd] 32 (0, 0) := ⟨_, rfl⟩
      have HBV := Lib.hid (HB.out.alloc HB.out.size N)
      have HXV := Lib.hid (heap_alloc_new wr N)
      have HBN := Lib.hid ((Below.refl wr.heap.size wr).alloc (Nat.le_refl _) N)
      have HCP := Lib.hid (fun w1 (hb : Below W.heap.size W w1) => copyl_any n RA RB rc rd w1 (HN.out w1 hb) (by have := h6.1; omega) (by have := h6.2; omega))
      go_upto_region 5 with fail
      rw [← hN]
      generalize wr.alloc N = V at HBV HXV HBN ⊢
      obtain ⟨p, hp⟩ : ∃ p, p = wr.heap.size := ⟨_, rfl⟩
      rw [← hp] at HXV ⊢
      rw [hN] at HXV
      have HPS : Hid (p = wr.heap.size) := Lib.hid hp
      clear hN hp c0 c1 c2 c3 c4 h6
      have x0 := BoxAt.cells HXV.out
      obtain ⟨x0, x1, x2, x3, x4⟩ := x0
      go_wp2_with (first
        | (go_at_call 28; (with_reducible refine (HCP.out _ HBV.out).mono ?_); rintro e w3 ⟨A1, B1, e1, d1, rfl, hio, heo, hb3⟩; have HIO := Lib.hid hio; have HEO := Lib.hid heo; have HB3 := Lib.hid hb3; have HR3 : Hid (w3.ownsRow W.heap.size 32 5 (.slice (some ⟨g, 0, none⟩) t.length cap) t.length (ncells (mixA rn r jx) 0 t)) := Lib.hid (own_keep HR.out fun g' e => by have := (HR.out.lt g' e).2; exact (hb3.block g' (Nat.lt_of_lt_of_le this HBN.out.size)).trans (HBN.out.block g' this)); obtain ⟨y0, z0⟩ := own_cells HR3.out (j := jx * 5 + 0) (by omega) (HNA.out 0 (by omega)); obtain ⟨y1, z1⟩ := own_cells HR3.out (j := jx * 5 + 1) (by omega) (HNA.out 1 (by omega)); obtain ⟨y2, z2⟩ := own_cells HR3.out (j := jx * 5 + 2) (by omega) (HNA.out 2 (by omega)); obtain ⟨y3, z3⟩ := own_cells HR3.out (j := jx * 5 + 3) (by omega) (HNA.out 3 (by omega)); obtain ⟨y4, z4⟩ := own_cells HR3.out (j := jx * 5 + 4) (by omega) (HNA.out 4 (by omega)); rw [Nat.add_zero] at y0 z0; clear hio heo hb3 x0 x1 x2 x3 x4)
        | fail)
      go_roundw
      case rel =>
        obtain ⟨w5, hw5⟩ : ∃ X, X = ((((w3.setCell ⟨g, jx * 5, none⟩ (.int .i64 n.k)).setCell ⟨g, jx * 5 + 1, none⟩ (.int .i64 n.l)).setCell ⟨g, jx * 5 + 2, none⟩ (.int .i64 n.z)).setCell ⟨g, jx * 5 + 3, none⟩ (.slice A1 n.sq.length e1)).setCell ⟨g, jx * 5 + 4, none⟩ (.slice B1 n.en.length d1) := ⟨_, rfl⟩
        rw [← hw5]
        have hk : ∀ b, b ≠ g → w5.heap[b]? = w3.heap[b]? := fun b hb => by rw [hw5, Below.heap_setCell _ _ _ _ hb, Below.heap_setCell _ _ _ _ hb, Below.heap_setCell _ _ _ _ hb, Below.heap_setCell _ _ _ _ hb, Below.heap_setCell _ _ _ _ hb]
        have hgl := HR.out.lt g rfl
        have hrow : w5.ownsRow W.heap.size 32 5 (.slice (some ⟨g, 0, none⟩) t.length cap) t.length (ncells (mixA (fun i => if i = jx then ⟨A1, B1, e1, d1⟩ else rn i) r (jx + 1)) 0 t) := by
          have h1 := ((((HR3.out.stored (jx * 5) (.int .i64 n.k)).1.stored (jx * 5 + 1) (.int .i64 n.l)).1.stored (jx * 5 + 2) (.int .i64 n.z)).1.stored (jx * 5 + 3) (.slice A1 n.sq.length e1)).1.stored (jx * 5 + 4) (.slice B1 n.en.length d1)
          have h2 := h1.1
          rw [← hw5] at h2
          have h3 := ncells_put (mixA rn r jx) n ⟨A1, B1, e1, d1⟩ 0 t jx HJ1.out HNN.out.symm
          dsimp only at h3
          rw [h3] at h2
          rwa [ncells_congr (r' := mixA (fun i => if i = jx then ⟨A1, B1, e1, d1⟩ else rn i) r (jx + 1)) 0 t fun j _ _ => by
            unfold mixA
            by_cases e : j = jx
            · subst e; simp
            · rw [if_neg (by omega)]
              by_cases e2 : j < jx
              · rw [if_pos e2, if_pos (by omega)]; exact (if_neg e).symm
              · rw [if_neg e2, if_neg (by omega)]] at h2
        refine ⟨jx + 1, fun i => if i = jx then ⟨A1, B1, e1, d1⟩ else rn i, by omega, by go_num, Lib.hid hrow, Lib.hid (fun j hjl hjx => ?_), Lib.hid ?_⟩
        · by_cases e : j = jx
          · subst e
            dsimp only
            rw [if_pos rfl, ← HNN.out]
            have hge : g < V.heap.size := Nat.lt_of_lt_of_le hgl.2 HBN.out.size
            exact ⟨own_base (own_keep HIO.out fun b e => hk b (by have := (HIO.out.lt b e).1; omega)) HBV.out.size, own_base (own_keep HEO.out fun b e => hk b (by have := (HEO.out.lt b e).1; omega)) HBV.out.size⟩
          · obtain ⟨k1, k2⟩ := HI.out j hjl (by omega)
            dsimp only
            rw [if_neg e]
            have hb13 : ∀ b, b < wr.heap.size → w3.heap[b]? = wr.heap[b]? := fun b hb => (HB3.out.block b (Nat.lt_of_lt_of_le hb HBN.out.size)).trans (HBN.out.block b hb)
            refine ⟨own_keep k1 fun b e => ?_, own_keep k2 fun b e => ?_⟩
            · rw [hk b (fun e2 => row_apart k1 HR.out ndtypes.1 e (by rw [e2]; rfl)), hb13 b (k1.lt b e).2]
            · rw [hk b (fun e2 => row_apart k2 HR.out ndtypes.2 e (by rw [e2]; rfl)), hb13 b (k2.lt b e).2]
        · rw [hw5]
          have h1 := HBV.out.trans (HB3.out.mono HBV.out.size)
          exact ((((h1.setCell hgl.1 _).setCell hgl.1 _).setCell hgl.1 _).setCell hgl.1 _).setCell hgl.1 _
      case measure => simp [RowKit.intOf]; omega
    · have d2 : decide ((jx : Int) < (t.length : Int)) = false := decide_eq_false (by omega)
      obtain rfl : jx = t.length := by omega
      have HTO : Hid (TOwn wr W.heap.size (.slice q t.length cap) t rn) := Lib.hid ⟨by
        have := HR.out
        rwa [show ncells (mixA rn r t.length) 0 t = ncells rn 0 t from ncells_congr 0 t fun j _ h => (show mixA rn r t.length j = rn j from if_pos (by omega))] at this, fun j h => (HI.out j h h).1, fun j h => (HI.out j h h).2⟩
      have HR1 : Hid (wr.heap[P + 1]? = some (.cells #[.slice none 0 0] 24 (0, 0))) := Lib.hid ((HB.out.block (P + 1) (by have := HPP.out; omega)).trans HW1.out)
      obtain ⟨u1, f1⟩ := tbox_cell HR1.out
      go_wp2_with fail
      refine bodyPost_ret (results_cell_row rfl _ _ (P + 1) _ _ _ _ rfl (tbox_set HR1.out _) Tryd.underlying24 rfl (by kernel_rfl)) rfl ?_
      refine ⟨q, cap, rn, rfl, (HTO.out.keep fun b h1 _ => Below.heap_setCell _ _ _ _ (by have := HPP.out; show b ≠ P + 1; omega)).base HBA.out.size, ?_⟩
      exact (HBA.out.trans (HB.out.mono HBA.out.size)).setCell (by have := HPP.out; show w.heap.size ≤ P + 1; omega) _
end Go.Proofs.YtfboilbmehcgoaaDoor

/- Package dir: First. -/
namespace Go.Proofs.YtfboilbmehcgoaaDoor
open Go.RowKit Go.Lib

/-- The tree that First tells. -/
def zeroT : List Nd := [nd0, nd0, nd0, nd0, nd0, nd0, nd0, nd0, nd0, nd0, nd0, nd0]
def firstT : List Nd := [⟨2, 1, 0, [], []⟩, nd0, nd0, nd0, nd0, nd0, nd0, nd0, nd0, nd0, nd0, nd0]
def nilA : NAddr := ⟨none, none, 0, 0⟩
theorem made12 : madeCells #[.int .i64 0, .int .i64 0, .int .i64 0, .slice none 0 0, .slice none 0 0] 60 = (ncells (fun _ => nilA) 0 zeroT).toArray := by
  have h : ∀ i, i < 60 → (#[Value.int .i64 0, .int .i64 0, .int .i64 0, .slice none 0 0, .slice none 0 0][i % 5]!) = (ncells (fun _ => nilA) 0 zeroT)[i]! := by
    intro i hi
    rcases (show ∃ j f, i = j * 5 + f ∧ j < 12 ∧ f < 5 from ⟨i / 5, i % 5, by omega, by omega, by omega⟩) with ⟨j, f, rfl, hj, hf⟩
    rw [show (j * 5 + f) % 5 = f by omega]
    have h1 := ncells_at (fun _ => nilA) 0 zeroT j hj f hf
    have h2 : zeroT[j] = nd0 := by
      rcases (show j = 0 ∨ j = 1 ∨ j = 2 ∨ j = 3 ∨ j = 4 ∨ j = 5 ∨ j = 6 ∨ j = 7 ∨ j = 8 ∨ j = 9 ∨ j = 10 ∨ j = 11 by omega) with rfl | rfl | rfl | rfl | rfl | rfl | rfl | rfl | rfl | rfl | rfl | rfl <;> rfl
    rw [h2] at h1
    rw [List.getElem!_eq_getElem?_getD, h1]
    rcases (show f = 0 ∨ f = 1 ∨ f = 2 ∨ f = 3 ∨ f = 4 by omega) with rfl | rfl | rfl | rfl | rfl <;> rfl
  apply Array.ext
  · simp [madeCells, ncells_len, zeroT]
  · intro i h1 h2
    have hi : i < 60 := by simpa [madeCells] using h1
    have h3 := h i hi
    have h4 : i < (ncells (fun _ => nilA) 0 zeroT).length := by simpa using h2
    rw [List.getElem!_eq_getElem?_getD, List.getElem?_eq_getElem h4] at h3
    simp only [madeCells, Array.getElem_map, Array.getElem_range, List.getElem_toArray]
    exact h3
theorem make_nodes (w : World) : (Instr.makeSlice 22 (.int .i64 12) (.int .i64 12)).run Tryd.prog w = .ok (.slice (some ⟨w.heap.size, 0, none⟩) 12 12) (w.alloc (.cells (ncells (fun _ => nilA) 0 zeroT).toArray 32)) := by
  obtain ⟨i, hi, hz, hs5, hb⟩ := node_partsF
  have := run_makeSlice (P := Tryd.prog) w 22 32 i _ Tryd.underlying22 hi hz .i64 .i64 12 12 (by omega) (by omega) (by rw [hs5]; decide) (by rw [hb]; decide) (by omega)
  rw [hs5] at this
  rw [this, ← made12]
  rfl
set_option maxRecDepth 100000 in
set_option maxHeartbeats 8000000 in
theorem firstl_any (w : World) : Calls Tryd.prog 26 #[] w fun e w' => ∃ g, e = .returned (.agg #[.slice (some ⟨g, 0, none⟩) 12 12]) ∧ TLies w' (some ⟨g, 0, none⟩) 12 firstT (fun _ => nilA) ∧ Below w.heap.size w w' := by
  have hmk := fun w1 : World => make_nodes w1
  have HEM := Lib.hid (fun w1 : World => emptyd_any w1)
  obtain ⟨P, hP⟩ : ∃ p, p = w.heap.size := ⟨_, rfl⟩
  obtain ⟨Z, hZ⟩ : ∃ Z, Z = (ncells (fun _ => nilA) 0 zeroT).toArray := ⟨_, rfl⟩
  rw [← hZ] at hmk
  have HZ := Lib.hid hZ
  obtain ⟨W, hW⟩ : ∃ X, X = ((w.alloc (.cells #[.slice none 0 0] 24)).alloc (.cells Z 32)).alloc (.cells #[.slice (some ⟨w.heap.size + 1, 0, none⟩) 12 12] 24) := ⟨_, rfl⟩
  have z1 : (w.alloc (.cells #[.slice none 0 0] 24)).heap.size = P + 1 := by rw [hP]; simp
  have z2 : ((w.alloc (.cells #[.slice none 0 0] 24)).alloc (.cells Z 32)).heap.size = P + 1 + 1 := by rw [hP]; simp
  have b1 := (Below.refl (w.alloc (.cells #[.slice none 0 0] 24)).heap.size _).alloc (Nat.le_refl _) (.cells Z 32)
  have b2 := (Below.refl ((w.alloc (.cells #[.slice none 0 0] 24)).alloc (.cells Z 32)).heap.size _).alloc (Nat.le_refl _) (.cells #[.slice (some ⟨w.heap.size + 1, 0, none⟩) 12 12] 24)
  have HW0 : Hid (W.heap[P]? = some (.cells #[.slice none 0 0] 24 (0, 0))) := Lib.hid (by rw [hW]; exact (b2.block P (by omega)).trans ((b1.block P (by omega)).trans (by rw [hP]; exact heap_alloc_new _ _)))
  have HW1 : Hid (W.heap[P + 1]? = some (.cells Z 32 (0, 0))) := Lib.hid (by
    have := heap_alloc_new (w.alloc (.cells #[.slice none 0 0] 24)) (.cells Z 32)
    rw [z1] at this
    rw [hW]; exact (b2.block (P + 1) (by omega)).trans this)
  have HW2 : Hid (W.heap[P + 1 + 1]? = some (.cells #[.slice (some ⟨P + 1, 0, none⟩) 12 12] 24 (0, 0))) := Lib.hid (by
    have := heap_alloc_new ((w.alloc (.cells #[.slice none 0 0] 24)).alloc (.cells Z 32)) (.cells #[.slice (some ⟨w.heap.size + 1, 0, none⟩) 12 12] 24)
    rw [z2] at this
    rw [hP] at this ⊢
    rw [hW]; exact this)
  have HBA : Hid (Below w.heap.size w W) := Lib.hid (by rw [hW]; exact (((Below.refl _ _).alloc (Nat.le_refl _) _).alloc (by simp) _).alloc (by simp; omega) _)
  have HPP : Hid (w.heap.size = P ∧ W.heap.size = P + 3) := Lib.hid ⟨hP.symm, by rw [hW, hP]; simp⟩
  have HWW := Lib.hid hW
  have HPE := Lib.hid hP
  clear hZ hW hP b1 b2 z1 z2
  go_enter Tryd.func26, Tryd.ntmps26
  go_upto_region 2 with fail
  rw [← HWW.out, ← HPE.out]
  obtain ⟨g, hg⟩ : ∃ g, g = P + 1 := ⟨_, rfl⟩
  obtain ⟨pt, hpt⟩ : ∃ g, g = P + 1 + 1 := ⟨_, rfl⟩
  rw [← hpt] at HW2
  rw [← hg] at HW1 HW2
  rw [← hpt, ← hg]
  have HPG : Hid (g = P + 1 ∧ pt = P + 2) := Lib.hid ⟨hg, hpt⟩
  have HTB : Hid (∀ w1, Below W.heap.size W w1 → w1.cell? ⟨pt, 0, none⟩ = some (.slice (some ⟨g, 0, none⟩) 12 12)) := Lib.hid fun w1 hb => (tbox_cell ((hb.block pt (lt_size HW2.out)).trans HW2.out)).1
  clear hg hpt hmk
  refine region_tail 4 (fun j v w' => match j with | 0 => v = .pointer (some ⟨pt, 0, none⟩) | 1 => v = .slice (some ⟨g, 0, none⟩) 12 12 | 2 => v = .agg #[.int .i64 2, .int .i64 1, .int .i64 0, .slice none 0 0, .slice none 0 0] | 3 => v = .pointer (some ⟨g, 0, none⟩) | _ => True) (fun vs w' => Below W.heap.size W w' ∧ Apart2 [] vs w') (fun w1 w2 => Below w1.heap.size w1 w2) (by kernel_rfl) (by kernel_rfl) (by kernel_rfl) (by kernel_rfl) (by kernel_rfl) (by kernel_rfl) ?hR ?hG ?hops ?hend
  case hR =>
    intro j v w1 w2 hv hb
    match j, hv with
    | 0, hv => exact hv
    | 1, hv => exact hv
    | 2, hv => exact hv
    | 3, hv => exact hv
    | _ + 4, _ => exact trivial
  case hG => exact ⟨(Below.refl _ _).drew, Apart2.start (fun i hi => by cases hi)⟩
  case hops =>
    refine OpsOkS.cons ?o0 (OpsOkS.cons ?o1 (OpsOkS.cons ?o2 (OpsOkS.cons ?o3 OpsOkS.nil)))
    case o0 =>
      intro a w1 Kx hG need old hsz fresh hKx
      have e0 : a.tmps[1]?.getD undef = .pointer (some ⟨pt, 0, none⟩) := by rw [← Array.getD_eq_getD_getElem?]; exact old 1 (by kernel_rfl)
      refine op_value (v := .pointer (some ⟨pt, 0, none⟩)) (wanted_none rfl) ?_ (hKx _ w1 rfl ⟨hG.1, hG.2.keep (by decide) (Nat.le_refl _)⟩ (Below.refl _ _))
      simp [execOp, go_sem, e0]
    case o1 =>
      intro a w1 Kx hG need old hsz fresh hKx
      have e0 : a.tmps[4]?.getD undef = .pointer (some ⟨pt, 0, none⟩) := by rw [← Array.getD_eq_getD_getElem?]; exact (need 0 (by kernel_rfl) (by kernel_rfl))
      have k0 := HTB.out w1 hG.1
      refine op_value (v := .slice (some ⟨g, 0, none⟩) 12 12) (wanted_none rfl) ?_ (hKx _ w1 rfl ⟨hG.1, hG.2.keep (by decide) (Nat.le_refl _)⟩ (Below.refl _ _))
      simp [execOp, go_sem, e0, k0]
    case o2 =>
      intro a w1 Kx hG need old hsz fresh hKx
      refine op_call (wanted_none rfl) (f := 47) (args := #[.int .i64 2]) ?run ((HEM.out w1).mono ?post)
      case run => simp [go_sem]
      case post =>
        rintro e w2 ⟨rfl, hb2⟩
        exact ⟨_, rfl, hKx _ w2 rfl ⟨hG.1.trans (hb2.mono hG.1.size), hG.2.keep (by decide) hb2.size⟩ hb2⟩
    case o3 =>
      intro a w1 Kx hG need old hsz fresh hKx
      have e0 : a.tmps[5]?.getD undef = .slice (some ⟨g, 0, none⟩) 12 12 := by rw [← Array.getD_eq_getD_getElem?]; exact (need 1 (by kernel_rfl) (by kernel_rfl))
      refine op_value (v := .pointer (some ⟨g, 0, none⟩)) (wanted_none rfl) ?_ (hKx _ w1 rfl ⟨hG.1, hG.2.keep (by decide) (Nat.le_refl _)⟩ (Below.refl _ _))
      simp [execOp, go_sem, e0]
  case hend =>
    intro a w6 hG hde hsz hφ hold
    obtain rfl := act_puts [(4, .pointer (some ⟨pt, 0, none⟩)), (5, .slice (some ⟨g, 0, none⟩) 12 12), (6, .agg #[.int .i64 2, .int .i64 1, .int .i64 0, .slice none 0 0, .slice none 0 0]), (7, .pointer (some ⟨g, 0, none⟩))] [4, 5, 6, 7] rfl (by kernel_rfl) (by kernel_rfl) hde hsz (List.forall_mem_cons.2 ⟨(show a.tmps.getD 4 undef = .pointer (some ⟨pt, 0, none⟩) from (hφ 0 (by decide))), (List.forall_mem_cons.2 ⟨(show a.tmps.getD 5 undef = .slice (some ⟨g, 0, none⟩) 12 12 from (hφ 1 (by decide))), (List.forall_mem_cons.2 ⟨(show a.tmps.getD 6 undef = .agg #[.int .i64 2, .int .i64 1, .int .i64 0, .slice none 0 0, .slice none 0 0] from (hφ 2 (by decide))), (List.forall_mem_cons.2 ⟨(show a.tmps.getD 7 undef = .pointer (some ⟨g, 0, none⟩) from (hφ 3 (by decide))), (fun _ h => absurd h (by simp))⟩)⟩)⟩)⟩) hold
    clear hφ hold hsz hde
    simp only [putAll]
    simp only [List.drop_succ_cons, List.drop_zero]
    obtain ⟨hG, -⟩ := hG
    go_frame
    have HG6 := Lib.hid hG
    have h61 : w6.heap[g]? = some (.cells Z 32 (0, 0)) := (hG.block g (lt_size HW1.out)).trans HW1.out
    have HR6 : Hid (w6.ownsRow g 32 5 (.slice (some ⟨g, 0, none⟩) 12 12) 12 (ncells (fun _ => nilA) 0 zeroT)) := Lib.hid ⟨by rw [ncells_len]; rfl, .inr ⟨g, 12, Z, rfl, Nat.le_refl _, h61, Nat.le_refl _, by unfold maxLen; omega, by rw [HZ.out]; show (ncells _ _ _).length = _; rw [ncells_len]; rfl, by rw [HZ.out]; exact List.take_of_length_le (by show (ncells _ _ _).length ≤ _; rw [ncells_len]; exact Nat.le_refl _)⟩⟩
    have hna := ncells_at (fun _ => nilA) 0 zeroT 0 (by decide)
    obtain ⟨y0, f0⟩ := own_cells HR6.out (j := 0 * 5 + 0) (by omega) (hna 0 (by omega))
    obtain ⟨y1, f1⟩ := own_cells HR6.out (j := 0 * 5 + 1) (by omega) (hna 1 (by omega))
    obtain ⟨y2, f2⟩ := own_cells HR6.out (j := 0 * 5 + 2) (by omega) (hna 2 (by omega))
    obtain ⟨y3, f3⟩ := own_cells HR6.out (j := 0 * 5 + 3) (by omega) (hna 3 (by omega))
    obtain ⟨y4, f4⟩ := own_cells HR6.out (j := 0 * 5 + 4) (by omega) (hna 4 (by omega))
    rw [show (0 * 5 + 0 : Nat) = 0 from rfl] at y0 f0
    rw [show (0 * 5 + 1 : Nat) = 1 from rfl] at y1 f1
    rw [show (0 * 5 + 2 : Nat) = 2 from rfl] at y2 f2
    rw [show (0 * 5 + 3 : Nat) = 3 from rfl] at y3 f3
    rw [show (0 * 5 + 4 : Nat) = 4 from rfl] at y4 f4
    clear h61 hna hG
    go_upto_region 3 with fail
    obtain ⟨w7, hw7⟩ : ∃ X, X = ((((w6.setCell ⟨g, 0, none⟩ (.int .i64 2)).setCell ⟨g, 1, none⟩ (.int .i64 1)).setCell ⟨g, 2, none⟩ (.int .i64 0)).setCell ⟨g, 3, none⟩ (.slice none 0 0)).setCell ⟨g, 4, none⟩ (.slice none 0 0) := ⟨_, rfl⟩
    rw [← hw7]
    have hk : ∀ b, b ≠ g → w7.heap[b]? = w6.heap[b]? := fun b hb => by rw [hw7, Below.heap_setCell _ _ _ _ hb, Below.heap_setCell _ _ _ _ hb, Below.heap_setCell _ _ _ _ hb, Below.heap_setCell _ _ _ _ hb, Below.heap_setCell _ _ _ _ hb]
    have HR7 : Hid (w7.ownsRow g 32 5 (.slice (some ⟨g, 0, none⟩) 12 12) 12 (ncells (fun _ => nilA) 0 firstT)) := Lib.hid (by
      have h1 := ((((HR6.out.stored 0 (.int .i64 2)).1.stored 1 (.int .i64 1)).1.stored 2 (.int .i64 0)).1.stored 3 (.slice none 0 0)).1.stored 4 (.slice none 0 0)
      have h2 := h1.1
      rw [← hw7] at h2
      exact h2)
    have HB7 : Hid (Below w.heap.size w w7) := Lib.hid (by
      have h1 := HBA.out.trans (HG6.out.mono HBA.out.size)
      have hge : w.heap.size ≤ g := by have := HPP.out; have := HPG.out; omega
      rw [hw7]
      exact ((((h1.setCell hge _).setCell hge _).setCell hge _).setCell hge _).setCell hge _)
    have HPT : Hid (w7.heap[pt]? = some (.cells #[.slice (some ⟨g, 0, none⟩) 12 12] 24 (0, 0))) := Lib.hid ((hk pt (by have := HPG.out; omega)).trans ((HG6.out.block pt (lt_size HW2.out)).trans HW2.out))
    have HPR : Hid (w7.heap[P]? = some (.cells #[.slice none 0 0] 24 (0, 0))) := Lib.hid ((hk P (by have := HPG.out; omega)).trans ((HG6.out.block P (lt_size HW0.out)).trans HW0.out))
    obtain ⟨u0, -⟩ := tbox_cell HPT.out
    obtain ⟨u1, v1⟩ := tbox_cell HPR.out
    clear hw7 hk y0 y1 y2 y3 y4 f0 f1 f2 f3 f4
    go_wp2_with fail
    refine bodyPost_ret (results_cell_row rfl _ _ P _ _ _ _ rfl (tbox_set HPR.out _) Tryd.underlying24 rfl (by kernel_rfl)) rfl ?_
    refine ⟨g, rfl, ?_, HB7.out.setCell (by have := HPP.out; show w.heap.size ≤ P; omega) _⟩
    have hrow := own_keep HR7.out (w' := w7.setCell ⟨P, 0, none⟩ (.slice (some ⟨g, 0, none⟩) 12 12)) fun b e => Below.heap_setCell _ _ _ _ (by have := (HR7.out.lt b e).1; have := HPG.out; show b ≠ P; omega)
    have hto : TOwn (w7.setCell ⟨P, 0, none⟩ (.slice (some ⟨g, 0, none⟩) 12 12)) g (.slice (some ⟨g, 0, none⟩) 12 12) firstT (fun _ => nilA) := by
      refine ⟨hrow, fun j hj => ?_, fun j hj => ?_⟩
      · have : (firstT[j]'hj).sq = [] := by
          rcases (show j = 0 ∨ j = 1 ∨ j = 2 ∨ j = 3 ∨ j = 4 ∨ j = 5 ∨ j = 6 ∨ j = 7 ∨ j = 8 ∨ j = 9 ∨ j = 10 ∨ j = 11 by have : j < 12 := hj; omega) with rfl | rfl | rfl | rfl | rfl | rfl | rfl | rfl | rfl | rfl | rfl | rfl <;> rfl
        rw [this]
        exact iown_nil _ _
      · have : (firstT[j]'hj).en = [] := by
          rcases (show j = 0 ∨ j = 1 ∨ j = 2 ∨ j = 3 ∨ j = 4 ∨ j = 5 ∨ j = 6 ∨ j = 7 ∨ j = 8 ∨ j = 9 ∨ j = 10 ∨ j = 11 by have : j < 12 := hj; omega) with rfl | rfl | rfl | rfl | rfl | rfl | rfl | rfl | rfl | rfl | rfl | rfl <;> rfl
        rw [this]
        exact eown_nil _ _
    exact TOwn.lies (t := firstT) (cap := 12) hto (by decide) (by decide)
end Go.Proofs.YtfboilbmehcgoaaDoor

/- Layer 15's awake. -/
namespace Go.Proofs.YtfboilbmehcgoaaDoor
open Go.RowKit Go.Lib

theorem first_may : mayT firstT = true := by kernel_rfl
theorem first_find : findS firstT ⟨#[47]⟩ = (0, 0) := by kernel_rfl
theorem first_none : findS firstT ⟨#[47, 97]⟩ = (0, 8) := by kernel_rfl
theorem first_parent : parentS firstT ⟨#[47, 97]⟩ = (0, ⟨#[97]⟩, 0) := by kernel_rfl
theorem first_free : freeT firstT = 1 := by kernel_rfl
theorem first_ins : insF firstT 0 0 = true := by kernel_rfl
set_option maxRecDepth 100000 in
set_option maxHeartbeats 8000000 in
theorem awake_any (w : World) : Calls Tryd.prog 10 #[] w fun x w' => x = .returned (.bool true) ∧ Below w.heap.size w w' := by
  have HF := Lib.hid (fun w1 : World => firstl_any w1)
  have H1 : Hid (∀ (g : Nat) (w1 : World), TLies w1 (some ⟨g, 0, none⟩) 12 firstT (fun _ => nilA) → Calls Tryd.prog 17 #[.agg #[.slice (some ⟨g, 0, none⟩) 12 12], .string ⟨#[47]⟩] w1 fun x w' => x = .returned (.tuple #[.int .i64 0, .int .i64 0]) ∧ Below w1.heap.size w1 w') := Lib.hid fun g w1 h => by
    have := findSl_any firstT _ 12 _ ⟨#[47]⟩ w1 h
    rwa [first_find] at this
  have H2 : Hid (∀ (g : Nat) (w1 : World), TLies w1 (some ⟨g, 0, none⟩) 12 firstT (fun _ => nilA) → Calls Tryd.prog 17 #[.agg #[.slice (some ⟨g, 0, none⟩) 12 12], .string ⟨#[47, 97]⟩] w1 fun x w' => x = .returned (.tuple #[.int .i64 0, .int .i64 8]) ∧ Below w1.heap.size w1 w') := Lib.hid fun g w1 h => by
    have := findSl_any firstT _ 12 _ ⟨#[47, 97]⟩ w1 h
    rwa [first_none] at this
  have H3 : Hid (∀ (g : Nat) (w1 : World), TLies w1 (some ⟨g, 0, none⟩) 12 firstT (fun _ => nilA) → Calls Tryd.prog 18 #[.agg #[.slice (some ⟨g, 0, none⟩) 12 12], .string ⟨#[47, 97]⟩] w1 fun x w' => x = .returned (.tuple #[.int .i64 0, .string ⟨#[97]⟩, .int .i64 0]) ∧ Below w1.heap.size w1 w') := Lib.hid fun g w1 h => by
    have := parentl_any firstT _ 12 _ ⟨#[47, 97]⟩ w1 h
    rwa [first_parent] at this
  have H4 : Hid (∀ (g : Nat) (w1 : World), TLies w1 (some ⟨g, 0, none⟩) 12 firstT (fun _ => nilA) → Calls Tryd.prog 14 #[.agg #[.slice (some ⟨g, 0, none⟩) 12 12]] w1 fun x w' => x = .returned (.bool true) ∧ Below w1.heap.size w1 w') := Lib.hid fun g w1 h => by
    have := mayl_any firstT _ 12 _ w1 h
    rwa [first_may] at this
  have H5 : Hid (∀ (g : Nat) (w1 : World), TLies w1 (some ⟨g, 0, none⟩) 12 firstT (fun _ => nilA) → Calls Tryd.prog 23 #[.agg #[.slice (some ⟨g, 0, none⟩) 12 12]] w1 fun x w' => x = .returned (.int .i64 1) ∧ Below w1.heap.size w1 w') := Lib.hid fun g w1 h => by
    have := freel_any firstT _ 12 _ w1 h
    rwa [first_free] at this
  have H6 : Hid (∀ (g : Nat) (w1 : World), TLies w1 (some ⟨g, 0, none⟩) 12 firstT (fun _ => nilA) → Calls Tryd.prog 20 #[.agg #[.slice (some ⟨g, 0, none⟩) 12 12], .int .i64 0, .int .i64 0] w1 fun x w' => x = .returned (.bool true) ∧ Below w1.heap.size w1 w') := Lib.hid fun g w1 h => by
    have := insidel_any firstT _ 12 _ 0 0 w1 h
    rwa [first_ins] at this
  go_enter Tryd.func10, Tryd.ntmps10
  go_upto_region 2 with (first
    | (go_at_call 26; (with_reducible refine (HF.out _).mono ?_); rintro e w1 ⟨g, rfl, htl, hb1⟩; have HTL := Lib.hid htl; have HB1 := Lib.hid hb1; clear htl hb1)
    | fail)
  obtain ⟨P, hP⟩ : ∃ p, p = w1.heap.size := ⟨_, rfl⟩
  have HX := Lib.hid (heap_alloc_new w1 (.cells #[.slice (some ⟨g, 0, none⟩) 12 12] 24))
  have HBX := Lib.hid ((Below.refl w1.heap.size w1).alloc (Nat.le_refl _) (.cells #[.slice (some ⟨g, 0, none⟩) 12 12] 24))
  rw [← hP] at HX ⊢
  generalize w1.alloc _ = V at HX HBX ⊢
  have HPV : Hid (∀ v, Below V.heap.size V v → v.cell? ⟨P, 0, none⟩ = some (.slice (some ⟨g, 0, none⟩) 12 12)) := Lib.hid fun v hb => (tbox_cell ((hb.block P (lt_size HX.out)).trans HX.out)).1
  have HTV : Hid (∀ v, Below V.heap.size V v → TLies v (some ⟨g, 0, none⟩) 12 firstT (fun _ => nilA)) := Lib.hid fun v hb => HTL.out.below (HBX.out.trans (hb.mono HBX.out.size))
  have HBV : Hid (Below w.heap.size w V) := Lib.hid (HB1.out.trans (HBX.out.mono HB1.out.size))
  have q0 := HPV.out V (Below.refl _ _)
  have E0 : Hid (Below V.heap.size V V) := Lib.hid (Below.refl _ _)
  clear hP
  go_wp2_with (first
    | (go_at_call 17; (with_reducible refine (H1.out g _ (HTV.out _ E0.out)).mono ?_); rintro e w2 ⟨rfl, hb2⟩; have E1 : Hid (Below V.heap.size V w2) := Lib.hid (E0.out.trans (hb2.mono E0.out.size)); have q1 := HPV.out w2 E1.out; clear hb2)
    | (go_at_call 17; (with_reducible refine (H2.out g _ (HTV.out _ E1.out)).mono ?_); rintro e w3 ⟨rfl, hb2⟩; have E2 : Hid (Below V.heap.size V w3) := Lib.hid (E1.out.trans (hb2.mono E1.out.size)); have q2 := HPV.out w3 E2.out; clear hb2)
    | (go_at_call 18; (with_reducible refine (H3.out g _ (HTV.out _ E2.out)).mono ?_); rintro e w4 ⟨rfl, hb2⟩; have E3 : Hid (Below V.heap.size V w4) := Lib.hid (E2.out.trans (hb2.mono E2.out.size)); have q3 := HPV.out w4 E3.out; clear hb2)
    | (go_at_call 14; (with_reducible refine (H4.out g _ (HTV.out _ E3.out)).mono ?_); rintro e w5 ⟨rfl, hb2⟩; have E4 : Hid (Below V.heap.size V w5) := Lib.hid (E3.out.trans (hb2.mono E3.out.size)); have q4 := HPV.out w5 E4.out; clear hb2)
    | (go_at_call 23; (with_reducible refine (H5.out g _ (HTV.out _ E4.out)).mono ?_); rintro e w6 ⟨rfl, hb2⟩; have E5 : Hid (Below V.heap.size V w6) := Lib.hid (E4.out.trans (hb2.mono E4.out.size)); have q5 := HPV.out w6 E5.out; clear hb2)
    | (go_at_call 20; (with_reducible refine (H6.out g _ (HTV.out _ E5.out)).mono ?_); rintro e w7 ⟨rfl, hb2⟩; have E6 : Hid (Below V.heap.size V w7) := Lib.hid (E5.out.trans (hb2.mono E5.out.size)); clear hb2)
    | fail)
  go_ret
  exact ⟨rfl, HBV.out.trans (E6.out.mono HBV.out.size)⟩
end Go.Proofs.YtfboilbmehcgoaaDoor
