/- ChipFails: for every n and bytes the law answers true, and nothing that was there has turned. -/
import Derived.Test.YtdajlmbpjaoelaaLOrder
namespace Go.Proofs.Ytdajlmbpjaoelaa
open Go.RowKit

/-! ### a chip but for what stands in its pages -/
def shB (b : Bk) : Bk := { b with pages := b.pages.map fun _ => [] }
def shS (S : LS) : LS := { S with bl := S.bl.map shB }
theorem sh_blk (S : LS) (b : Int) : blkL (shS S) b = shB (blkL S b) := by
  simp only [blkL, shS, List.getD_eq_getElem?_getD, List.getElem?_map]
  cases S.bl[b.toNat]? <;> rfl
theorem sh_has (S : LS) (b pg : Int) : hasL (shS S) b pg = hasL S b pg := by simp [hasL, shS]
theorem sh_is (S : LS) (b : Int) : isL (shS S) b = isL S b := by simp [isL, shS]
theorem sh_bar (S : LS) (b : Int) : barS (shS S) b = barS S b := by
  unfold barS
  rw [sh_is, sh_blk]
  rfl
theorem sh_ref (S : LS) (b pg : Int) {n m : Nat} (h1 : 1 ≤ n) (h2 : n ≤ 2000) (h3 : 1 ≤ m) (h4 : m ≤ 2000) : refS (shS S) b pg m = refS S b pg n := by
  unfold refS
  rw [sh_has, sh_bar, sh_blk]
  have e1 : (m < 1 ∨ 2000 < m) = False := by simp; omega
  have e2 : (n < 1 ∨ 2000 < n) = False := by simp; omega
  simp only [e1, e2]
  rfl
theorem sh_set (bl : List Bk) (i : Nat) (b : Bk) : (bl.set i b).map shB = (bl.map shB).set i (shB b) := by rw [List.map_set]
theorem sh_put (S : LS) (b pg : Int) (bad : Bool) (x y : List UInt8) : (putL S b pg bad x).map shB = (putL (shS S) b pg bad y).map shB := by
  unfold putL
  rw [sh_set, sh_set, sh_blk]
  have e : (shS S).bl.map shB = S.bl.map shB := by simp [shS, shB, Function.comp_def]
  rw [e]
  congr 1
  simp [shB, List.map_set, Function.comp_def]
theorem sh_prog (S : LS) (b pg : Int) {l m : List UInt8} (h1 : 1 ≤ l.length) (h2 : l.length ≤ 2000) (h3 : 1 ≤ m.length) (h4 : m.length ≤ 2000) :
    (progL (shS S) b pg m).1 = (progL S b pg l).1 ∧ shS (progL (shS S) b pg m).2 = shS (progL S b pg l).2 := by
  have e : shS (shS S) = shS S := by simp [shS, shB, Function.comp_def]
  have hr := sh_ref S b pg h1 h2 h3 h4
  unfold progL
  rw [hr, show (shS S).c = S.c from rfl, show (shS S).f = S.f from rfl]
  by_cases h : refS S b pg l.length ≠ 0
  · rw [if_pos h, if_pos h]
    exact ⟨rfl, e⟩
  · rw [if_neg h, if_neg h]
    cases hc : S.c.hit with
    | true =>
      rw [if_pos (show true = true from rfl), if_pos (show true = true from rfl)]
      refine ⟨rfl, ?_⟩
      simp only [shS]
      congr 1
      exact (sh_put S b pg false _ _).symm
    | false =>
      rw [if_neg (show ¬ (false = true) from by simp), if_neg (show ¬ (false = true) from by simp)]
      cases hf : S.f.hit with
      | true =>
        rw [if_pos (show true = true from rfl), if_pos (show true = true from rfl)]
        refine ⟨rfl, ?_⟩
        simp only [shS]
        congr 1
        exact (sh_put S b pg true _ _).symm
      | false =>
        rw [if_neg (show ¬ (false = true) from by simp), if_neg (show ¬ (false = true) from by simp)]
        refine ⟨rfl, ?_⟩
        simp only [shS]
        congr 1
        exact (sh_put S b pg false _ _).symm
theorem sh_read (S : LS) (b pg : Int) : shS (rdL S b pg).2.2 = (rdL (shS S) b pg).2.2 ∧ (rdL S b pg).2.1 = (rdL (shS S) b pg).2.1 := by
  unfold rdL
  rw [sh_has]
  split
  · exact ⟨rfl, rfl⟩
  · show _ = (if S.dark = true then _ else _ : List UInt8 × Int × LS).2.2 ∧ _ = (if S.dark = true then _ else _ : List UInt8 × Int × LS).2.1
    split
    · exact ⟨rfl, rfl⟩
    · exact ⟨rfl, rfl⟩
/-! ### what stands in the page -/
theorem page_put {S S' : LS} {i j : Nat} {bad : Bool} {x : List UInt8} (hi : i < S.bl.length) (hj : j < S.bl[i].pages.length) (h : S'.bl = putL S i j bad x) : pageL S' i j = x := by
  unfold pageL
  rw [h]
  unfold putL
  rw [blkL_at hi]
  simp [hi, hj]
theorem page_ok {S : LS} {i j : Nat} {l : List UInt8} (hi : i < S.bl.length) (hj : j < S.bl[i].pages.length) (h : (progL S i j l).1 = 0) : pageL (progL S i j l).2 i j = l := by
  unfold progL at h ⊢
  split at h
  · next h1 => exact absurd h h1
  · next h1 =>
    rw [if_neg h1]
    split at h
    · cases h
    · next h2 =>
      rw [if_neg h2]
      split at h
      · cases h
      · next h3 =>
        rw [if_neg h3]
        exact page_put hi hj rfl
theorem page_half {S : LS} {i j : Nat} {l : List UInt8} (hi : i < S.bl.length) (hj : j < S.bl[i].pages.length) (h0 : refS S i j l.length = 0) (h : (progL S i j l).1 = 3) : pageL (progL S i j l).2 i j = l.take (l.length / 2) := by
  unfold progL at h ⊢
  split at h
  · next h1 => exact absurd h0 h1
  · next h1 =>
    rw [if_neg h1]
    split at h
    · cases h
    · next h2 =>
      rw [if_neg h2]
      split at h
      · next h3 =>
        rw [if_pos h3]
        exact page_put hi hj rfl
      · cases h
/-! ### the rounds -/
def ff (l : List UInt8) (n : Nat) (i : Nat) : LS := match i with
  | 0 => { madeS 4 4 [] with f := behindS n }
  | i + 1 => (rdL (progL (ff l n i) ((i / 4 : Nat) : Int) ((i % 4 : Nat) : Int) l).2 ((i / 4 : Nat) : Int) ((i % 4 : Nat) : Int)).2.2
theorem ff_sh {l : List UInt8} (h1 : 1 ≤ l.length) (h2 : l.length ≤ 2000) (n : Nat) : ∀ i, shS (ff l n i) = shS (ff [0] n i)
  | 0 => rfl
  | i + 1 => by
    show shS (rdL _ _ _).2.2 = shS (rdL _ _ _).2.2
    rw [(sh_read _ _ _).1, (sh_read _ _ _).1]
    congr 3
    rw [← (sh_prog (ff l n i) _ _ h1 h2 (m := [0]) (by decide) (by decide)).2, ← (sh_prog (ff [0] n i) _ _ (l := [0]) (by decide) (by decide) (m := [0]) (by decide) (by decide)).2, ff_sh h1 h2 n i]
def fwant (n i : Nat) : Int := if i = n ∨ (n < i ∧ i / 4 = n / 4) then 3 else 0
theorem ff_want : ∀ n : Fin 12, ∀ i : Fin 16, (progL (ff [0] n i) ((i.val / 4 : Nat) : Int) ((i.val % 4 : Nat) : Int) [0]).1 = fwant n i ∧
    (rdL (progL (ff [0] n i) ((i.val / 4 : Nat) : Int) ((i.val % 4 : Nat) : Int) [0]).2 ((i.val / 4 : Nat) : Int) ((i.val % 4 : Nat) : Int)).2.1 = 0 ∧
    (i.val ≤ n.val → refS (ff [0] n i) ((i.val / 4 : Nat) : Int) ((i.val % 4 : Nat) : Int) 1 = 0) ∧ (shS (ff [0] n i)).bl.map (fun b => b.pages.length) = [4, 4, 4, 4] := by decide +kernel
theorem ff_end : ∀ n : Fin 12, (tellB (shS (ff [0] n 16)) ((n.val / 4 : Nat) : Int)).bad = true ∧ (tellB (shS (ff [0] n 16)) ((n.val / 4 : Nat) : Int)).count = 0 ∧ barS (shS (ff [0] n 16)) ((n.val / 4 : Nat) : Int) = 3 := by decide +kernel
theorem rdL_page {S : LS} {b pg : Int} (h : (rdL S b pg).2.1 = 0) : (rdL S b pg).1 = pageL S b pg := by
  unfold rdL at h ⊢
  split at h
  · cases h
  · next h1 =>
    rw [if_neg h1]
    split at h
    · cases h
    · next h2 => rw [if_neg h2]
/-- A round's facts. -/
theorem ff_facts {l : List UInt8} (h1 : 1 ≤ l.length) (h2 : l.length ≤ 2000) {s j : Nat} (hs : s < 12) (hj : j < 16) :
    (progL (ff l s j) ((j : Int) / 4) ((j : Int) % 4) l).1 = fwant s j ∧ (rdL (progL (ff l s j) ((j : Int) / 4) ((j : Int) % 4) l).2 ((j : Int) / 4) ((j : Int) % 4)).2.1 = 0 ∧ (rdL (progL (ff l s j) ((j : Int) / 4) ((j : Int) % 4) l).2 ((j : Int) / 4) ((j : Int) % 4)).2.2 = ff l s (j + 1) ∧
    (j < s → (rdL (progL (ff l s j) ((j : Int) / 4) ((j : Int) % 4) l).2 ((j : Int) / 4) ((j : Int) % 4)).1 = l) ∧ (j = s → (rdL (progL (ff l s j) ((j : Int) / 4) ((j : Int) % 4) l).2 ((j : Int) / 4) ((j : Int) % 4)).1 = l.take (l.length / 2)) := by
  have e4 : (j : Int) / 4 = ((j / 4 : Nat) : Int) := by omega
  have e5 : (j : Int) % 4 = ((j % 4 : Nat) : Int) := by omega
  rw [e4, e5]
  obtain ⟨f1, f2, f3, f4⟩ := ff_want ⟨s, hs⟩ ⟨j, hj⟩
  dsimp only at f1 f2 f3 f4
  have g := ff_sh h1 h2 s j
  have p1 := sh_prog (ff l s j) ((j / 4 : Nat) : Int) ((j % 4 : Nat) : Int) h1 h2 (m := [0]) (by decide) (by decide)
  have p2 := sh_prog (ff [0] s j) ((j / 4 : Nat) : Int) ((j % 4 : Nat) : Int) (l := [0]) (by decide) (by decide) (m := [0]) (by decide) (by decide)
  rw [g] at p1
  have hc : (progL (ff l s j) ((j / 4 : Nat) : Int) ((j % 4 : Nat) : Int) l).1 = fwant s j := by rw [← p1.1, p2.1, f1]
  have hsh : shS (progL (ff l s j) ((j / 4 : Nat) : Int) ((j % 4 : Nat) : Int) l).2 = shS (progL (ff [0] s j) ((j / 4 : Nat) : Int) ((j % 4 : Nat) : Int) [0]).2 := by rw [← p1.2, p2.2]
  have hrd : (rdL (progL (ff l s j) ((j / 4 : Nat) : Int) ((j % 4 : Nat) : Int) l).2 ((j / 4 : Nat) : Int) ((j % 4 : Nat) : Int)).2.1 = 0 := by rw [(sh_read _ _ _).2, hsh, ← (sh_read _ _ _).2]; exact f2
  have hlen : (ff l s j).bl.map (fun b => b.pages.length) = [4, 4, 4, 4] := by
    rw [← f4, ← g]
    simp [shS, shB, Function.comp_def]
  have hbl : (ff l s j).bl.length = 4 := by have := congrArg List.length hlen; simpa using this
  have hi : j / 4 < (ff l s j).bl.length := by omega
  have hpg : (ff l s j).bl[j / 4].pages.length = 4 := by
    have h5 : ((ff l s j).bl.map (fun b => b.pages.length))[j / 4]? = [4, 4, 4, 4][j / 4]? := by rw [hlen]
    rw [List.getElem?_map, List.getElem?_eq_getElem hi] at h5
    have h6 : j / 4 = 0 ∨ j / 4 = 1 ∨ j / 4 = 2 ∨ j / 4 = 3 := by omega
    rcases h6 with e | e | e | e <;> (simp only [e] at h5 ⊢; simpa using h5)
  refine ⟨hc, hrd, rfl, fun hlt => ?_, fun he => ?_⟩
  · rw [rdL_page hrd]
    exact page_ok hi (by omega) (by rw [hc]; exact if_neg (by omega))
  · rw [rdL_page hrd]
    refine page_half hi (by omega) ?_ (by rw [hc]; exact if_pos (.inl he))
    rw [← sh_ref (ff l s j) _ _ h1 h2 (m := 1) (by decide) (by decide), g, sh_ref (ff [0] s j) _ _ (n := 1) (by decide) (by decide) (by decide) (by decide)]
    exact f3 (by omega)
theorem sh_last (S : LS) (k : Int) (f1 : (tellB (shS S) k).bad = true) (f2 : (tellB (shS S) k).count = 0) (f3 : barS (shS S) k = 3) : (tellB S k).bad = true ∧ (tellB S k).count = 0 ∧ eraseL S k = (3, S) := by
  have ht : tellB (shS S) k = shB (tellB S k) := by
    unfold tellB
    rw [sh_is, sh_blk]
    split <;> rfl
  rw [ht] at f1 f2
  rw [sh_bar] at f3
  refine ⟨f1, f2, ?_⟩
  unfold eraseL
  rw [if_pos (by rw [f3]; decide), f3]
theorem ff_last {l : List UInt8} (h1 : 1 ≤ l.length) (h2 : l.length ≤ 2000) {s : Nat} (hs : s < 12) : (tellB (ff l s 16) ((s : Int) / 4)).bad = true ∧ (tellB (ff l s 16) ((s : Int) / 4)).count = 0 ∧ eraseL (ff l s 16) ((s : Int) / 4) = (3, ff l s 16) := by
  have e4 : (s : Int) / 4 = ((s / 4 : Nat) : Int) := by omega
  rw [e4]
  obtain ⟨f1, f2, f3⟩ := ff_end ⟨s, hs⟩
  dsimp only at f1 f2 f3
  rw [← ff_sh h1 h2 s 16] at f1 f2 f3
  exact sh_last _ _ f1 f2 f3
set_option maxRecDepth 100000 in
set_option maxHeartbeats 8000000 in
theorem fails_in (n : Int) (A : Option Addr) (c : Nat) (l : List UInt8) (w : World) (hr : RB w w.heap.size A l) (h1 : 1 ≤ l.length) (h2 : l.length ≤ 100) (hlc : l.length ≤ c) :
    Calls Try.prog 8 #[.int .i64 n, .slice A l.length c] w (Holds w) := by
  obtain ⟨s, hs1, hs⟩ := small_of n 12 (by omega) (by omega)
  have HN := Lib.hid (held_new (w := w) 4 4 none 0 [] (fun h => absurd h (by simp)) (by decide) (by decide) (by decide) (by decide) (by decide))
  have HC := Lib.hid (cb_of hr)
  clear hr
  obtain ⟨ad, hAd, _, _⟩ := HC.out (by omega)
  subst hAd
  have hs9 : (s : Int) ≤ 9223372036854775807 := by omega
  go_enter Try.func8, Try.ntmps8
  go_wp2_with (first
    | (go_at_call 12; refine HN.out.mono ?_; rintro e w1 ⟨p, rfl, hH, hB⟩; have H0 := Lib.hid hH; have HB0 := Lib.hid hB; clear hH hB)
    | (go_at_call 18; (with_reducible refine (held_fail s hs9 H0.out).mono ?_); rintro e w2 ⟨rfl, hH2, hs2⟩; have H2 := Lib.hid (show Held w2 _ (fun b => b < w.heap.size) (ff l s 0) from hH2); have HB2 := Lib.hid (HB0.out.trans (Safe.below hs2 (fun b hb => hb) HB0.out.size)); clear hH2 hs2))
  go_loopw [6, 7, 8, 9, 10, 11, 29] (fun _ _ _ _ _ _ i wr => ∃ j : Nat, j ≤ 16 ∧ i = .int .i64 j ∧ Held wr p (fun b => b < w.heap.size) (ff l s j) ∧ Below w.heap.size w wr) (fun _ _ _ _ _ _ i _ => 16 - (intOf i).toNat)
  case atStart => exact ⟨0, by omega, rfl, H2.out, HB2.out⟩
  case round =>
    obtain ⟨j, hj, rfl, hH, hB⟩ := hrel
    have H1 := Lib.hid hH
    have HB1 := Lib.hid hB
    clear hH hB H2 HB2
    by_cases hj16 : j < 16
    · obtain ⟨g1, g2, g3, g4, g5⟩ := ff_facts (l := l) (s := s) h1 (by omega) (by omega) hj16
      have HP := Lib.hid (held_prog (some ad) c l ((j : Int) / 4) ((j : Int) % 4) (H1.out.alloc (.cells #[.int .i64 ((j : Int) / 4), .int .i64 ((j : Int) % 4)] 31)) (HC.out.keep (fun b hb => ((HB1.out.alloc HB1.out.size _).block b hb)) (fun _ h => .inl h)))
      have RC := Lib.hid g2
      have ST := Lib.hid g3
      have HE := Lib.hid (show True from trivial)
      clear g2 g3
      by_cases c1 : j = s
      · subst c1
        have PG := Lib.hid (g5 rfl)
        have CD := Lib.hid (g1.trans (if_pos (.inl rfl)))
        clear g1 g4 g5
        have he := HE.out
        go_wp2_with (first
          | (go_at_call 26; (with_reducible refine HP.out.mono ?_); rintro e w3 ⟨rfl, hH3, hs3⟩; rw [CD.out]; obtain ⟨d0, d1, _, _⟩ := cells2' ((Safe.block hs3 (by simp) (.inr rfl)).trans (heap_alloc_new _ _)); have H3 := Lib.hid hH3; have S3 := Lib.hid hs3; clear hH3 hs3)
          | (go_at_call 14; (with_reducible refine (held_read ((j : Int) / 4) ((j : Int) % 4) H3.out).mono ?_); rintro e w4 ⟨A4, L4, rfl, hL4, hc4, hH4, hs4⟩; rw [RC.out]; have H4 := Lib.hid hH4; have S4 := Lib.hid hs4; have hL := Lib.hid hL4.out; have hC4 := Lib.hid hc4; clear hH4 hs4 hL4 hc4))
        have z1 := HB1.out.size
        have z3 := S3.out.size
        have z4 := S4.out.size
        have z0 : wr.heap.size < (wr.alloc (.cells #[.int .i64 ((j : Int) / 4), .int .i64 ((j : Int) % 4)] 31)).heap.size := by simp
        have b4 : Below w.heap.size w w4 := (HB1.out.alloc z1 _).trans ((Safe.below S3.out (fun b hb => .inl hb) (by omega)).trans (Safe.below S4.out (fun b hb => .inl hb) (by omega)))
        have HB4 := Lib.hid b4
        clear b4 z0 z1 z3 z4 he
        have hst1 : ∀ k, (convert 32 9 (.slice A4 L4.length L4.length)).run Try.prog (w4.drewN k) = .ok (.string (strOf (l.take (l.length / 2)))) (w4.drewN k) := fun k => by
          have := run_str ((hC4.out.rb (B := w4.heap.size) (fun b hb => hb.2)).drewN k) L4.length
          rw [show strOf L4 = strOf (l.take (l.length / 2)) from congrArg strOf (hL.out.trans (PG.out))] at this
          exact this
        obtain ⟨m, hm, hm2⟩ := half (l := l) (by omega)
        have hmc : m ≤ c := by omega
        have hst2 : ∀ k, (convert 32 9 (.slice (some ad) m c)).run Try.prog (w4.drewN k) = .ok (.string (strOf (l.take (l.length / 2)))) (w4.drewN k) := fun k => by
          have h9 : m = (l.take (l.length / 2)).length := by rw [List.length_take, hm2]; omega
          rw [h9]
          exact run_str ((((HC.out.keep (fun b hb => HB4.out.block b hb) (fun _ h => h)).rb (B := w4.heap.size) (fun b hb => Nat.lt_of_lt_of_le hb HB4.out.size)).take _).drewN k) c
        clear hm2
        go_quiet (fail)
        go_wp2
        go_roundw
        case rel => exact ⟨j + 1, by omega, by simp, (H4.out.drewN _).less (fun b hb => .inl (.inl hb)) |> (fun h => by rw [ST.out] at h; exact h), drewN_below HB4.out _⟩
        case measure => simp [intOf]; omega
      · have b1 : ((j : Int) == (s : Int)) = false := by simp; omega
        have b1n : (j == s) = false := by simp; omega
        by_cases c2 : s < j
        · have b2 : decide ((j : Int) < (s : Int)) = false := by simp; omega
          have b2n : decide (j < s) = false := by simp; omega
          by_cases c3 : j / 4 = s / 4
          · have b3 : ((j : Int) / 4 == (s : Int) / 4) = true := by simp; omega
            have CD := Lib.hid (g1.trans (if_pos (.inr ⟨c2, c3⟩)))
            clear g1 g4 g5
            have he := HE.out
            go_wp2_with (first
              | (go_at_call 26; (with_reducible refine HP.out.mono ?_); rintro e w3 ⟨rfl, hH3, hs3⟩; rw [CD.out]; obtain ⟨d0, d1, _, _⟩ := cells2' ((Safe.block hs3 (by simp) (.inr rfl)).trans (heap_alloc_new _ _)); have H3 := Lib.hid hH3; have S3 := Lib.hid hs3; clear hH3 hs3)
              | (go_at_call 14; (with_reducible refine (held_read ((j : Int) / 4) ((j : Int) % 4) H3.out).mono ?_); rintro e w4 ⟨A4, L4, rfl, hL4, hc4, hH4, hs4⟩; rw [RC.out]; have H4 := Lib.hid hH4; have S4 := Lib.hid hs4; have hL := Lib.hid hL4.out; have hC4 := Lib.hid hc4; clear hH4 hs4 hL4 hc4))
            have z1 := HB1.out.size
            have z3 := S3.out.size
            have z4 := S4.out.size
            have z0 : wr.heap.size < (wr.alloc (.cells #[.int .i64 ((j : Int) / 4), .int .i64 ((j : Int) % 4)] 31)).heap.size := by simp
            have b4 : Below w.heap.size w w4 := (HB1.out.alloc z1 _).trans ((Safe.below S3.out (fun b hb => .inl hb) (by omega)).trans (Safe.below S4.out (fun b hb => .inl hb) (by omega)))
            have HB4 := Lib.hid b4
            clear b4 z0 z1 z3 z4 he
            go_quiet (fail)
            go_wp2
            go_roundw
            case rel => exact ⟨j + 1, by omega, by simp, (H4.out.drewN _).less (fun b hb => .inl (.inl hb)) |> (fun h => by rw [ST.out] at h; exact h), drewN_below HB4.out _⟩
            case measure => simp [intOf]; omega
          · have b3 : ((j : Int) / 4 == (s : Int) / 4) = false := by simp; omega
            have CD := Lib.hid (g1.trans (if_neg (by omega)))
            clear g1 g4 g5
            have he := HE.out
            go_wp2_with (first
              | (go_at_call 26; (with_reducible refine HP.out.mono ?_); rintro e w3 ⟨rfl, hH3, hs3⟩; rw [CD.out]; obtain ⟨d0, d1, _, _⟩ := cells2' ((Safe.block hs3 (by simp) (.inr rfl)).trans (heap_alloc_new _ _)); have H3 := Lib.hid hH3; have S3 := Lib.hid hs3; clear hH3 hs3)
              | (go_at_call 14; (with_reducible refine (held_read ((j : Int) / 4) ((j : Int) % 4) H3.out).mono ?_); rintro e w4 ⟨A4, L4, rfl, hL4, hc4, hH4, hs4⟩; rw [RC.out]; have H4 := Lib.hid hH4; have S4 := Lib.hid hs4; have hL := Lib.hid hL4.out; have hC4 := Lib.hid hc4; clear hH4 hs4 hL4 hc4))
            have z1 := HB1.out.size
            have z3 := S3.out.size
            have z4 := S4.out.size
            have z0 : wr.heap.size < (wr.alloc (.cells #[.int .i64 ((j : Int) / 4), .int .i64 ((j : Int) % 4)] 31)).heap.size := by simp
            have b4 : Below w.heap.size w w4 := (HB1.out.alloc z1 _).trans ((Safe.below S3.out (fun b hb => .inl hb) (by omega)).trans (Safe.below S4.out (fun b hb => .inl hb) (by omega)))
            have HB4 := Lib.hid b4
            clear b4 z0 z1 z3 z4 he
            go_quiet (fail)
            go_wp2
            go_roundw
            case rel => exact ⟨j + 1, by omega, by simp, (H4.out.drewN _).less (fun b hb => .inl (.inl hb)) |> (fun h => by rw [ST.out] at h; exact h), drewN_below HB4.out _⟩
            case measure => simp [intOf]; omega
        · have b2 : decide ((j : Int) < (s : Int)) = true := by simp; omega
          have b2n : decide (j < s) = true := by simp; omega
          have PG := Lib.hid (g4 (by omega))
          have CD := Lib.hid (g1.trans (if_neg (by omega)))
          clear g1 g4 g5
          have he := HE.out
          go_wp2_with (first
            | (go_at_call 26; (with_reducible refine HP.out.mono ?_); rintro e w3 ⟨rfl, hH3, hs3⟩; rw [CD.out]; obtain ⟨d0, d1, _, _⟩ := cells2' ((Safe.block hs3 (by simp) (.inr rfl)).trans (heap_alloc_new _ _)); have H3 := Lib.hid hH3; have S3 := Lib.hid hs3; clear hH3 hs3)
            | (go_at_call 14; (with_reducible refine (held_read ((j : Int) / 4) ((j : Int) % 4) H3.out).mono ?_); rintro e w4 ⟨A4, L4, rfl, hL4, hc4, hH4, hs4⟩; rw [RC.out]; have H4 := Lib.hid hH4; have S4 := Lib.hid hs4; have hL := Lib.hid hL4.out; have hC4 := Lib.hid hc4; clear hH4 hs4 hL4 hc4))
          have z1 := HB1.out.size
          have z3 := S3.out.size
          have z4 := S4.out.size
          have z0 : wr.heap.size < (wr.alloc (.cells #[.int .i64 ((j : Int) / 4), .int .i64 ((j : Int) % 4)] 31)).heap.size := by simp
          have b4 : Below w.heap.size w w4 := (HB1.out.alloc z1 _).trans ((Safe.below S3.out (fun b hb => .inl hb) (by omega)).trans (Safe.below S4.out (fun b hb => .inl hb) (by omega)))
          have HB4 := Lib.hid b4
          clear b4 z0 z1 z3 z4 he
          have hst1 : ∀ k, (convert 32 9 (.slice A4 L4.length L4.length)).run Try.prog (w4.drewN k) = .ok (.string (strOf l)) (w4.drewN k) := fun k => by
            have := run_str ((hC4.out.rb (B := w4.heap.size) (fun b hb => hb.2)).drewN k) L4.length
            rw [show strOf L4 = strOf l from congrArg strOf (hL.out.trans (PG.out))] at this
            exact this
          have hst2 : ∀ k, (convert 32 9 (.slice (some ad) l.length c)).run Try.prog (w4.drewN k) = .ok (.string (strOf l)) (w4.drewN k) := fun k =>
            run_str (((HC.out.keep (fun b hb => HB4.out.block b hb) (fun _ h => h)).rb (B := w4.heap.size) (fun b hb => Nat.lt_of_lt_of_le hb HB4.out.size)).drewN k) c
          go_quiet (fail)
          go_wp2
          go_roundw
          case rel => exact ⟨j + 1, by omega, by simp, (H4.out.drewN _).less (fun b hb => .inl (.inl hb)) |> (fun h => by rw [ST.out] at h; exact h), drewN_below HB4.out _⟩
          case measure => simp [intOf]; omega
    · obtain rfl : j = 16 := by omega
      obtain ⟨k1, k2, k3⟩ := ff_last (l := l) (s := s) h1 (by omega) (by omega)
      have K1 := Lib.hid k1
      have K2 := Lib.hid k2
      have K3 := Lib.hid k3
      clear k1 k2 k3
      go_wp2_with (first
        | (go_at_call 31; (with_reducible refine (held_block ((s : Int) / 4) H1.out).mono ?_); rintro e w5 ⟨v, rfl, ⟨A5, c5, rfl, hv5⟩, hb5⟩; rw [K1.out]; have fl5 := field_bad true (tellB (ff l s 16) ((s : Int) / 4)).next (tellB (ff l s 16) ((s : Int) / 4)).count A5 (tellB (ff l s 16) ((s : Int) / 4)).pages.length c5; have HB5 := Lib.hid hb5; clear hb5 hv5)
        | (go_at_call 16; (with_reducible refine (held_erase ((s : Int) / 4) (H1.out.below HB5.out)).mono ?_); rintro e w6 ⟨rfl, hH6, hs6⟩; rw [K3.out] at hH6 ⊢; have H6 := Lib.hid hH6; have S6 := Lib.hid hs6; clear hH6 hs6)
        | (go_at_call 31; (with_reducible refine (held_block ((s : Int) / 4) H6.out).mono ?_); rintro e w7 ⟨v, rfl, ⟨A7, c7, rfl, hv7⟩, hb7⟩; rw [K2.out]; have fl7 := field_count (tellB (ff l s 16) ((s : Int) / 4)).bad (tellB (ff l s 16) ((s : Int) / 4)).next 0 A7 (tellB (ff l s 16) ((s : Int) / 4)).pages.length c7; have HB7 := Lib.hid hb7; clear hb7 hv7)
        | (go_at_call 11; (with_reducible refine (awake_any _).mono ?_); rintro e w9 ⟨rfl, hb9⟩))
      go_ret
      have z1 := HB1.out.size
      have z5 := HB5.out.size
      have z6 := S6.out.size
      have z7 := HB7.out.size
      exact ⟨rfl, (HB1.out.trans (HB5.out.mono z1)).trans ((Safe.below S6.out (fun b hb => hb) (by omega)).trans ((HB7.out.trans (hb9.mono z7)).mono (by omega)))⟩
theorem fails_any (n : Int) (A : Option Addr) (c : Nat) (l : List UInt8) (w : World) (hr : RB w w.heap.size A l) (hlc : l.length ≤ c) :
    Calls Try.prog 8 #[.int .i64 n, .slice A l.length c] w (Holds w) := by
  by_cases h2 : 1 ≤ l.length
  · by_cases h3 : l.length ≤ 100
    · exact fails_in n A c l w hr h2 h3 hlc
    · go_enter Try.func8, Try.ntmps8
      go_wp2_with (go_at_call 11; (with_reducible refine (awake_any _).mono ?_); rintro e w9 ⟨rfl, hb9⟩)
      go_ret
      exact ⟨rfl, hb9⟩
  · go_enter Try.func8, Try.ntmps8
    go_wp2_with (go_at_call 11; (with_reducible refine (awake_any _).mono ?_); rintro e w9 ⟨rfl, hb9⟩)
    go_ret
    exact ⟨rfl, hb9⟩
end Go.Proofs.Ytdajlmbpjaoelaa
