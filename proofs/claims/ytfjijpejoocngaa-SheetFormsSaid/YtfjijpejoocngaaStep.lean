/- Number and Text of a reader of package bytes: what they tell, what is left, the error. -/
import Derived.Test.YtfjijpejoocngaaRead
namespace Go.Proofs.Ytfjijpejoocngaa
open Go.RowKit

/-- What is left, and the error. -/
abbrev RS := List UInt8 × Int
def numStep (s : RS) (most : Int) : Int × RS :=
  if s.2 ≠ 0 then (0, s) else match readL s.1 most with
    | none => (0, (s.1, 5))
    | some (n, k) => (n, (s.1.drop k, 0))
def textStep (s : RS) (most : Int) : List UInt8 × RS :=
  if s.2 ≠ 0 then ([], s) else match readL s.1 most with
    | none => ([], (s.1, 5))
    | some (n, k) => if s.1.length < k + n then ([], (s.1, 5)) else ((s.1.drop k).take n, (s.1.drop (k + n), 0))
theorem block_set0 {w : World} {p : Nat} {a b u : Value} {t : TypeId} (h : w.heap[p]? = some (.cells #[a, b] t (0, 0))) : (w.setCell ⟨p, 0, none⟩ u).heap[p]? = some (.cells #[u, b] t (0, 0)) := by
  obtain ⟨hlt, he⟩ := Array.getElem?_eq_some_iff.1 h
  simp [World.setCell, Array.getElem?_modify, h]
theorem block_set1 {w : World} {p : Nat} {a b u : Value} {t : TypeId} (h : w.heap[p]? = some (.cells #[a, b] t (0, 0))) : (w.setCell ⟨p, 1, none⟩ u).heap[p]? = some (.cells #[a, u] t (0, 0)) := by
  obtain ⟨hlt, he⟩ := Array.getElem?_eq_some_iff.1 h
  simp [World.setCell, Array.getElem?_modify, h]
theorem cells2 {w : World} {p : Nat} {a b : Value} {t : TypeId} (h : w.heap[p]? = some (.cells #[a, b] t (0, 0))) : w.cell? ⟨p, 0, none⟩ = some a ∧ w.cell? ⟨p, 1, none⟩ = some b ∧ w.frozen? ⟨p, 0, none⟩ = false ∧ w.frozen? ⟨p, 1, none⟩ = false := by
  simp [World.cell?, World.frozen?, h]
/-- What a call of a reader leaves. -/
def Stepped (t : TypeId) (p B : Nat) (s : RS) (w w' : World) : Prop := RD t w' p B s.1 s.2 ∧ Touch p w w'
def NumPost (t : TypeId) (p B : Nat) (s : RS) (most : Int) (w : World) (e : Ending) (w' : World) : Prop :=
  e = .returned (.int .i64 (numStep s most).1) ∧ Stepped t p B (numStep s most).2 w w'
def TextPost (t : TypeId) (p B : Nat) (s : RS) (most : Int) (w : World) (e : Ending) (w' : World) : Prop :=
  ∃ (A : Option Addr) (c : Nat) (L : List UInt8), e = .returned (.slice A L.length c) ∧ Hid (L = (textStep s most).1) ∧ RB w' w'.heap.size A L ∧ (∀ ad, A = some ad → w.heap.size ≤ ad.block) ∧ Stepped t p B (textStep s most).2 w w'
theorem RD.failed {t : TypeId} {w : World} {p B : Nat} {l : List UInt8} {er : Int} (h : RD t w p B l er) : RD t (w.setCell ⟨p, 1, none⟩ (.int .i64 5)) p B l 5 := by
  obtain ⟨A, c, hp, hr, h1, h2, h3⟩ := h
  exact ⟨A, c, block_set1 hp, hr.setCell h2 _, h1, h2, h3⟩
/-- Some of what is left has been read. -/
theorem RD.cut {t : TypeId} {w : World} {p B c c' k m : Nat} {A A' : Option Addr} {l : List UInt8} {er : Int} (hp : w.heap[p]? = some (.cells #[.slice A l.length c, .int .i64 er] t (0, 0))) (hr : RB w B A' (l.drop k)) (hm : m = l.length - k) (h1 : m ≤ c') (h2 : B ≤ p) (h3 : l.length ≤ 70368744177664) :
    RD t (w.setCell ⟨p, 0, none⟩ (.slice A' m c')) p B (l.drop k) er := by
  subst hm
  exact ⟨A', c', by rw [List.length_drop]; exact block_set0 hp, hr.setCell h2 _, by rw [List.length_drop]; exact h1, h2, by rw [List.length_drop]; omega⟩
/-- What is left lies where it lay, or further on. -/
theorem RB.rest {w : World} {B k c : Nat} {A : Option Addr} {l : List UInt8} (h : RB w B A l) (hk : k ≤ l.length) (hc : l.length ≤ c) : (c = k → RB w B A (l.drop k)) ∧ (c ≠ k → RB w B (A.map (·.add k)) (l.drop k)) :=
  ⟨fun e => by have := h.drop hk hc; rwa [if_pos e] at this, fun e => by have := h.drop hk hc; rwa [if_neg e] at this⟩

set_option maxRecDepth 100000 in
set_option maxHeartbeats 1000000 in
theorem number_any (p B : Nat) (l : List UInt8) (er : Int) (most : Int) (w : World) (h : RD 59 w p B l er) :
    Calls Try.prog 27 #[.pointer (some ⟨p, 0, none⟩), .int .i64 most] w (NumPost 59 p B (l, er) most w) := by
  by_cases her : er = 0
  · subst her
    have h' := h
    obtain ⟨A, c, hp, hr, h1, h2, h3⟩ := h
    obtain ⟨hc0, hc1, hf0, hf1⟩ := cells2 hp
    cases hrd : readL l most with
    | none =>
      have e1 : numStep (l, 0) most = (0, (l, 5)) := by simp [numStep, hrd]
      have H1 := Lib.hid e1
      have H2 := Lib.hid hrd
      have HP := Lib.hid hp
      clear hrd e1 hp
      go_enter Try.func27, Try.ntmps27
      go_wp2_with (first | (go_at_call 29; refine (err_any p B l 0 _ h').mono ?_; rintro e w' ⟨rfl, rfl⟩) | (go_at_call 38; refine (parse_any B A c l most _ hr h1 h3).mono ?_; rintro e w' ⟨rfl, rfl⟩; rw [H2.out]; simp only [told, Option.getD_none]))
      go_ret
      exact ⟨by rw [H1.out]; rfl, by rw [H1.out]; exact ⟨h'.failed, (Touch.refl _ _).setCell _ _⟩⟩
    | some x =>
      obtain ⟨n, k⟩ := x
      obtain ⟨hk1, hk6, hkl, _, _, hn⟩ := read_back l most n k hrd
      have e1 : numStep (l, 0) most = ((n : Int), (l.drop k, 0)) := by simp [numStep, hrd]
      have hk0 : ((k : Int) == 0) = false := by simp; omega
      have H1 := Lib.hid e1
      have H2 := Lib.hid hrd
      have HP := Lib.hid hp
      clear hrd e1 hp
      have hrest := hr.rest hkl h1
      by_cases hck : c = k
      · have hr' := hrest.1 hck
        clear hrest
        subst hck
        go_enter Try.func27, Try.ntmps27
        go_wp2_with (first | (go_at_call 29; refine (err_any p B l 0 _ h').mono ?_; rintro e w' ⟨rfl, rfl⟩) | (go_at_call 38; refine (parse_any B A _ l most _ hr h1 h3).mono ?_; rintro e w' ⟨rfl, rfl⟩; rw [H2.out]; simp only [told, Option.getD_some]))
        go_ret
        exact ⟨by rw [H1.out]; rfl, by rw [H1.out]; exact ⟨RD.cut HP.out hr' (by omega) (by omega) h2 h3, (Touch.refl _ _).setCell _ _⟩⟩
      · have hr' := hrest.2 hck
        clear hrest
        go_enter Try.func27, Try.ntmps27
        go_wp2_with (first | (go_at_call 29; refine (err_any p B l 0 _ h').mono ?_; rintro e w' ⟨rfl, rfl⟩) | (go_at_call 38; refine (parse_any B A _ l most _ hr h1 h3).mono ?_; rintro e w' ⟨rfl, rfl⟩; rw [H2.out]; simp only [told, Option.getD_some]))
        go_ret
        exact ⟨by rw [H1.out]; rfl, by rw [H1.out]; exact ⟨RD.cut HP.out hr' (by omega) (by omega) h2 h3, (Touch.refl _ _).setCell _ _⟩⟩
  · have e1 : numStep (l, er) most = (0, (l, er)) := by simp [numStep, her]
    have H1 := Lib.hid e1
    have hne : (er != 0) = true := by simpa using her
    clear e1
    go_enter Try.func27, Try.ntmps27
    go_wp2_with (go_at_call 29; refine (err_any p B l er _ h).mono ?_; rintro e w' ⟨rfl, rfl⟩)
    go_ret
    exact ⟨by rw [H1.out]; rfl, by rw [H1.out]; exact ⟨h, Touch.refl _ _⟩⟩

theorem clone_len (B : Nat) (A : Option Addr) (c m : Nat) (l : List UInt8) (w : World) (hm : m = l.length) (h : RB w B A l) (hB : B ≤ w.heap.size) (hl : l.length ≤ 70368744177664) :
    Calls Try.prog 37 #[.slice A m c] w (Fresh w l) := by
  subst hm
  exact clone_any B A c l w h hB hl
set_option maxRecDepth 100000 in
set_option maxHeartbeats 2000000 in
theorem text_any (p B : Nat) (l : List UInt8) (er : Int) (most : Int) (w : World) (h : RD 59 w p B l er) :
    Calls Try.prog 28 #[.pointer (some ⟨p, 0, none⟩), .int .i64 most] w (TextPost 59 p B (l, er) most w) := by
  by_cases her : er = 0
  · subst her
    have h' := h
    obtain ⟨A, c, hp, hr, h1, h2, h3⟩ := h
    obtain ⟨hc0, hc1, hf0, hf1⟩ := cells2 hp
    have hpl := lt_size hp
    cases hrd : readL l most with
    | none =>
      have e1 : textStep (l, 0) most = ([], (l, 5)) := by simp [textStep, hrd]
      have H1 := Lib.hid e1
      have H2 := Lib.hid hrd
      have HP := Lib.hid hp
      clear hrd e1 hp
      go_enter Try.func28, Try.ntmps28
      go_wp2_with (first | (go_at_call 29; refine (err_any p B l 0 _ h').mono ?_; rintro e w' ⟨rfl, rfl⟩) | (go_at_call 38; refine (parse_any B A c l most _ hr h1 h3).mono ?_; rintro e w' ⟨rfl, rfl⟩; rw [H2.out]; simp only [told, Option.getD_none]))
      go_ret
      exact ⟨none, 0, [], rfl, by rw [H1.out]; rfl, .nil, fun _ e => (by cases e), by rw [H1.out]; exact ⟨h'.failed, (Touch.refl _ _).setCell _ _⟩⟩
    | some x =>
      obtain ⟨n, k⟩ := x
      obtain ⟨hk1, hk6, hkl, _, _, hn⟩ := read_back l most n k hrd
      have hk0 : ((k : Int) == 0) = false := by simp; omega
      by_cases hlk : l.length < k + n
      · have e1 : textStep (l, 0) most = ([], (l, 5)) := by simp [textStep, hrd, hlk]
        have H1 := Lib.hid e1
        have H2 := Lib.hid hrd
        have HP := Lib.hid hp
        clear hrd e1 hp
        go_enter Try.func28, Try.ntmps28
        go_wp2_with (first | (go_at_call 29; refine (err_any p B l 0 _ h').mono ?_; rintro e w' ⟨rfl, rfl⟩) | (go_at_call 38; refine (parse_any B A c l most _ hr h1 h3).mono ?_; rintro e w' ⟨rfl, rfl⟩; rw [H2.out]; simp only [told, Option.getD_some]))
        go_ret
        exact ⟨none, 0, [], rfl, by rw [H1.out]; rfl, .nil, fun _ e => (by cases e), by rw [H1.out]; exact ⟨h'.failed, (Touch.refl _ _).setCell _ _⟩⟩
      · have e1 : textStep (l, 0) most = ((l.drop k).take n, (l.drop (k + n), 0)) := by simp [textStep, hrd, hlk]
        have H1 := Lib.hid e1
        have H2 := Lib.hid hrd
        have HP := Lib.hid hp
        clear hrd e1 hp
        have hrest := hr.rest hkl h1
        have hrest2 := hr.rest (k := k + n) (by omega) h1
        have hlen : n = ((l.drop k).take n).length := by simp; omega
        by_cases hck : c = k
        · have hrc := (hrest.1 hck).take n
          have hrn := hrest2.1 (by omega)
          obtain rfl : n = 0 := by omega
          subst hck
          clear hrest hrest2
          have Hlen := Lib.hid hlen
          clear hlen
          go_enter Try.func28, Try.ntmps28
          go_wp2_with (first | (go_at_call 29; refine (err_any p B l 0 _ h').mono ?_; rintro e w' ⟨rfl, rfl⟩) | (go_at_call 38; refine (parse_any B A _ l most _ hr h1 h3).mono ?_; rintro e w' ⟨rfl, rfl⟩; rw [H2.out]; simp only [told, Option.getD_some]) | fail)
          refine (clone_len B _ _ _ ((l.drop c).take 0) _ Hlen.out hrc (by omega) (by have := List.length_take_le 0 (l.drop c); rw [← Hlen.out]; omega)).mono ?_
          rintro e w1 ⟨A1, c1, L1, rfl, hL1, hc1, hr1, hn1, hb1⟩
          have hs1 := hb1.size
          have hc0' : w1.cell? ⟨p, 0, none⟩ = some _ := (hb1.cell (p := ⟨p, 0, none⟩) hpl).trans hc0
          have hf0' : w1.frozen? ⟨p, 0, none⟩ = false := (hb1.frozen (p := ⟨p, 0, none⟩) hpl).trans hf0
          have hp1 := Lib.hid ((hb1.block p hpl).trans HP.out)
          have hrn' := hrn.below hb1 (by omega)
          clear hc0 hf0 hc1 hf1
          go_wp2
          go_ret
          exact ⟨A1, c1, L1, rfl, by rw [H1.out]; exact hL1, by simpa using hr1.setFar (fun ad e _ => (by have := hn1 ad e; omega)) _, hn1, by rw [H1.out]; exact ⟨RD.cut hp1.out hrn' (by omega) (by omega) h2 h3, (Touch.of_below hb1).setCell _ _⟩⟩
        · have hrc := (hrest.2 hck).take n
          by_cases hcn : c = k + n
          · have hrn := hrest2.1 hcn
            clear hrest hrest2
            have Hlen := Lib.hid hlen
            clear hlen
            subst hcn
            go_enter Try.func28, Try.ntmps28
            go_wp2_with (first | (go_at_call 29; refine (err_any p B l 0 _ h').mono ?_; rintro e w' ⟨rfl, rfl⟩) | (go_at_call 38; refine (parse_any B A _ l most _ hr h1 h3).mono ?_; rintro e w' ⟨rfl, rfl⟩; rw [H2.out]; simp only [told, Option.getD_some]) | fail)
            refine (clone_len B _ _ _ ((l.drop k).take n) _ Hlen.out hrc (by omega) (by have := List.length_take_le n (l.drop k); rw [← Hlen.out]; omega)).mono ?_
            rintro e w1 ⟨A1, c1, L1, rfl, hL1, hc1, hr1, hn1, hb1⟩
            have hs1 := hb1.size
            have hc0' : w1.cell? ⟨p, 0, none⟩ = some _ := (hb1.cell (p := ⟨p, 0, none⟩) hpl).trans hc0
            have hf0' : w1.frozen? ⟨p, 0, none⟩ = false := (hb1.frozen (p := ⟨p, 0, none⟩) hpl).trans hf0
            have hp1 := Lib.hid ((hb1.block p hpl).trans HP.out)
            have hrn' := hrn.below hb1 (by omega)
            clear hc0 hf0 hc1 hf1
            go_wp2
            go_ret
            exact ⟨A1, c1, L1, rfl, by rw [H1.out]; exact hL1, by simpa using hr1.setFar (fun ad e _ => (by have := hn1 ad e; omega)) _, hn1, by rw [H1.out]; exact ⟨RD.cut hp1.out hrn' (by omega) (by omega) h2 h3, (Touch.of_below hb1).setCell _ _⟩⟩
          · have hrn := hrest2.2 hcn
            clear hrest hrest2
            have Hlen := Lib.hid hlen
            clear hlen
            go_enter Try.func28, Try.ntmps28
            go_wp2_with (first | (go_at_call 29; refine (err_any p B l 0 _ h').mono ?_; rintro e w' ⟨rfl, rfl⟩) | (go_at_call 38; refine (parse_any B A _ l most _ hr h1 h3).mono ?_; rintro e w' ⟨rfl, rfl⟩; rw [H2.out]; simp only [told, Option.getD_some]) | fail)
            refine (clone_len B _ _ _ ((l.drop k).take n) _ Hlen.out hrc (by omega) (by have := List.length_take_le n (l.drop k); rw [← Hlen.out]; omega)).mono ?_
            rintro e w1 ⟨A1, c1, L1, rfl, hL1, hc1, hr1, hn1, hb1⟩
            have hs1 := hb1.size
            have hc0' : w1.cell? ⟨p, 0, none⟩ = some _ := (hb1.cell (p := ⟨p, 0, none⟩) hpl).trans hc0
            have hf0' : w1.frozen? ⟨p, 0, none⟩ = false := (hb1.frozen (p := ⟨p, 0, none⟩) hpl).trans hf0
            have hp1 := Lib.hid ((hb1.block p hpl).trans HP.out)
            have hrn' := hrn.below hb1 (by omega)
            clear hc0 hf0 hc1 hf1
            go_wp2
            go_ret
            exact ⟨A1, c1, L1, rfl, by rw [H1.out]; exact hL1, by simpa using hr1.setFar (fun ad e _ => (by have := hn1 ad e; omega)) _, hn1, by rw [H1.out]; exact ⟨RD.cut hp1.out hrn' (by omega) (by omega) h2 h3, (Touch.of_below hb1).setCell _ _⟩⟩
  · have e1 : textStep (l, er) most = ([], (l, er)) := by simp [textStep, her]
    have H1 := Lib.hid e1
    have hne : (er != 0) = true := by simpa using her
    clear e1
    go_enter Try.func28, Try.ntmps28
    go_wp2_with (go_at_call 29; refine (err_any p B l er _ h).mono ?_; rintro e w' ⟨rfl, rfl⟩)
    go_ret
    exact ⟨none, 0, [], rfl, by rw [H1.out]; rfl, .nil, fun _ e => (by cases e), by rw [H1.out]; exact ⟨h, Touch.refl _ _⟩⟩
end Go.Proofs.Ytfjijpejoocngaa
