/- Number and Text of the reference's reader: as the program's. -/
import Derived.Test.YtfjijpejoocngaaRef
namespace Go.Proofs.Ytfjijpejoocngaa
open Go.RowKit

theorem wpList_append_len {P : Program} (w : World) {ops : Array Oper} {rest : List Oper} {o : Oper} {a : Act} {Q : Exit → Act → World → Prop} (hgd : o.guard = none) (s x : Operand) (t : TypeId)
    (ho : o.op = .call { callee := .builtin .append, args := #[s, x], argTypes := #[t, t] })
    (base : Nat) (e : TypeId) (i : TypeInfo) (z : Value) (ht : P.underlying t = some (.slice e)) (hi : P.info? e = some i) (hz : i.zero = some z)
    (hsize : i.size = 1) (hby : i.bytes = 1) (hzs : z.cells.size = 1)
    (v : Value) (xs : List UInt8) (hs : a.eval s = v) (hown : w.ownsRow base e 1 v xs.length (xs.map ub)) (B : Nat) (A : Option Addr) (m c : Nat) (l : List UInt8) (hx : a.eval x = .slice A m c) (hm : m = l.length) (hr : RB w B A l)
    (hbig : xs.length + l.length ≤ 140737488355328) (hbase : base ≤ w.heap.size)
    (h : ∀ p cap w', w'.ownsRow base e 1 (.slice p (xs ++ l).length cap) (xs ++ l).length ((xs ++ l).map ub) → w.grownBy w' v.ownBlock → ((Value.slice p (xs ++ l).length cap).ownBlock = v.ownBlock ∨ (Value.slice p (xs ++ l).length cap).ownBlock = some w.heap.size) → wpList P ops Q rest (a.put o.dst (.slice p (xs ++ l).length cap)) w') : wpList P ops Q (o :: rest) a w := by
  subst hm
  exact wpList_append_bytes w hgd s x t ho base e i z ht hi hz hsize hby hzs v xs hs hown B A c l hx hr hbig hbase h
theorem ok_none {o : Option (Nat × Nat)} {n k : Nat} {ok : Bool} (h : o = none) (ho : o = if ok then some (n, k) else none) : ok = false := by
  cases ok
  · rfl
  · rw [h] at ho; simp at ho
theorem ok_some {o : Option (Nat × Nat)} {n k n1 k1 : Nat} {ok : Bool} (h : o = some (n, k)) (ho : o = if ok then some (n1, k1) else none) : n1 = n ∧ k1 = k ∧ ok = true := by
  cases ok
  · rw [h] at ho; simp at ho
  · rw [h] at ho
    simp at ho
    exact ⟨ho.1.symm, ho.2.symm, rfl⟩
set_option maxRecDepth 100000 in
set_option maxHeartbeats 1000000 in
theorem refnumber_any (p B : Nat) (l : List UInt8) (er : Int) (most : Int) (w : World) (h : RD 55 w p B l er) :
    Calls Try.prog 31 #[.pointer (some ⟨p, 0, none⟩), .int .i64 most] w (NumPost 55 p B (l, er) most w) := by
  by_cases her : er = 0
  · subst her
    have h' := h
    obtain ⟨A, c, hp, hr, h1, h2, h3⟩ := h
    obtain ⟨hc0, hc1, hf0, hf1⟩ := cells2 hp
    cases hrd : readL l most with
    | none =>
      have e1 : numStep (l, 0) most = (0, (l, 5)) := by simp [numStep, hrd]
      have H1 := Lib.hid e1
      have H2 := Lib.hid hrd
      have HP := Lib.hid hp
      clear hrd e1 hp
      go_enter Try.func31, Try.ntmps31
      go_wp2_with (first | (go_at_call 39; refine (refparse_any p B l 0 most _ h').mono ?_; rintro e w' ⟨n1, k1, ok, rfl, rfl, ho⟩; obtain rfl := ok_none H2.out ho.out))
      go_ret
      exact ⟨by rw [H1.out]; rfl, by rw [H1.out]; exact ⟨h'.failed, (Touch.refl _ _).setCell _ _⟩⟩
    | some x =>
      obtain ⟨n, k⟩ := x
      obtain ⟨hk1, hk6, hkl, _, _, hn⟩ := read_back l most n k hrd
      have e1 : numStep (l, 0) most = ((n : Int), (l.drop k, 0)) := by simp [numStep, hrd]
      have hk0 : ((k : Int) == 0) = false := by simp; omega
      have H1 := Lib.hid e1
      have H2 := Lib.hid hrd
      have HP := Lib.hid hp
      clear hrd e1 hp
      have hrest := hr.rest hkl h1
      by_cases hck : c = k
      · have hr' := hrest.1 hck
        clear hrest
        subst hck
        go_enter Try.func31, Try.ntmps31
        go_wp2_with (first | (go_at_call 39; refine (refparse_any p B l 0 most _ h').mono ?_; rintro e w' ⟨n1, k1, ok, rfl, rfl, ho⟩; obtain ⟨rfl, rfl, rfl⟩ := ok_some H2.out ho.out))
        go_ret
        exact ⟨by rw [H1.out]; rfl, by rw [H1.out]; exact ⟨RD.cut HP.out hr' (by omega) (by omega) h2 h3, (Touch.refl _ _).setCell _ _⟩⟩
      · have hr' := hrest.2 hck
        clear hrest
        go_enter Try.func31, Try.ntmps31
        go_wp2_with (first | (go_at_call 39; refine (refparse_any p B l 0 most _ h').mono ?_; rintro e w' ⟨n1, k1, ok, rfl, rfl, ho⟩; obtain ⟨rfl, rfl, rfl⟩ := ok_some H2.out ho.out))
        go_ret
        exact ⟨by rw [H1.out]; rfl, by rw [H1.out]; exact ⟨RD.cut HP.out hr' (by omega) (by omega) h2 h3, (Touch.refl _ _).setCell _ _⟩⟩
  · have e1 : numStep (l, er) most = (0, (l, er)) := by simp [numStep, her]
    have H1 := Lib.hid e1
    have hne : (er != 0) = true := by simpa using her
    clear e1
    obtain ⟨A, c, hp, _⟩ := id h
    obtain ⟨hc0, hc1, hf0, hf1⟩ := cells2 hp
    clear hp
    go_enter Try.func31, Try.ntmps31
    go_wp2
    go_ret
    exact ⟨by rw [H1.out]; rfl, by rw [H1.out]; exact ⟨h, Touch.refl _ _⟩⟩

set_option maxRecDepth 100000 in
set_option maxHeartbeats 2000000 in
theorem reftext_any (p B : Nat) (l : List UInt8) (er : Int) (most : Int) (w : World) (h : RD 55 w p B l er) :
    Calls Try.prog 32 #[.pointer (some ⟨p, 0, none⟩), .int .i64 most] w (TextPost 55 p B (l, er) most w) := by
  by_cases her : er = 0
  · subst her
    have h' := h
    obtain ⟨A, c, hp, hr, h1, h2, h3⟩ := h
    obtain ⟨hc0, hc1, hf0, hf1⟩ := cells2 hp
    have hpl := lt_size hp
    cases hrd : readL l most with
    | none =>
      have e1 : textStep (l, 0) most = ([], (l, 5)) := by simp [textStep, hrd]
      have H1 := Lib.hid e1
      have H2 := Lib.hid hrd
      have HP := Lib.hid hp
      clear hrd e1 hp
      go_enter Try.func32, Try.ntmps32
      go_wp2_with (first | (go_at_call 39; refine (refparse_any p B l 0 most _ h').mono ?_; rintro e w' ⟨n1, k1, ok, rfl, rfl, ho⟩; obtain rfl := ok_none H2.out ho.out))
      go_ret
      exact ⟨none, 0, [], rfl, by rw [H1.out]; rfl, .nil, fun _ e => (by cases e), by rw [H1.out]; exact ⟨h'.failed, (Touch.refl _ _).setCell _ _⟩⟩
    | some x =>
      obtain ⟨n, k⟩ := x
      obtain ⟨i0, hi, hz0, hz1, hz2⟩ := info_parts info_byte
      obtain ⟨hk1, hk6, hkl, _, _, hn⟩ := read_back l most n k hrd
      have hk0 : ((k : Int) == 0) = false := by simp; omega
      by_cases hlk : l.length < k + n
      · have e1 : textStep (l, 0) most = ([], (l, 5)) := by simp [textStep, hrd, hlk]
        have H1 := Lib.hid e1
        have H2 := Lib.hid hrd
        have HP := Lib.hid hp
        clear hrd e1 hp
        go_enter Try.func32, Try.ntmps32
        go_wp2_with (first | (go_at_call 39; refine (refparse_any p B l 0 most _ h').mono ?_; rintro e w' ⟨n1, k1, ok, rfl, rfl, ho⟩; obtain ⟨rfl, rfl, rfl⟩ := ok_some H2.out ho.out))
        go_ret
        exact ⟨none, 0, [], rfl, by rw [H1.out]; rfl, .nil, fun _ e => (by cases e), by rw [H1.out]; exact ⟨h'.failed, (Touch.refl _ _).setCell _ _⟩⟩
      · have e1 : textStep (l, 0) most = ((l.drop k).take n, (l.drop (k + n), 0)) := by simp [textStep, hrd, hlk]
        have H1 := Lib.hid e1
        have H2 := Lib.hid hrd
        have HP := Lib.hid hp
        clear hrd e1 hp
        have hrest := hr.rest hkl h1
        have hrest2 := hr.rest (k := k + n) (by omega) h1
        obtain ⟨T, hT, hTn⟩ : ∃ T, Hid (T = (l.drop k).take n) ∧ n = T.length := ⟨(l.drop k).take n, rfl, by simp; omega⟩
        have hTr : RB w B (if c = k then A else A.map (·.add k)) T := by rw [hT.out]; exact (hr.drop hkl h1).take n
        clear hrest
        subst hTn
        by_cases hck : c = k
        · have hrc := hTr
          rw [if_pos hck] at hrc
          have hrn := hrest2.1 (by omega)
          have hT0 : T = [] := List.eq_nil_of_length_eq_zero (by omega)
          clear hTr hrest2
          subst hT0
          subst hck
          go_enter Try.func32, Try.ntmps32
          go_wp2_with (first | (go_at_call 39; refine (refparse_any p B l 0 most _ h').mono ?_; rintro e w' ⟨n1, k1, ok, rfl, rfl, ho⟩; obtain ⟨rfl, rfl, rfl⟩ := ok_some H2.out ho.out) | (at_builtin; (refine wpList_append_len _ rfl _ _ _ rfl w.heap.size 5 i0 _ Try.underlying22 hi hz0 hz1 hz2 rfl _ [] rfl (World.ownsRow_nil _ _ _ _) B _ _ _ [] rfl (by first | omega | simp) hrc (by simp <;> omega) (Nat.le_refl _) ?_; intro p1 cap1 w1 hown1 hg1 _; have hb1 := (Below.refl w.heap.size w).grown hg1 (Nat.le_refl _) fun q e => (by cases e); have hc0' := (hb1.cell (p := ⟨p, 0, none⟩) hpl).trans hc0; have hf0' := (hb1.frozen (p := ⟨p, 0, none⟩) hpl).trans hf0; clear hc0 hf0 hc1 hf1)) | fail)
          have hs1 := hb1.size
          have hp1 := Lib.hid ((hb1.block p hpl).trans HP.out)
          have hrn' := hrn.below hb1 (by omega)
          have hr1 := RB.of_own hown1
          have hfar := hown1.lt
          go_ret
          exact ⟨p1, cap1, [] ++ [], by simp, by rw [H1.out]; exact hT, by simpa using hr1.setFar (fun ad e _ => (by have := (hfar ad.block (by rw [e]; rfl)).1; omega)) _, fun ad e => (hfar ad.block (by rw [e]; rfl)).1, by rw [H1.out]; exact ⟨RD.cut hp1.out hrn' (by omega) (by omega) h2 h3, (Touch.of_below hb1).setCell _ _⟩⟩
        · have hrc := hTr
          rw [if_neg hck] at hrc
          by_cases hcn : c = k + T.length
          · have hrn := hrest2.1 hcn
            have hT0 : T ≠ [] := fun e => hck (by rw [hcn, e]; rfl)
            clear hTr hrest2
            subst hcn
            go_enter Try.func32, Try.ntmps32
            go_wp2_with (first | (go_at_call 39; refine (refparse_any p B l 0 most _ h').mono ?_; rintro e w' ⟨n1, k1, ok, rfl, rfl, ho⟩; obtain ⟨rfl, rfl, rfl⟩ := ok_some H2.out ho.out) | (at_builtin; (refine wpList_append_len _ rfl _ _ _ rfl w.heap.size 5 i0 _ Try.underlying22 hi hz0 hz1 hz2 rfl _ [] rfl (World.ownsRow_nil _ _ _ _) B _ _ _ T rfl (by first | omega | simp) hrc (by simp <;> omega) (Nat.le_refl _) ?_; intro p1 cap1 w1 hown1 hg1 _; have hb1 := (Below.refl w.heap.size w).grown hg1 (Nat.le_refl _) fun q e => (by cases e); have hc0' := (hb1.cell (p := ⟨p, 0, none⟩) hpl).trans hc0; have hf0' := (hb1.frozen (p := ⟨p, 0, none⟩) hpl).trans hf0; clear hc0 hf0 hc1 hf1)) | fail)
            have hs1 := hb1.size
            have hp1 := Lib.hid ((hb1.block p hpl).trans HP.out)
            have hrn' := hrn.below hb1 (by omega)
            have hr1 := RB.of_own hown1
            have hfar := hown1.lt
            go_ret
            exact ⟨p1, cap1, [] ++ T, by simp, by rw [H1.out]; exact hT, by simpa using hr1.setFar (fun ad e _ => (by have := (hfar ad.block (by rw [e]; rfl)).1; omega)) _, fun ad e => (hfar ad.block (by rw [e]; rfl)).1, by rw [H1.out]; exact ⟨RD.cut hp1.out hrn' (by omega) (by omega) h2 h3, (Touch.of_below hb1).setCell _ _⟩⟩
          · have hrn := hrest2.2 hcn
            clear hTr hrest2
            go_enter Try.func32, Try.ntmps32
            go_wp2_with (first | (go_at_call 39; refine (refparse_any p B l 0 most _ h').mono ?_; rintro e w' ⟨n1, k1, ok, rfl, rfl, ho⟩; obtain ⟨rfl, rfl, rfl⟩ := ok_some H2.out ho.out) | (at_builtin; (refine wpList_append_len _ rfl _ _ _ rfl w.heap.size 5 i0 _ Try.underlying22 hi hz0 hz1 hz2 rfl _ [] rfl (World.ownsRow_nil _ _ _ _) B _ _ _ T rfl (by first | omega | simp) hrc (by simp <;> omega) (Nat.le_refl _) ?_; intro p1 cap1 w1 hown1 hg1 _; have hb1 := (Below.refl w.heap.size w).grown hg1 (Nat.le_refl _) fun q e => (by cases e); have hc0' := (hb1.cell (p := ⟨p, 0, none⟩) hpl).trans hc0; have hf0' := (hb1.frozen (p := ⟨p, 0, none⟩) hpl).trans hf0; clear hc0 hf0 hc1 hf1)) | fail)
            have hs1 := hb1.size
            have hp1 := Lib.hid ((hb1.block p hpl).trans HP.out)
            have hrn' := hrn.below hb1 (by omega)
            have hr1 := RB.of_own hown1
            have hfar := hown1.lt
            go_ret
            exact ⟨p1, cap1, [] ++ T, by simp, by rw [H1.out]; exact hT, by simpa using hr1.setFar (fun ad e _ => (by have := (hfar ad.block (by rw [e]; rfl)).1; omega)) _, fun ad e => (hfar ad.block (by rw [e]; rfl)).1, by rw [H1.out]; exact ⟨RD.cut hp1.out hrn' (by omega) (by omega) h2 h3, (Touch.of_below hb1).setCell _ _⟩⟩
  · have e1 : textStep (l, er) most = ([], (l, er)) := by simp [textStep, her]
    have H1 := Lib.hid e1
    have hne : (er != 0) = true := by simpa using her
    clear e1
    obtain ⟨A, c, hp, _⟩ := id h
    obtain ⟨hc0, hc1, hf0, hf1⟩ := cells2 hp
    clear hp
    go_enter Try.func32, Try.ntmps32
    go_wp2
    go_ret
    exact ⟨none, 0, [], rfl, by rw [H1.out]; rfl, .nil, fun _ e => (by cases e), by rw [H1.out]; exact ⟨h, Touch.refl _ _⟩⟩
end Go.Proofs.Ytfjijpejoocngaa
