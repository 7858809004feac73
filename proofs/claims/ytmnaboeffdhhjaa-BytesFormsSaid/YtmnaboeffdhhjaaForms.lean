/- BytesForms: any bytes ahead, any number, any text: what is written is what the reference writes. -/
import Derived.Test.YtmnaboeffdhhjaaRegStr
import Derived.Deep.CutBlock
import Derived.Deep.DeepCutAuto
namespace Go.Proofs.Ytmnaboeffdhhjaa
open Go.RowKit

/-- What each operation of the law's region yields. -/
def formsK (A : Option Addr) (c : Nat) (b : List UInt8) (n : Int) (A' : Option Addr) (c' : Nat) (s : List UInt8) : Nat → Kd
  | 0 => .val (.slice A b.length c)
  | 1 => .val (.int .i64 n)
  | 2 => .bytes (some 11) (b ++ numL (heldW n))
  | 3 => .val (.string (strOf (b ++ numL (heldW n))))
  | 4 => .noroom
  | 5 => .val (.slice A b.length c)
  | 6 => .onto 2 8 (some 11) b
  | 7 => .val (.int .i64 n)
  | 8 => .bytes (some 11) (b ++ numL (heldW n))
  | 9 => .val (.string (strOf (b ++ numL (heldW n))))
  | 12 => .val (.slice A b.length c)
  | 13 => .val (.slice A' s.length c')
  | 14 => .bytes none (b ++ numL (heldW s.length) ++ s)
  | 15 => .val (.string (strOf (b ++ numL (heldW s.length) ++ s)))
  | 16 => .noroom
  | 17 => .val (.slice A b.length c)
  | 18 => .onto 14 20 none b
  | 19 => .val (.slice A' s.length c')
  | 20 => .bytes none (b ++ numL (heldW s.length) ++ s)
  | 21 => .val (.string (strOf (b ++ numL (heldW s.length) ++ s)))
  | _ => .val (.bool true)
section
variable {A A' : Option Addr} {c c' : Nat} {b s : List UInt8} {n : Int}
theorem formsK_onto {j pr nx : Nat} {m : Option Nat} {l : List UInt8} (h : formsK A c b n A' c' s j = .onto pr nx m l) : (j = 6 ∧ pr = 2 ∧ nx = 8 ∧ m = some 11) ∨ (j = 18 ∧ pr = 14 ∧ nx = 20 ∧ m = none) := by
  unfold formsK at h
  split at h <;> simp_all
theorem formsK_bytes {j : Nat} {m : Option Nat} {l : List UInt8} (h : formsK A c b n A' c' s j = .bytes m l) : ((j = 2 ∨ j = 8) ∧ m = some 11) ∨ ((j = 14 ∨ j = 20) ∧ m = none) := by
  unfold formsK at h
  split at h <;> simp_all
theorem formsK.keep {base i j : Nat} {f : Nat → Value} {v : Value} {w w' : World} (hij : j ≠ i) (hv : v ≠ undef) (hb : Below w.heap.size w w') (h2 : i = 2 → j ≠ 6) (h14 : i = 14 → j ≠ 18) (h : Sem3 base (formsK A c b n A' c' s j) j f w) :
    Sem3 base (formsK A c b n A' c' s j) j (updv f i v) w' := by
  refine h.keep hij hv hb fun pr nx m l hk => ?_
  rcases formsK_onto hk with ⟨h1, h3, _⟩ | ⟨h1, h3, _⟩
  · rw [h3]; exact fun e => h2 e.symm h1
  · rw [h3]; exact fun e => h14 e.symm h1
end

theorem numL_pos (n : Nat) : 1 ≤ (numL n).length := by unfold numL; simp
set_option maxRecDepth 100000 in
set_option maxHeartbeats 4000000 in
theorem forms_any (A A' : Option Addr) (c c' : Nat) (b s : List UInt8) (n : Int) (w : World) (h : RB w w.heap.size A b) (h' : RB w w.heap.size A' s) (hl : b.length ≤ maxLen) (hl' : s.length ≤ maxLen) :
    Calls Try.prog 3 #[.slice A b.length c, .int .i64 n, .slice A' s.length c'] w (Holds w) := by
  unfold maxLen at hl hl'
  by_cases hlong : 500 < b.length
  · go_enter Try.func3, Try.ntmps3
    go_wp2_with (go_at_call 9; refine (awake_any _).mono ?_; rintro e w1 ⟨rfl, hb⟩)
    go_ret
    exact ⟨rfl, hb⟩
  by_cases hlong' : 500 < s.length
  · go_enter Try.func3, Try.ntmps3
    go_wp2_with (go_at_call 9; refine (awake_any _).mono ?_; rintro e w1 ⟨rfl, hb⟩)
    go_ret
    exact ⟨rfl, hb⟩
  go_enter Try.func3, Try.ntmps3
  go_upto_region 3 with fail
  refine region_inv3 4 (fun j f w' => Sem3 w.heap.size (formsK A c b n A' c' s j) j f w') (fun w' => Below w.heap.size w w') (by kernel_rfl) (by kernel_rfl) (by kernel_rfl) (by kernel_rfl) (Below.refl _ _).drew ?_ ?_
  --OPS{
  · obtain ⟨i0, hi, hz0, hz1, hz2⟩ := info_parts info_byte
    refine OpsOk3.cons ?o0 (OpsOk3.cons ?o1 (OpsOk3.cons ?o2 (OpsOk3.cons ?o3 (OpsOk3.cons ?o4 (OpsOk3.cons ?o5 (OpsOk3.cons ?o6 (OpsOk3.cons ?o7 (OpsOk3.cons ?o8 (OpsOk3.cons ?o9 (OpsOk3.cons ?o10 (OpsOk3.cons ?o11 (OpsOk3.cons ?o12 (OpsOk3.cons ?o13 (OpsOk3.cons ?o14 (OpsOk3.cons ?o15 (OpsOk3.cons ?o16 (OpsOk3.cons ?o17 (OpsOk3.cons ?o18 (OpsOk3.cons ?o19 (OpsOk3.cons ?o20 (OpsOk3.cons ?o21 (OpsOk3.cons ?o22 (OpsOk3.cons ?o23 (OpsOk3.cons ?o24 (OpsOk3.cons ?o25 (OpsOk3.cons ?o26 (OpsOk3.cons ?o27 OpsOk3.nil)))))))))))))))))))))))))))
    case o0 =>
      intro a w1 K hG need old fresh hK
      refine op_value (v := .slice A b.length c) (wanted_none rfl) (run_move _ rfl ?_) (hK _ w1 hG ?_ (fun j hj hbh hs => formsK.keep hj (by simp [undef]) (Below.refl _ _) (fun e => absurd e (by decide)) (fun e => absurd e (by decide)) hs))
      · exact old 0 (by kernel_rfl)
      · exact updv_same _ _ _
    case o1 =>
      intro a w1 K hG need old fresh hK
      refine op_value (v := .int .i64 n) (wanted_none rfl) (run_move _ rfl ?_) (hK _ w1 hG ?_ (fun j hj hbh hs => formsK.keep hj (by simp [undef]) (Below.refl _ _) (fun e => absurd e (by decide)) (fun e => absurd e (by decide)) hs))
      · exact old 1 (by kernel_rfl)
      · exact updv_same _ _ _
    case o2 =>
      intro a w1 K hG need old fresh hK
      have e1 := need 0 (by kernel_rfl) (by kernel_rfl)
      have e2 := need 1 (by kernel_rfl) (by kernel_rfl)
      have hRb : RB w1 w.heap.size A b := h.below hG (Nat.le_refl _)
      refine op_call (wanted_none rfl) (run_go2 10 (.tmp 16) (.tmp 17) _ rfl rfl (show a.eval (.tmp 16) = .slice A b.length c from e1) (show a.eval (.tmp 17) = .int .i64 n from e2) (by go_simp)) ((number_made w.heap.size A c b n w1 hRb hG.size (by omega)).mono ?_)
      rintro e w2 ⟨A2, c2, L2, rfl, hL2, hc2, hr2, _, hb2⟩
      refine ⟨_, rfl, hK _ w2 (hG.trans (hb2.mono hG.size)) ?_ (fun j hj hbh hs => formsK.keep hj (by simp [undef]) hb2 (fun _ e => by subst e; rw [show behind _ 4 2 6 = true by kernel_rfl] at hbh; cases hbh) (fun e => absurd e (by decide)) hs)⟩
      intro _
      exact ⟨A2, c2, L2, updv_same _ _ _, hL2, hr2⟩
    case o3 =>
      intro a w1 K hG need old fresh hK
      have hb := need 2 (by kernel_rfl) (by kernel_rfl) (fun q hq => by cases hq; exact fresh 11 (.inr (by kernel_rfl)))
      refine op_value (v := .string (strOf (b ++ numL (heldW n)))) (wanted_none rfl) (run_conv (.tmp 18) rfl (show IsB (a.eval (.tmp 18)) _ w1 from hb)) (hK _ w1 hG ?_ (fun j hj hbh hs => formsK.keep hj (by simp [undef]) (Below.refl _ _) (fun e => absurd e (by decide)) (fun e => absurd e (by decide)) hs))
      exact updv_same _ _ _
    case o4 =>
      intro a w1 K hG need old fresh hK
      have hba := (Below.refl w1.heap.size w1).alloc (Nat.le_refl _) (.cells #[] 5)
      refine op_value (wanted_none rfl) (run_build0 rfl) (hK _ _ (hG.alloc hG.size _) ?_ (fun j hj hbh hs => formsK.keep hj (by simp [undef]) hba (fun e => absurd e (by decide)) (fun e => absurd e (by decide)) hs))
      exact ⟨⟨w1.heap.size, 0, none⟩, updv_same _ _ _, by simp⟩
    case o5 =>
      intro a w1 K hG need old fresh hK
      refine op_value (v := .slice A b.length c) (wanted_none rfl) (run_move _ rfl ?_) (hK _ w1 hG ?_ (fun j hj hbh hs => formsK.keep hj (by simp [undef]) (Below.refl _ _) (fun e => absurd e (by decide)) (fun e => absurd e (by decide)) hs))
      · exact old 0 (by kernel_rfl)
      · exact updv_same _ _ _
    case o6 =>
      intro a w1 K hG need old fresh hK
      obtain ⟨a0, e1, ha0⟩ := need 4 (by kernel_rfl) (by kernel_rfl)
      have e2 := need 5 (by kernel_rfl) (by kernel_rfl)
      obtain ⟨Ap, cp, Lp, ep, hLp, hrp⟩ := need 2 (by kernel_rfl) (by kernel_rfl) (fun q hq => by cases hq; exact fresh 11 (.inr (by kernel_rfl)))
      have hRb : RB w1 w.heap.size A b := h.below hG (Nat.le_refl _)
      obtain ⟨p, cap, w2, r, hrun, hon, hgr, hwr, _, _, hlt⟩ := run_append_onto (P := Try.prog) w1 w1 none 22 i0 _ 22 Try.underlying22 hi hz0 hz1 hz2 rfl (.slice (some a0) 0 0) [] (.inr ⟨rfl, a0, rfl⟩) (Nat.le_refl _) w.heap.size A c b hRb (by simp; omega)
      rw [List.nil_append] at hrun hon hlt
      have hb2 : Below w1.heap.size w1 w2 := ⟨hgr.os, hgr.tape, hgr.output, hgr.size, fun k hk => hgr.block k hk fun e => by
        rcases hwr with e' | e'
        · rw [e'] at e; cases e
        · have := e' k e.symm; omega⟩
      have hgs : ∀ g, (Value.slice p b.length cap).ownBlock = some g → g < w2.heap.size := fun g e => by
        rcases hlt g e with e' | e'
        · obtain rfl : a0.block = g := by simpa [Value.ownBlock] using e'
          exact Nat.lt_of_lt_of_le ha0 hgr.size
        · exact e'
      have hpr : ∀ g, w1.heap.size ≤ g → (vals _ a 2).ownBlock ≠ some g := fun g hg e => by
        rw [ep] at e
        have hLn : 0 < Lp.length := by rw [hLp.out]; have := numL_pos (heldW n); simp; omega
        obtain ⟨ad, hA, hadb, _⟩ := hrp hLn
        rw [hA] at e
        obtain rfl : ad.block = g := by simpa [Value.ownBlock] using e
        omega
      refine op_value (wanted_none rfl) (run_app (.tmp 20) (.tmp 21) rfl (show a.eval (.tmp 20) = .slice (some a0) 0 0 from e1) (show a.eval (.tmp 21) = .slice A b.length c from e2) hrun) (hK _ w2 (hG.trans (hb2.mono hG.size)) ?_ (fun j hj hbh hs => formsK.keep hj (by simp [undef]) hb2 (fun e => absurd e (by decide)) (fun e => absurd e (by decide)) hs))
      rcases hon with ⟨ho, h2⟩ | ⟨h1, h2⟩
      · refine ⟨p, cap, (Value.slice p b.length cap).ownBlock, updv_same _ _ _, fun g e => ?_, fun g e => hgs g (by rw [updv_same] at e; exact e), fun _ _ => .inl ⟨by rw [updv_same]; exact ho, by rw [updv_same]⟩⟩
        have hge : w1.heap.size ≤ g := by
          rcases h2 with h2 | h2
          · rw [h2] at e; cases e
          · exact h2 g e
        exact ⟨Nat.le_trans hG.size hge, hgs g e, by rw [updv_ne _ (by decide)]; exact hpr g hge⟩
      · exact ⟨p, cap, none, updv_same _ _ _, fun g e => (by cases e), fun g e => hgs g (by rw [updv_same] at e; exact e), fun _ _ => .inr ⟨h1, by rw [updv_same]; exact h2, rfl⟩⟩
    case o7 =>
      intro a w1 K hG need old fresh hK
      refine op_value (v := .int .i64 n) (wanted_none rfl) (run_move _ rfl ?_) (hK _ w1 hG ?_ (fun j hj hbh hs => formsK.keep hj (by simp [undef]) (Below.refl _ _) (fun e => absurd e (by decide)) (fun e => absurd e (by decide)) hs))
      · exact old 1 (by kernel_rfl)
      · exact updv_same _ _ _
    case o8 =>
      intro a w1 K hG need old fresh hK
      obtain ⟨p, cap, row, e1, hrow, hlt, hon0⟩ := need 6 (by kernel_rfl) (by kernel_rfl)
      have e2 := need 7 (by kernel_rfl) (by kernel_rfl)
      have hon := hon0 (fun q hq => by cases hq; exact fresh 11 (.inr (by kernel_rfl))) (fresh 8 (.inl rfl))
      rw [e1] at hon hlt
      refine op_call (wanted_none rfl) (run_go2 11 (.tmp 22) (.tmp 23) _ rfl rfl (show a.eval (.tmp 22) = .slice p b.length cap from e1) (show a.eval (.tmp 23) = .int .i64 n from e2) (by go_simp)) ((put_any row p cap b n w1 hon.onto hlt (by omega)).mono ?_)
      rintro e w2 ⟨p2, c2, L2, rfl, hL2, hc2, hon2, hgr⟩
      refine ⟨_, rfl, hK _ w2 (hG.grown hgr hG.size fun k e => (hrow k e).1) (fun _ => ⟨p2, c2, L2, updv_same _ _ _, hL2, hon2.rb⟩) (fun j hj hbh hs => ?_)⟩
      refine hs.kept hj (by simp [undef]) hgr (fun pr nx m l hk => ?_) (fun m l hk => ?_)
      · rcases formsK_onto hk with ⟨rfl, rfl, rfl, rfl⟩ | ⟨rfl, _⟩
        · exact ⟨by decide, .inl rfl⟩
        · rw [show behind _ 4 8 18 = true by kernel_rfl] at hbh; cases hbh
      · rcases formsK_bytes hk with ⟨rfl | rfl, rfl⟩ | ⟨rfl | rfl, rfl⟩
        · exact .inr fun g e => (hrow g e).2.2
        · exact absurd rfl hj
        · rw [show behind _ 4 8 14 = true by kernel_rfl] at hbh; cases hbh
        · rw [show behind _ 4 8 20 = true by kernel_rfl] at hbh; cases hbh
    case o9 =>
      intro a w1 K hG need old fresh hK
      have hb := need 8 (by kernel_rfl) (by kernel_rfl) (fun q hq => by cases hq; exact fresh 11 (.inr (by kernel_rfl)))
      refine op_value (v := .string (strOf (b ++ numL (heldW n)))) (wanted_none rfl) (run_conv (.tmp 24) rfl (show IsB (a.eval (.tmp 24)) _ w1 from hb)) (hK _ w1 hG ?_ (fun j hj hbh hs => formsK.keep hj (by simp [undef]) (Below.refl _ _) (fun e => absurd e (by decide)) (fun e => absurd e (by decide)) hs))
      exact updv_same _ _ _
    case o10 =>
      intro a w1 K hG need old fresh hK
      refine op_value (v := .bool true) (wanted_none rfl) (run_eqs _ _ _ rfl (need 3 (by kernel_rfl) (by kernel_rfl)) (need 9 (by kernel_rfl) (by kernel_rfl))) (hK _ w1 hG ?_ (fun j hj hbh hs => formsK.keep hj (by simp [undef]) (Below.refl _ _) (fun e => absurd e (by decide)) (fun e => absurd e (by decide)) hs))
      exact updv_same _ _ _
    case o11 =>
      intro a w1 K hG need old fresh hK
      refine op_value (v := .bool true) (wanted_none rfl) (run_move _ rfl ?_) (hK _ w1 hG ?_ (fun j hj hbh hs => formsK.keep hj (by simp [undef]) (Below.refl _ _) (fun e => absurd e (by decide)) (fun e => absurd e (by decide)) hs))
      · exact need 10 (by kernel_rfl) (by kernel_rfl)
      · exact updv_same _ _ _
    case o12 =>
      intro a w1 K hG need old fresh hK
      refine op_value (v := .slice A b.length c) (wanted_of (j := 11) rfl (need 11 (by kernel_rfl) (by kernel_rfl))) (run_move _ rfl ?_) (hK _ w1 hG ?_ (fun j hj hbh hs => formsK.keep hj (by simp [undef]) (Below.refl _ _) (fun e => absurd e (by decide)) (fun e => absurd e (by decide)) hs))
      · exact old 0 (by kernel_rfl)
      · exact updv_same _ _ _
    case o13 =>
      intro a w1 K hG need old fresh hK
      refine op_value (v := .slice A' s.length c') (wanted_of (j := 11) rfl (need 11 (by kernel_rfl) (by kernel_rfl))) (run_move _ rfl ?_) (hK _ w1 hG ?_ (fun j hj hbh hs => formsK.keep hj (by simp [undef]) (Below.refl _ _) (fun e => absurd e (by decide)) (fun e => absurd e (by decide)) hs))
      · exact old 2 (by kernel_rfl)
      · exact updv_same _ _ _
    case o14 =>
      intro a w1 K hG need old fresh hK
      have e1 := need 12 (by kernel_rfl) (by kernel_rfl)
      have e2 := need 13 (by kernel_rfl) (by kernel_rfl)
      have hRb : RB w1 w.heap.size A b := h.below hG (Nat.le_refl _)
      have hRs : RB w1 w.heap.size A' s := h'.below hG (Nat.le_refl _)
      refine op_call (wanted_of (j := 11) rfl (need 11 (by kernel_rfl) (by kernel_rfl))) (run_go2 12 (.tmp 28) (.tmp 29) _ rfl rfl (show a.eval (.tmp 28) = .slice A b.length c from e1) (show a.eval (.tmp 29) = .slice A' s.length c' from e2) (by go_simp)) ((text_made w.heap.size A A' c c' b s w1 hRb hRs hG.size (by omega) (by omega)).mono ?_)
      rintro e w2 ⟨A2, c2, L2, rfl, hL2, hc2, hr2, _, hb2⟩
      refine ⟨_, rfl, hK _ w2 (hG.trans (hb2.mono hG.size)) ?_ (fun j hj hbh hs => formsK.keep hj (by simp [undef]) hb2 (fun e => absurd e (by decide)) (fun _ e => by subst e; rw [show behind _ 4 14 18 = true by kernel_rfl] at hbh; cases hbh) hs)⟩
      intro _
      exact ⟨A2, c2, L2, updv_same _ _ _, hL2, hr2⟩
    case o15 =>
      intro a w1 K hG need old fresh hK
      have hb := need 14 (by kernel_rfl) (by kernel_rfl) (fun q hq => by cases hq)
      refine op_value (v := .string (strOf (b ++ numL (heldW s.length) ++ s))) (wanted_of (j := 11) rfl (need 11 (by kernel_rfl) (by kernel_rfl))) (run_conv (.tmp 30) rfl (show IsB (a.eval (.tmp 30)) _ w1 from hb)) (hK _ w1 hG ?_ (fun j hj hbh hs => formsK.keep hj (by simp [undef]) (Below.refl _ _) (fun e => absurd e (by decide)) (fun e => absurd e (by decide)) hs))
      exact updv_same _ _ _
    case o16 =>
      intro a w1 K hG need old fresh hK
      have hba := (Below.refl w1.heap.size w1).alloc (Nat.le_refl _) (.cells #[] 5)
      refine op_value (wanted_of (j := 11) rfl (need 11 (by kernel_rfl) (by kernel_rfl))) (run_build0 rfl) (hK _ _ (hG.alloc hG.size _) ?_ (fun j hj hbh hs => formsK.keep hj (by simp [undef]) hba (fun e => absurd e (by decide)) (fun e => absurd e (by decide)) hs))
      exact ⟨⟨w1.heap.size, 0, none⟩, updv_same _ _ _, by simp⟩
    case o17 =>
      intro a w1 K hG need old fresh hK
      refine op_value (v := .slice A b.length c) (wanted_of (j := 11) rfl (need 11 (by kernel_rfl) (by kernel_rfl))) (run_move _ rfl ?_) (hK _ w1 hG ?_ (fun j hj hbh hs => formsK.keep hj (by simp [undef]) (Below.refl _ _) (fun e => absurd e (by decide)) (fun e => absurd e (by decide)) hs))
      · exact old 0 (by kernel_rfl)
      · exact updv_same _ _ _
    case o18 =>
      intro a w1 K hG need old fresh hK
      obtain ⟨a0, e1, ha0⟩ := need 16 (by kernel_rfl) (by kernel_rfl)
      have e2 := need 17 (by kernel_rfl) (by kernel_rfl)
      obtain ⟨Ap, cp, Lp, ep, hLp, hrp⟩ := need 14 (by kernel_rfl) (by kernel_rfl) (fun q hq => by cases hq)
      have hRb : RB w1 w.heap.size A b := h.below hG (Nat.le_refl _)
      obtain ⟨p, cap, w2, r, hrun, hon, hgr, hwr, _, _, hlt⟩ := run_append_onto (P := Try.prog) w1 w1 none 22 i0 _ 22 Try.underlying22 hi hz0 hz1 hz2 rfl (.slice (some a0) 0 0) [] (.inr ⟨rfl, a0, rfl⟩) (Nat.le_refl _) w.heap.size A c b hRb (by simp; omega)
      rw [List.nil_append] at hrun hon hlt
      have hb2 : Below w1.heap.size w1 w2 := ⟨hgr.os, hgr.tape, hgr.output, hgr.size, fun k hk => hgr.block k hk fun e => by
        rcases hwr with e' | e'
        · rw [e'] at e; cases e
        · have := e' k e.symm; omega⟩
      have hgs : ∀ g, (Value.slice p b.length cap).ownBlock = some g → g < w2.heap.size := fun g e => by
        rcases hlt g e with e' | e'
        · obtain rfl : a0.block = g := by simpa [Value.ownBlock] using e'
          exact Nat.lt_of_lt_of_le ha0 hgr.size
        · exact e'
      have hpr : ∀ g, w1.heap.size ≤ g → (vals _ a 14).ownBlock ≠ some g := fun g hg e => by
        rw [ep] at e
        have hLn : 0 < Lp.length := by rw [hLp.out]; have := numL_pos (heldW s.length); simp; omega
        obtain ⟨ad, hA, hadb, _⟩ := hrp hLn
        rw [hA] at e
        obtain rfl : ad.block = g := by simpa [Value.ownBlock] using e
        omega
      refine op_value (wanted_of (j := 11) rfl (need 11 (by kernel_rfl) (by kernel_rfl))) (run_app (.tmp 32) (.tmp 33) rfl (show a.eval (.tmp 32) = .slice (some a0) 0 0 from e1) (show a.eval (.tmp 33) = .slice A b.length c from e2) hrun) (hK _ w2 (hG.trans (hb2.mono hG.size)) ?_ (fun j hj hbh hs => formsK.keep hj (by simp [undef]) hb2 (fun e => absurd e (by decide)) (fun e => absurd e (by decide)) hs))
      rcases hon with ⟨ho, h2⟩ | ⟨h1, h2⟩
      · refine ⟨p, cap, (Value.slice p b.length cap).ownBlock, updv_same _ _ _, fun g e => ?_, fun g e => hgs g (by rw [updv_same] at e; exact e), fun _ _ => .inl ⟨by rw [updv_same]; exact ho, by rw [updv_same]⟩⟩
        have hge : w1.heap.size ≤ g := by
          rcases h2 with h2 | h2
          · rw [h2] at e; cases e
          · exact h2 g e
        exact ⟨Nat.le_trans hG.size hge, hgs g e, by rw [updv_ne _ (by decide)]; exact hpr g hge⟩
      · exact ⟨p, cap, none, updv_same _ _ _, fun g e => (by cases e), fun g e => hgs g (by rw [updv_same] at e; exact e), fun _ _ => .inr ⟨h1, by rw [updv_same]; exact h2, rfl⟩⟩
    case o19 =>
      intro a w1 K hG need old fresh hK
      refine op_value (v := .slice A' s.length c') (wanted_of (j := 11) rfl (need 11 (by kernel_rfl) (by kernel_rfl))) (run_move _ rfl ?_) (hK _ w1 hG ?_ (fun j hj hbh hs => formsK.keep hj (by simp [undef]) (Below.refl _ _) (fun e => absurd e (by decide)) (fun e => absurd e (by decide)) hs))
      · exact old 2 (by kernel_rfl)
      · exact updv_same _ _ _
    case o20 =>
      intro a w1 K hG need old fresh hK
      obtain ⟨p, cap, row, e1, hrow, hlt, hon0⟩ := need 18 (by kernel_rfl) (by kernel_rfl)
      have e2 := need 19 (by kernel_rfl) (by kernel_rfl)
      have e11 := need 11 (by kernel_rfl) (by kernel_rfl)
      have hon := hon0 (fun q hq => by cases hq) (fresh 20 (.inl rfl))
      rw [e1] at hon hlt
      have hRs : RB w1 w.heap.size A' s := h'.below hG (Nat.le_refl _)
      have h11 : vals _ a 11 ≠ undef := fun e => by rw [e11] at e; cases e
      have hsr : 0 < s.length → ∀ ad, A' = some ad → row ≠ some ad.block := fun hn ad e e' => by
        obtain ⟨ad', e2, hb', _⟩ := h' hn
        rw [e] at e2; cases e2
        have := (hrow _ e').1
        omega
      refine op_call (wanted_of (j := 11) rfl (need 11 (by kernel_rfl) (by kernel_rfl))) (run_go2 13 (.tmp 34) (.tmp 35) _ rfl rfl (show a.eval (.tmp 34) = .slice p b.length cap from e1) (show a.eval (.tmp 35) = .slice A' s.length c' from e2) (by go_simp)) ((puttext_any row w.heap.size p A' cap c' b s w1 hon.onto hlt hRs hG.size hsr (by omega) (by omega)).mono ?_)
      rintro e w2 ⟨p2, c2, L2, rfl, hL2, hc2, hon2, hgr⟩
      refine ⟨_, rfl, hK _ w2 (hG.grown hgr hG.size fun k e => (hrow k e).1) (fun _ => ⟨p2, c2, L2, updv_same _ _ _, hL2, hon2.rb⟩) (fun j hj hbh hs => ?_)⟩
      refine hs.kept hj (by simp [undef]) hgr (fun pr nx m l hk => ?_) (fun m l hk => ?_)
      · rcases formsK_onto hk with ⟨rfl, rfl, rfl, rfl⟩ | ⟨rfl, rfl, rfl, rfl⟩
        · exact ⟨by decide, .inr ⟨11, rfl, h11⟩⟩
        · exact ⟨by decide, .inl rfl⟩
      · rcases formsK_bytes hk with ⟨rfl | rfl, rfl⟩ | ⟨rfl | rfl, rfl⟩
        · exact .inl ⟨11, rfl, h11⟩
        · exact .inl ⟨11, rfl, h11⟩
        · exact .inr fun g e => (hrow g e).2.2
        · exact absurd rfl hj
    case o21 =>
      intro a w1 K hG need old fresh hK
      have hb := need 20 (by kernel_rfl) (by kernel_rfl) (fun q hq => by cases hq)
      refine op_value (v := .string (strOf (b ++ numL (heldW s.length) ++ s))) (wanted_of (j := 11) rfl (need 11 (by kernel_rfl) (by kernel_rfl))) (run_conv (.tmp 36) rfl (show IsB (a.eval (.tmp 36)) _ w1 from hb)) (hK _ w1 hG ?_ (fun j hj hbh hs => formsK.keep hj (by simp [undef]) (Below.refl _ _) (fun e => absurd e (by decide)) (fun e => absurd e (by decide)) hs))
      exact updv_same _ _ _
    case o22 =>
      intro a w1 K hG need old fresh hK
      refine op_value (v := .bool true) (wanted_of (j := 11) rfl (need 11 (by kernel_rfl) (by kernel_rfl))) (run_eqs _ _ _ rfl (need 15 (by kernel_rfl) (by kernel_rfl)) (need 21 (by kernel_rfl) (by kernel_rfl))) (hK _ w1 hG ?_ (fun j hj hbh hs => formsK.keep hj (by simp [undef]) (Below.refl _ _) (fun e => absurd e (by decide)) (fun e => absurd e (by decide)) hs))
      exact updv_same _ _ _
    case o23 =>
      intro a w1 K hG need old fresh hK
      refine op_value (v := .bool true) (wanted_none rfl) (run_pick (.tmp 27) (.tmp 38) _ rfl (show a.eval (.tmp 27) = .bool true from need 11 (by kernel_rfl) (by kernel_rfl)) (show a.eval (.tmp 38) = .bool true from need 22 (by kernel_rfl) (by kernel_rfl))) (hK _ w1 hG ?_ (fun j hj hbh hs => formsK.keep hj (by simp [undef]) (Below.refl _ _) (fun e => absurd e (by decide)) (fun e => absurd e (by decide)) hs))
      exact updv_same _ _ _
    case o24 =>
      intro a w1 K hG need old fresh hK
      refine op_value (v := .bool true) (wanted_none rfl) (run_move _ rfl ?_) (hK _ w1 hG ?_ (fun j hj hbh hs => formsK.keep hj (by simp [undef]) (Below.refl _ _) (fun e => absurd e (by decide)) (fun e => absurd e (by decide)) hs))
      · exact need 23 (by kernel_rfl) (by kernel_rfl)
      · exact updv_same _ _ _
    case o25 =>
      intro a w1 K hG need old fresh hK
      refine op_call (wanted_of (j := 24) rfl (need 24 (by kernel_rfl) (by kernel_rfl))) (run_go0 9 _ rfl rfl (by go_simp)) ((awake_any w1).mono ?_)
      rintro e w2 ⟨rfl, hb2⟩
      exact ⟨_, rfl, hK _ w2 (hG.trans (hb2.mono hG.size)) (updv_same _ _ _) (fun j hj hbh hs => formsK.keep hj (by simp [undef]) hb2 (fun e => absurd e (by decide)) (fun e => absurd e (by decide)) hs)⟩
    case o26 =>
      intro a w1 K hG need old fresh hK
      refine op_value (v := .bool true) (wanted_none rfl) (run_pick (.tmp 40) (.tmp 41) _ rfl (show a.eval (.tmp 40) = .bool true from need 24 (by kernel_rfl) (by kernel_rfl)) (show a.eval (.tmp 41) = .bool true from need 25 (by kernel_rfl) (by kernel_rfl))) (hK _ w1 hG ?_ (fun j hj hbh hs => formsK.keep hj (by simp [undef]) (Below.refl _ _) (fun e => absurd e (by decide)) (fun e => absurd e (by decide)) hs))
      exact updv_same _ _ _
    case o27 =>
      intro a w1 K hG need old fresh hK
      refine op_value (v := .bool true) (wanted_none rfl) (run_assign _ rfl ?_) (hK _ w1 hG ?_ (fun j hj hbh hs => formsK.keep hj (by simp [undef]) (Below.refl _ _) (fun e => absurd e (by decide)) (fun e => absurd e (by decide)) hs))
      · exact need 26 (by kernel_rfl) (by kernel_rfl)
      · exact updv_same _ _ _
  --}OPS
  · intro a w' hG hde hsz hφ hold
    have h27 : a.tmps.getD 6 undef = .bool true := hφ 27 (by kernel_rfl)
    go_wp2
    refine bodyPost_ret (v := .bool true) ?_ hde ⟨rfl, hG⟩
    rw [results_tmp (t := 6) rfl, h27]
end Go.Proofs.Ytmnaboeffdhhjaa
