/- The reference's sheetBytes: its one statement, whose order is drawn: the same bytes in every order. -/
import Derived.Test.YtfjijpejoocngaaRegStr
import Derived.Deep.CutBlock
import Derived.Deep.DeepCutAuto
namespace Go.Proofs.Ytfjijpejoocngaa
open Go.RowKit

/-- A slice of the call's own, in blocks from base on, that reads as l. -/
def OwnB (base : Nat) (v : Value) (l : List UInt8) (w : World) : Prop := ∃ (p : Option Addr) (c : Nat), v = .slice p l.length c ∧ w.ownsRow base 5 1 v l.length (l.map ub)
/-- A row of more than one byte, or of another one, is not the block of the last byte. -/
theorem own_not90 {w : World} {base : Nat} {v : Value} {l : List UInt8} (h : w.ownsRow base 5 1 v l.length (l.map ub)) (hl : l ≠ []) (h90 : l ≠ [90]) : ∀ g, v.ownBlock = some g → w.heap[g]? ≠ some (.cells #[.int .u8 90] 5 (0, 0)) := fun g e hc => by
  rcases h.2 with ⟨h0, _⟩ | ⟨g', cap, cur, hv, _, hg, h1, h2, h3, h4⟩
  · rw [h0] at e; cases e
  · rw [hv] at e
    obtain rfl : g' = g := by simpa [Value.ownBlock] using e
    rw [hc] at hg
    obtain rfl : #[Value.int .u8 90] = cur := by injection hg with hg; injection hg
    simp at h3
    have hl1 : l.length = 1 := by
      have : l.length ≠ 0 := fun e => hl (List.eq_nil_of_length_eq_zero e)
      omega
    obtain ⟨x, rfl⟩ := List.length_eq_one_iff.1 hl1
    simp [ub] at h4
    exact h90 (by rw [show x = 90 from UInt8.toNat.inj (show x.toNat = (90 : UInt8).toNat by rw [show (90 : UInt8).toNat = 90 from rfl]; omega)])
theorem two_not90 (a b : Nat) (r : List UInt8) : numL a ++ numL b ++ r ≠ [90] := fun e => by
  have h := congrArg List.length e
  have h1 : (numL a).length ≠ 0 := by unfold numL; simp
  have h2 : (numL b).length ≠ 0 := by unfold numL; simp
  simp at h; omega
theorem own_raise {w : World} {base n : Nat} {e : TypeId} {size : Nat} {v : Value} {xs : List Value} (h : w.ownsRow 0 e size v n xs) (hb : ∀ g, v.ownBlock = some g → base ≤ g) : w.ownsRow base e size v n xs := by
  refine ⟨h.1, ?_⟩
  rcases h.2 with h0 | ⟨g, cap, cur, hv, _, h1⟩
  · exact .inl h0
  · exact .inr ⟨g, cap, cur, hv, hb g (by rw [hv]; rfl), h1⟩
theorem OwnB.ne {base : Nat} {v : Value} {l : List UInt8} {w : World} (h : OwnB base v l w) : v ≠ undef := by
  obtain ⟨p, c, rfl, _⟩ := h
  simp [undef]
theorem OwnB.grown {base : Nat} {v : Value} {l : List UInt8} {w w' : World} {row : Option Nat} (h : OwnB base v l w) (hg : w.grownBy w' row) (hn : ∀ g, row = some g → v.ownBlock ≠ some g) : OwnB base v l w' := by
  obtain ⟨p, c, e, h1⟩ := h
  exact ⟨p, c, e, own_keep h1 fun g hg' => hg.block g (h1.lt g hg').2 fun e' => hn g e'.symm hg'⟩
/-- What the calls make: out of OwnPost. -/
theorem own_post {base : Nat} {row : Option Nat} {w : World} {l : List UInt8} {e : Ending} {w' : World} (h : OwnPost row w l e w') (hl : l ≠ []) (hrow : ∀ g, row = some g → base ≤ g) (hb : base ≤ w.heap.size) :
    ∃ v, e = .returned v ∧ OwnB base v l w' ∧ w.grownBy w' row ∧ ∀ g, v.ownBlock = some g → row = some g ∨ w.heap.size ≤ g := by
  obtain ⟨p, c, L, rfl, hL, hc, hon, hg⟩ := h
  obtain rfl := hL.out
  rcases hon with ⟨h1, h2⟩ | ⟨h1, _⟩
  · refine ⟨_, rfl, ⟨p, c, rfl, own_raise h1 fun g e => ?_⟩, hg, fun g e => ?_⟩
    · rcases h2 with h2 | h2
      · exact hrow g (h2.symm.trans e)
      · exact Nat.le_trans hb (h2 g e)
    · rcases h2 with h2 | h2
      · exact .inl (h2.symm.trans e)
      · exact .inr (h2 g e)
  · exact absurd h1 hl
/-- What each operation has yielded. -/
def sbK (R base : Nat) (P S : Int) (A : Option Addr) (n c : Nat) (l1 l2 l3 l4 : List UInt8) (j : Nat) (f : Nat → Value) (w : World) : Prop := match j with
  | 0 => f 0 = .pointer (some ⟨R, 0, none⟩)
  | 1 => f 1 = .int .i64 P
  | 2 => f 5 = undef → OwnB base (f 2) l1 w
  | 3 => f 3 = .pointer (some ⟨R, 1, none⟩)
  | 4 => f 4 = .int .i64 S
  | 5 => f 8 = undef → OwnB base (f 5) l2 w
  | 6 => f 6 = .pointer (some ⟨R, 2, none⟩)
  | 7 => f 7 = .slice A n c
  | 8 => f 5 ≠ undef ∧ (f 10 = undef → OwnB base (f 8) l3 w)
  | 9 => ∃ g, f 9 = .slice (some ⟨g, 0, none⟩) 1 1 ∧ base ≤ g ∧ g < w.heap.size ∧ w.heap[g]? = some (.cells #[.int .u8 90] 5 (0, 0))
  | 10 => OwnB base (f 10) l4 w
  | 11 => f 11 = f 10
  | _ => True
section
variable {R base : Nat} {P S : Int} {A : Option Addr} {n c : Nat} {l1 l2 l3 l4 : List UInt8}
/-- A step that turns row alone keeps what the others have yielded. -/
theorem sbK.keep {i j : Nat} {f : Nat → Value} {v : Value} {w w' : World} {row : Option Nat} (hij : j ≠ i) (hv : v ≠ undef) (hg : w.grownBy w' row)
    (hb5 : i = 5 → j ≠ 8 ∧ j ≠ 10) (hb8 : i = 8 → j ≠ 10) (hb2 : i = 2 → j ≠ 5 ∧ j ≠ 8 ∧ j ≠ 10) (hb10 : i = 10 → j ≠ 11)
    (hrow : ∀ g, row = some g → (i = 5 ∧ (f 2).ownBlock = some g) ∨ (i = 8 ∧ (f 5).ownBlock = some g ∧ f 5 ≠ undef) ∨ (i = 10 ∧ (f 8).ownBlock = some g ∧ f 5 ≠ undef ∧ f 8 ≠ undef))
    (h90 : ∀ g, row = some g → w.heap[g]? ≠ some (.cells #[.int .u8 90] 5 (0, 0)))
    (h : sbK R base P S A n c l1 l2 l3 l4 j f w) : sbK R base P S A n c l1 l2 l3 l4 j (updv f i v) w' := by
  match j, h with
  | 0, h => show updv f i v 0 = _; rw [updv_ne _ hij]; exact h
  | 1, h => show updv f i v 1 = _; rw [updv_ne _ hij]; exact h
  | 3, h => show updv f i v 3 = _; rw [updv_ne _ hij]; exact h
  | 4, h => show updv f i v 4 = _; rw [updv_ne _ hij]; exact h
  | 6, h => show updv f i v 6 = _; rw [updv_ne _ hij]; exact h
  | 7, h => show updv f i v 7 = _; rw [updv_ne _ hij]; exact h
  | 2, h =>
    intro hu
    show OwnB base (updv f i v 2) l1 w'
    rw [updv_ne _ hij]
    obtain ⟨h5, hi⟩ := one_back hv hu
    refine (h h5).grown hg fun g e => ?_
    rcases hrow g e with ⟨k, _⟩ | ⟨_, _, k⟩ | ⟨_, _, k, _⟩
    · exact absurd k.symm hi
    · exact absurd h5 k
    · exact absurd h5 k
  | 5, h =>
    intro hu
    show OwnB base (updv f i v 5) l2 w'
    rw [updv_ne _ hij]
    obtain ⟨h8, hi⟩ := one_back hv hu
    refine (h h8).grown hg fun g e => ?_
    rcases hrow g e with ⟨k, _⟩ | ⟨k, _⟩ | ⟨_, _, _, k⟩
    · exact absurd k.symm hij
    · exact absurd k.symm hi
    · exact absurd h8 k
  | 8, h =>
    obtain ⟨hf5, h⟩ := h
    refine ⟨fun e => hf5 (one_back hv e).1, fun hu => ?_⟩
    show OwnB base (updv f i v 8) l3 w'
    rw [updv_ne _ hij]
    obtain ⟨h10, hi⟩ := one_back hv hu
    refine (h h10).grown hg fun g e => ?_
    rcases hrow g e with ⟨k, _⟩ | ⟨k, _⟩ | ⟨k, _⟩
    · exact absurd rfl (hb5 k).1
    · exact absurd k.symm hij
    · exact absurd k.symm hi
  | 9, h =>
    obtain ⟨g, e1, e2, e3, e4⟩ := h
    exact ⟨g, by rw [updv_ne _ hij]; exact e1, e2, Nat.lt_of_lt_of_le e3 hg.size, (hg.block g e3 (fun e => h90 g e.symm e4)).trans e4⟩
  | 10, h =>
    show OwnB base (updv f i v 10) l4 w'
    rw [updv_ne _ hij]
    refine OwnB.grown h hg fun g e => ?_
    rcases hrow g e with ⟨k, _⟩ | ⟨k, _⟩ | ⟨k, _⟩
    · exact absurd rfl (hb5 k).2
    · exact absurd rfl (hb8 k)
    · exact absurd k.symm hij
  | 11, h =>
    show updv f i v 11 = updv f i v 10
    rw [updv_ne _ hij, updv_ne _ (fun e => hb10 e.symm rfl)]; exact h
  | _ + 12, _ => trivial
theorem grown_refl (w : World) : w.grownBy w none := World.grownBy.refl w _
/-- A step that turns nothing. -/
theorem sbK.same {i j : Nat} {f : Nat → Value} {v : Value} {w : World} (hij : j ≠ i) (hv : v ≠ undef) (hi : i ≠ 2 ∧ i ≠ 5 ∧ i ≠ 8 ∧ i ≠ 10) (h : sbK R base P S A n c l1 l2 l3 l4 j f w) : sbK R base P S A n c l1 l2 l3 l4 j (updv f i v) w :=
  h.keep hij hv (grown_refl w) (fun e => absurd e hi.2.1) (fun e => absurd e hi.2.2.1) (fun e => absurd e hi.1) (fun e => absurd e hi.2.2.2) (fun g e => by cases e) (fun g e => by cases e)
end
theorem run_fld {o : Oper} {ρ : Operand → Value} {w : World} {R : Nat} (x : Operand) (k : Nat) (hk : k < 3) (ho : o.op = .fieldAddr 24 x k) (hx : ρ x = .pointer (some ⟨R, 0, none⟩)) : (execOp ρ o).run Try.prog w = .ok (.value (.pointer (some ⟨R, k, none⟩))) w := by
  match k, hk with
  | 0, _ => simp [execOp, ho, hx, go_sem]
  | 1, _ => simp [execOp, ho, hx, go_sem]
  | 2, _ => simp [execOp, ho, hx, go_sem]
theorem run_ld {o : Oper} {ρ : Operand → Value} {w : World} {R k : Nat} {v : Value} (ty : TypeId) (x : Operand) (ho : o.op = .load ty x) (hx : ρ x = .pointer (some ⟨R, k, none⟩)) (hc : w.cell? ⟨R, k, none⟩ = some v) (hty : ty = 3 ∨ ty = 22) : (execOp ρ o).run Try.prog w = .ok (.value v) w := by
  rcases hty with rfl | rfl
  · simp [execOp, ho, hx, hc, go_sem]
  · simp [execOp, ho, hx, hc, go_sem]
theorem run_build1 {o : Oper} {ρ : Operand → Value} {w : World} (ho : o.op = .buildSlice 22 1 #[(0, .const (.int .u8 90))]) (hc : ρ (.const (.int .u8 90)) = .int .u8 90) : (execOp ρ o).run Try.prog w = .ok (.value (.slice (some ⟨w.heap.size, 0, none⟩) 1 1)) (w.alloc (.cells #[.int .u8 90] 5)) := by
  simp [execOp, ho, hc, go_sem]
/-- What the reference writes of any sheet. -/
def refL (p s : Int) (d : List UInt8) : List UInt8 := numL (heldW p) ++ numL (heldW s) ++ numL (heldW d.length) ++ d ++ [90]
theorem numL_ne (n : Nat) : numL n ≠ [] := by unfold numL; simp
set_option maxRecDepth 100000 in
set_option maxHeartbeats 4000000 in
theorem refbytes_any (B : Nat) (p s : Int) (A : Option Addr) (c : Nat) (d : List UInt8) (w : World) (hr : RB w B A d) (hB : B ≤ w.heap.size) (hd : d.length ≤ 70368744177664) (h90 : numL (heldW p) ≠ [90]) :
    Calls Try.prog 25 #[.agg #[.int .i64 p, .int .i64 s, .slice A d.length c]] w (FreshO w (refL p s d)) := by
  go_enter Try.func25, Try.ntmps25
  go_upto_region 1 with fail
  have C := cells3 (heap_alloc_new w (.cells #[.int .i64 p, .int .i64 s, .slice A d.length c] 24))
  have C0 := Lib.hid C.1
  have C1 := Lib.hid C.2.1
  have C2 := Lib.hid C.2.2
  clear C
  have hr0 := Lib.hid (hr.alloc hB (.cells #[.int .i64 p, .int .i64 s, .slice A d.length c] 24))
  have hl2 : (numL (heldW p) ++ numL (heldW s)).length ≤ 70368744177000 := by
    have h1 := (numL_len (heldW p) (by have := heldW_le p; omega)).2
    have h2 := (numL_len (heldW s) (by have := heldW_le s; omega)).2
    simp; omega
  refine region_inv3 6 (fun j f w' => sbK w.heap.size (w.heap.size + 1) p s A d.length c (numL (heldW p)) (numL (heldW p) ++ numL (heldW s)) (numL (heldW p) ++ numL (heldW s) ++ numL (heldW d.length) ++ d) (refL p s d) j f w') (fun w' => Below (w.heap.size + 1) (w.alloc (.cells #[.int .i64 p, .int .i64 s, .slice A d.length c] 24)) w') (by kernel_rfl) (by kernel_rfl) (by kernel_rfl) (by kernel_rfl) (Below.refl _ _).drew ?_ ?_
  · obtain ⟨i0, hi, hz0, hz1, hz2⟩ := info_parts info_byte
    refine OpsOk3.cons ?o0 (OpsOk3.cons ?o1 (OpsOk3.cons ?o2 (OpsOk3.cons ?o3 (OpsOk3.cons ?o4 (OpsOk3.cons ?o5 (OpsOk3.cons ?o6 (OpsOk3.cons ?o7 (OpsOk3.cons ?o8 (OpsOk3.cons ?o9 (OpsOk3.cons ?o10 (OpsOk3.cons ?o11 (OpsOk3.nil))))))))))))
    case o0 =>
      intro a w1 K hG need old fresh hK
      exact op_value (v := .pointer (some ⟨w.heap.size, 0, none⟩)) (wanted_none rfl) (run_fld (.tmp 1) 0 (by decide) rfl (old 1 (by kernel_rfl))) (hK _ w1 hG (updv_same _ _ _) (fun j hj hbh hs => hs.same hj (by simp [undef]) (by decide)))
    case o1 =>
      intro a w1 K hG need old fresh hK
      have e0 := need 0 (by kernel_rfl) (by kernel_rfl)
      have hc := (hG.cell (p := ⟨w.heap.size, 0, none⟩) (by simp)).trans C0.out
      exact op_value (v := .int .i64 p) (wanted_none rfl) (run_ld _ (.tmp 3) rfl (show a.eval (.tmp 3) = .pointer (some ⟨w.heap.size, 0, none⟩) from e0) hc (by simp)) (hK _ w1 hG (updv_same _ _ _) (fun j hj hbh hs => hs.same hj (by simp [undef]) (by decide)))
    case o2 =>
      intro a w1 K hG need old fresh hK
      have hsz : w.heap.size + 1 ≤ w1.heap.size := by have := hG.size; simpa using this
      have e1 := need 1 (by kernel_rfl) (by kernel_rfl)
      have f2 := fresh 2 (.inl rfl)
      refine op_call (wanted_none rfl) (run_go2 36 (.const (.slice none 0 0)) (.tmp 4) _ rfl rfl rfl (show a.eval (.tmp 4) = .int .i64 p from e1) (by go_simp)) ((put_any none none 0 [] p w1 (.inl ⟨World.ownsRow_nil _ _ _ _, .inl rfl⟩) (fun g e => by cases e) (by simp)).mono ?_)
      intro e w2 hpost
      obtain ⟨v, rfl, hv, hgr, hnew⟩ := own_post (base := w.heap.size + 1) hpost (by simpa using numL_ne _) (fun g e => by cases e) (by omega)
      rw [List.nil_append] at hv
      refine ⟨v, rfl, hK _ w2 (hG.grown hgr hsz fun k e => by cases e) (fun _ => ?_) (fun j hj hbh hs => hs.keep hj hv.ne hgr (fun e => absurd e (by decide)) (fun e => absurd e (by decide)) (fun _ => ⟨fun e => ?_, fun e => ?_, fun e => ?_⟩) (fun e => absurd e (by decide)) (fun g e => by cases e) (fun g e => by cases e))⟩
      · rw [updv_same]; exact hv
      all_goals subst e; exact absurd (show behind _ 6 _ _ = true by kernel_rfl) (by rw [hbh]; decide)
    case o3 =>
      intro a w1 K hG need old fresh hK
      exact op_value (v := .pointer (some ⟨w.heap.size, 1, none⟩)) (wanted_none rfl) (run_fld (.tmp 1) 1 (by decide) rfl (old 1 (by kernel_rfl))) (hK _ w1 hG (updv_same _ _ _) (fun j hj hbh hs => hs.same hj (by simp [undef]) (by decide)))
    case o4 =>
      intro a w1 K hG need old fresh hK
      have e0 := need 3 (by kernel_rfl) (by kernel_rfl)
      have hc := (hG.cell (p := ⟨w.heap.size, 1, none⟩) (by simp)).trans C1.out
      exact op_value (v := .int .i64 s) (wanted_none rfl) (run_ld _ (.tmp 6) rfl (show a.eval (.tmp 6) = .pointer (some ⟨w.heap.size, 1, none⟩) from e0) hc (by simp)) (hK _ w1 hG (updv_same _ _ _) (fun j hj hbh hs => hs.same hj (by simp [undef]) (by decide)))
    case o5 =>
      intro a w1 K hG need old fresh hK
      have hsz : w.heap.size + 1 ≤ w1.heap.size := by have := hG.size; simpa using this
      have e1 := need 4 (by kernel_rfl) (by kernel_rfl)
      obtain ⟨p2, c2, e2, how⟩ := need 2 (by kernel_rfl) (by kernel_rfl) (fresh 5 (.inl rfl))
      rw [e2] at how
      refine op_call (wanted_none rfl) (run_go2 36 (.tmp 5) (.tmp 7) _ rfl rfl (show a.eval (.tmp 5) = _ from e2) (show a.eval (.tmp 7) = .int .i64 s from e1) (by go_simp)) ((put_any (Value.slice p2 (numL (heldW p)).length c2).ownBlock p2 c2 (numL (heldW p)) s w1 (.inl ⟨own_lower how (Nat.zero_le _), .inl rfl⟩) (fun g e => (how.lt g e).2) (by have := (numL_len (heldW p) (by have := heldW_le p; omega)).2; omega)).mono ?_)
      intro e w2 hpost
      obtain ⟨v, rfl, hv, hgr, hnew⟩ := own_post (base := w.heap.size + 1) hpost (by simp [numL_ne]) (fun g e => (how.lt g e).1) (by omega)
      refine ⟨v, rfl, hK _ w2 (hG.grown hgr hsz fun k e => (how.lt k e).1) (fun _ => ?_) (fun j hj hbh hs => hs.keep hj hv.ne hgr (fun _ => ⟨fun e => ?_, fun e => ?_⟩) (fun e => absurd e (by decide)) (fun e => absurd e (by decide)) (fun e => absurd e (by decide)) (fun g e => .inl ⟨rfl, by rw [e2]; exact e⟩) (own_not90 how (numL_ne _) h90))⟩
      · rw [updv_same]; exact hv
      all_goals subst e; exact absurd (show behind _ 6 _ _ = true by kernel_rfl) (by rw [hbh]; decide)
    case o6 =>
      intro a w1 K hG need old fresh hK
      exact op_value (v := .pointer (some ⟨w.heap.size, 2, none⟩)) (wanted_none rfl) (run_fld (.tmp 1) 2 (by decide) rfl (old 1 (by kernel_rfl))) (hK _ w1 hG (updv_same _ _ _) (fun j hj hbh hs => hs.same hj (by simp [undef]) (by decide)))
    case o7 =>
      intro a w1 K hG need old fresh hK
      have e0 := need 6 (by kernel_rfl) (by kernel_rfl)
      have hc := (hG.cell (p := ⟨w.heap.size, 2, none⟩) (by simp)).trans C2.out
      exact op_value (v := .slice A d.length c) (wanted_none rfl) (run_ld _ (.tmp 9) rfl (show a.eval (.tmp 9) = .pointer (some ⟨w.heap.size, 2, none⟩) from e0) hc (by simp)) (hK _ w1 hG (updv_same _ _ _) (fun j hj hbh hs => hs.same hj (by simp [undef]) (by decide)))
    case o8 =>
      intro a w1 K hG need old fresh hK
      have hsz : w.heap.size + 1 ≤ w1.heap.size := by have := hG.size; simpa using this
      have e1 := need 7 (by kernel_rfl) (by kernel_rfl)
      obtain ⟨p2, c2, e2, how⟩ := need 5 (by kernel_rfl) (by kernel_rfl) (fresh 8 (.inl rfl))
      have n5 : vals _ a 5 ≠ undef := fun e => by rw [e2] at e; simp [undef] at e
      rw [e2] at how
      have hRd : RB w1 B A d := hr0.out.below hG (by omega)
      refine op_call (wanted_none rfl) (run_go2 35 (.tmp 8) (.tmp 10) _ rfl rfl (show a.eval (.tmp 8) = _ from e2) (show a.eval (.tmp 10) = .slice A d.length c from e1) (by go_simp)) ((puttext_any (Value.slice p2 (numL (heldW p) ++ numL (heldW s)).length c2).ownBlock B p2 A c2 c (numL (heldW p) ++ numL (heldW s)) d w1 (.inl ⟨own_lower how (Nat.zero_le _), .inl rfl⟩) (fun g e => (how.lt g e).2) hRd (by omega) (fun hn ad e e' => by obtain ⟨ad', e3, hb', _⟩ := hr hn; rw [e] at e3; cases e3; have := (how.lt _ e').1; omega) hl2 (by omega)).mono ?_)
      intro e w2 hpost
      obtain ⟨v, rfl, hv, hgr, hnew⟩ := own_post (base := w.heap.size + 1) hpost (by simp [numL_ne]) (fun g e => (how.lt g e).1) (by omega)
      refine ⟨v, rfl, hK _ w2 (hG.grown hgr hsz fun k e => (how.lt k e).1) ⟨by rw [updv_ne _ (by decide)]; exact n5, fun _ => ?_⟩ (fun j hj hbh hs => hs.keep hj hv.ne hgr (fun e => absurd e (by decide)) (fun _ e => ?_) (fun e => absurd e (by decide)) (fun e => absurd e (by decide)) (fun g e => .inr (.inl ⟨rfl, by rw [e2]; exact e, n5⟩)) (own_not90 how (by simp [numL_ne]) (fun e => two_not90 _ _ [] (by simpa using e))))⟩
      · rw [updv_same]; exact hv
      all_goals subst e; exact absurd (show behind _ 6 _ _ = true by kernel_rfl) (by rw [hbh]; decide)
    case o9 =>
      intro a w1 K hG need old fresh hK
      have hsz : w.heap.size + 1 ≤ w1.heap.size := by have := hG.size; simpa using this
      have hba := World.grownBy_alloc w1 (.cells #[.int .u8 90] 5) none
      refine op_value (v := .slice (some ⟨w1.heap.size, 0, none⟩) 1 1) (wanted_none rfl) (run_build1 rfl rfl) (hK _ _ (hG.alloc hsz _) ?_ (fun j hj hbh hs => hs.keep hj (by simp [undef]) hba (fun e => absurd e (by decide)) (fun e => absurd e (by decide)) (fun e => absurd e (by decide)) (fun e => absurd e (by decide)) (fun g e => by cases e) (fun g e => by cases e)))
      exact ⟨w1.heap.size, updv_same _ _ _, by omega, by simp, heap_alloc_new w1 _⟩
    case o10 =>
      intro a w1 K hG need old fresh hK
      have hsz : w.heap.size + 1 ≤ w1.heap.size := by have := hG.size; simpa using this
      obtain ⟨g, e9, hg1, hg2, hg3⟩ := need 9 (by kernel_rfl) (by kernel_rfl)
      obtain ⟨n5, h8⟩ := need 8 (by kernel_rfl) (by kernel_rfl)
      obtain ⟨p2, c2, e2, how⟩ := h8 (fresh 10 (.inl rfl))
      have n8 : vals _ a 8 ≠ undef := fun e => by rw [e2] at e; simp [undef] at e
      rw [e2] at how
      have hR9 : RB w1 w1.heap.size (some ⟨g, 0, none⟩) [90] := fun _ => ⟨_, rfl, hg2, fun j hj => by
        obtain rfl : j = 0 := by simpa using hj
        simp [Addr.add, World.cell?, hg3, ub]⟩
      have hl3 : (numL (heldW p) ++ numL (heldW s) ++ numL (heldW d.length) ++ d).length + 1 ≤ 140737488355328 := by
        have h3 := (numL_len (heldW d.length) (by have := heldW_le d.length; omega)).2
        simp at hl2 ⊢; omega
      obtain ⟨p3, cap, w2, hrun, how2, hgr, hob⟩ := run_append_bytes (P := Try.prog) w1 (w.heap.size + 1) 22 22 5 i0 _ Try.underlying22 hi hz0 hz1 hz2 rfl _ _ how w1.heap.size (some ⟨g, 0, none⟩) 1 [90] hR9 hl3 hsz
      refine op_value (wanted_none rfl) (run_app (.tmp 11) (.tmp 12) rfl (show a.eval (.tmp 11) = _ from e2) (show a.eval (.tmp 12) = _ from e9) hrun) (hK _ w2 (hG.grown hgr hsz fun k e => (how.lt k e).1) ?_ (fun j hj hbh hs => hs.keep hj (by simp [undef]) hgr (fun e => absurd e (by decide)) (fun e => absurd e (by decide)) (fun e => absurd e (by decide)) (fun _ e => ?_) (fun g e => .inr (.inr ⟨rfl, by rw [e2]; exact e, n5, n8⟩)) (own_not90 how (by simp [numL_ne]) (fun e => two_not90 (heldW p) (heldW s) (numL (heldW d.length) ++ d) (by simpa using e)))))
      · exact ⟨p3, cap, updv_same _ _ _, by rw [updv_same]; exact how2⟩
      · subst e; exact absurd (show behind _ 6 _ _ = true by kernel_rfl) (by rw [hbh]; decide)
    case o11 =>
      intro a w1 K hG need old fresh hK
      have h10 : OwnB _ _ _ _ := need 10 (by kernel_rfl) (by kernel_rfl)
      refine op_value (wanted_none rfl) (run_assign (.tmp 13) rfl rfl) (hK _ w1 hG ?_ (fun j hj hbh hs => hs.same hj h10.ne (by decide)))
      show updv _ 11 _ 11 = updv _ 11 _ 10
      rw [updv_same, updv_ne _ (by decide)]; rfl
  · intro a w' hG hde hsz hφ hold
    obtain ⟨p2, c2, e2, how⟩ := hφ 10 (by kernel_rfl)
    have h11 : a.tmps.getD 2 undef = .slice p2 (refL p s d).length c2 := (show a.tmps.getD 2 undef = _ from hφ 11 (by kernel_rfl)).trans e2
    rw [e2] at how
    go_wp2
    refine bodyPost_ret (v := .slice p2 (refL p s d).length c2) ?_ hde ⟨p2, c2, refL p s d, rfl, rfl, own_lower how (Nat.le_succ _), ((Below.refl w.heap.size w).alloc (Nat.le_refl _) _).trans (hG.mono (by omega))⟩
    rw [results_tmp (t := 2) rfl, h11]
end Go.Proofs.Ytfjijpejoocngaa
