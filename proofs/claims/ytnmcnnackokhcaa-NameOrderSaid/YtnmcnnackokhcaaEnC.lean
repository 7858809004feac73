/- slices.Grow, slices.Concat of two and of three lists of entries. -/
import Derived.Test.YtnmcnnackokhcaaEnR
import Derived.Lib.AppendZeros
import Derived.Deep.RegionLaw
namespace Go.Proofs.Ytnmcnnackokhcaa
open Go.RowKit

set_option maxRecDepth 100000 in
theorem growe_any (n : Nat) (w : World) (h : n ≤ 1000) : Calls Try.prog 27 #[.slice none 0 0, .int .i64 n] w fun e w' => ∃ v, e = .returned v ∧ w'.ownsRow w.heap.size 32 2 v 0 [] ∧ Below w.heap.size w w' := by
  by_cases h0 : n = 0
  · subst h0
    go_enter Try.func27, Try.ntmps27
    go_wp2
    go_ret
    exact ⟨_, rfl, World.ownsRow_nil _ _ _ _, Below.refl _ _⟩
  · obtain ⟨i0, hi, hz0, hz1, hz2⟩ := entry_parts
    have hrun := fun ty => Lib.run_append_nil_zeros (P := Try.prog) w 22 3 ty 32 i0 _ .i64 .i64 Try.underlying22 Try.underlying3 hi hz0 n (by omega) (by omega) (by omega) (by rw [hz2]; omega)
    have hge := grownCap_ge w n 0 32
    have hmx := grownCap_le_maxLen w n 0 32 (by unfold maxLen; omega)
    obtain ⟨G, hG⟩ : ∃ G, G = grownCap w n 0 32 := ⟨_, rfl⟩
    rw [← hG] at hrun hge hmx
    clear hG
    go_enter Try.func27, Try.ntmps27
    go_wp2_with (at_builtin; refine Lib.wpList_append_run _ rfl _ _ _ _ rfl _ _ rfl rfl _ _ (hrun _) ?_)
    go_ret
    exact ⟨_, rfl, World.ownsRow_made w.drew _ G (Nat.le_refl _) hmx (by simp [Builtin.zeroCells]; omega), (Below.refl _ _).drew.alloc (Nat.le_refl _) _⟩

theorem growe_int (x : Int) (n : Nat) (w : World) (hx : x = n) (h : n ≤ 1000) : Calls Try.prog 27 #[.slice none 0 0, .int .i64 x] w fun e w' => ∃ v, e = .returned v ∧ w'.ownsRow w.heap.size 32 2 v 0 [] ∧ Below w.heap.size w w' := by
  subst hx
  exact growe_any n w h
theorem own_none {w : World} {base c : Nat} {q : Option Addr} {l : List Ent} {n : Nat} (h : EOwn w base (.slice q n c) l) : q = none → c = 0 := fun e => by
  subst e
  rcases h.2 with ⟨e, _⟩ | ⟨g, cap, cur, e, _⟩
  · simp at e; exact e.2
  · simp at e
set_option maxRecDepth 100000 in
set_option maxHeartbeats 1000000 in
theorem concat2 (g : Nat) (A1 A2 : Option Addr) (c1 c2 k : Nat) (l1 l2 : List Ent) (w : World) (hg : w.heap[g]? = some (.cells #[.slice A1 l1.length c1, .slice A2 l2.length c2] 22 (0, 0)))
    (h1 : ELies w A1 l1) (h2 : ELies w A2 l2) (e1 : A1 = none → l1 = [] ∧ c1 = 0) (e2 : A2 = none → l2 = [] ∧ c2 = 0) (b1 : l1.length ≤ 100) (b2 : l2.length ≤ 100) :
    Calls Try.prog 22 #[.slice (some ⟨g, 0, none⟩) 2 k] w fun e w' => ∃ A c, e = .returned (.slice A (l1 ++ l2).length c) ∧ ELies w' A (l1 ++ l2) ∧ (∀ ad, A = some ad → w.heap.size ≤ ad.block) ∧ (A = none → c = 0) ∧ (l1 ++ l2).length ≤ c ∧ Below w.heap.size w w' := by
  have hgl := lt_size hg
  have N1 := Lib.hid e1
  have N2 := Lib.hid e2
  clear e1 e2
  have q0 : w.cell? ⟨g, 0, none⟩ = some (.slice A1 l1.length c1) := by simp [World.cell?, hg]
  have q1 : w.cell? ⟨g, 1, none⟩ = some (.slice A2 l2.length c2) := by simp [World.cell?, hg]
  go_enter Try.func22, Try.ntmps22
  go_wp2
  refine wp_loop_rounds 3 ?_
  rw [rounds_succ]
  go_wp2
  rw [rounds_succ]
  go_wp2
  rw [rounds_succ]
  go_wp2_with fail
  refine (growe_int _ (l1.length + l2.length) _ (by omega) (by omega)).mono ?_
  rintro e w1 ⟨v, rfl, hown, hb⟩
  obtain ⟨p, cap, rfl, _⟩ := own_slice hown
  have hs1 := hb.size
  have p0 : w1.cell? ⟨g, 0, none⟩ = some (.slice A1 l1.length c1) := (hb.cell (p := ⟨g, 0, none⟩) hgl).trans q0
  have p1 : w1.cell? ⟨g, 1, none⟩ = some (.slice A2 l2.length c2) := (hb.cell (p := ⟨g, 1, none⟩) hgl).trans q1
  clear q0 q1
  have hown0 : EOwn w1 w.heap.size (.slice p 0 cap) [] := hown
  have HB0 := Lib.hid hb
  have HO0 := Lib.hid hown0
  clear hown hown0 hb
  go_wp2
  refine wp_loop_rounds 3 ?_
  rw [rounds_succ]
  go_wp2_with (at_builtin; refine wpList_eapp rfl _ _ rfl w.heap.size _ ([] : List Ent) l1 A1 c1 rfl rfl HO0.out (h1.below HB0.out) N1.out (by first | omega | (rw [List.length_nil]; omega) | (rw [List.length_append]; omega)) hs1 ?_; intro p1x cap1 w2 hown1 hg1)
  simp only [List.nil_append, List.length_nil, Nat.zero_add] at hown1
  have HB1 := Lib.hid (HB0.out.grown hg1 hs1 fun k e => (HO0.out.lt k e).1)
  have hs2 := HB1.out.size
  have p1' : w2.cell? ⟨g, 1, none⟩ = some (.slice A2 l2.length c2) := (World.cell?_of_block (hg1.block g (by omega) fun e => by have := (HO0.out.lt g e.symm).1; omega)).trans p1
  have HO1 := Lib.hid hown1
  clear hown1 p0 p1
  rw [rounds_succ]
  go_wp2_with (at_builtin; refine wpList_eapp rfl _ _ rfl w.heap.size _ l1 l2 A2 c2 rfl rfl HO1.out (h2.below HB1.out) N2.out (by first | omega | (rw [List.length_nil]; omega) | (rw [List.length_append]; omega)) hs2 ?_; intro p2x cap2 w3 hown2 hg2)
  have HB2 := Lib.hid (HB1.out.grown hg2 hs2 fun k e => (HO1.out.lt k e).1)
  have hs3 := HB2.out.size
  have HO2 := Lib.hid hown2
  clear hown2 p1'
  rw [rounds_succ]
  go_wp2
  go_ret
  have hf := HO2.out.lies
  exact ⟨p2x, cap2, by rw [List.length_append]; rfl, hf.1, hf.2.2.1, own_none HO2.out, by rw [List.length_append]; exact hf.2.2.2, HB2.out⟩
set_option maxRecDepth 100000 in
set_option maxHeartbeats 1000000 in
theorem concat3 (g : Nat) (A1 A2 A3 : Option Addr) (c1 c2 c3 k : Nat) (l1 l2 l3 : List Ent) (w : World) (hg : w.heap[g]? = some (.cells #[.slice A1 l1.length c1, .slice A2 l2.length c2, .slice A3 l3.length c3] 22 (0, 0)))
    (h1 : ELies w A1 l1) (h2 : ELies w A2 l2) (h3 : ELies w A3 l3) (e1 : A1 = none → l1 = [] ∧ c1 = 0) (e2 : A2 = none → l2 = [] ∧ c2 = 0) (e3 : A3 = none → l3 = [] ∧ c3 = 0) (b1 : l1.length ≤ 100) (b2 : l2.length ≤ 100) (b3 : l3.length ≤ 100) :
    Calls Try.prog 22 #[.slice (some ⟨g, 0, none⟩) 3 k] w fun e w' => ∃ A c, e = .returned (.slice A (l1 ++ l2 ++ l3).length c) ∧ ELies w' A (l1 ++ l2 ++ l3) ∧ (∀ ad, A = some ad → w.heap.size ≤ ad.block) ∧ (A = none → c = 0) ∧ (l1 ++ l2 ++ l3).length ≤ c ∧ Below w.heap.size w w' := by
  have hgl := lt_size hg
  have N1 := Lib.hid e1
  have N2 := Lib.hid e2
  have N3 := Lib.hid e3
  clear e1 e2 e3
  have q0 : w.cell? ⟨g, 0, none⟩ = some (.slice A1 l1.length c1) := by simp [World.cell?, hg]
  have q1 : w.cell? ⟨g, 1, none⟩ = some (.slice A2 l2.length c2) := by simp [World.cell?, hg]
  have q2 : w.cell? ⟨g, 2, none⟩ = some (.slice A3 l3.length c3) := by simp [World.cell?, hg]
  go_enter Try.func22, Try.ntmps22
  go_wp2
  refine wp_loop_rounds 4 ?_
  rw [rounds_succ]
  go_wp2
  rw [rounds_succ]
  go_wp2
  rw [rounds_succ]
  go_wp2
  rw [rounds_succ]
  go_wp2_with fail
  refine (growe_int _ (l1.length + l2.length + l3.length) _ (by omega) (by omega)).mono ?_
  rintro e w1 ⟨v, rfl, hown, hb⟩
  obtain ⟨p, cap, rfl, _⟩ := own_slice hown
  have hs1 := hb.size
  have p0 : w1.cell? ⟨g, 0, none⟩ = some (.slice A1 l1.length c1) := (hb.cell (p := ⟨g, 0, none⟩) hgl).trans q0
  have p1 : w1.cell? ⟨g, 1, none⟩ = some (.slice A2 l2.length c2) := (hb.cell (p := ⟨g, 1, none⟩) hgl).trans q1
  have p2 : w1.cell? ⟨g, 2, none⟩ = some (.slice A3 l3.length c3) := (hb.cell (p := ⟨g, 2, none⟩) hgl).trans q2
  clear q0 q1 q2
  have hown0 : EOwn w1 w.heap.size (.slice p 0 cap) [] := hown
  have HB0 := Lib.hid hb
  have HO0 := Lib.hid hown0
  clear hown hown0 hb
  go_wp2
  refine wp_loop_rounds 4 ?_
  rw [rounds_succ]
  go_wp2_with (at_builtin; refine wpList_eapp rfl _ _ rfl w.heap.size _ ([] : List Ent) l1 A1 c1 rfl rfl HO0.out (h1.below HB0.out) N1.out (by first | omega | (rw [List.length_nil]; omega) | (rw [List.length_append]; omega)) hs1 ?_; intro p1x cap1 w2 hown1 hg1)
  simp only [List.nil_append, List.length_nil, Nat.zero_add] at hown1
  have HB1 := Lib.hid (HB0.out.grown hg1 hs1 fun k e => (HO0.out.lt k e).1)
  have hs2 := HB1.out.size
  have p1' : w2.cell? ⟨g, 1, none⟩ = some (.slice A2 l2.length c2) := (World.cell?_of_block (hg1.block g (by omega) fun e => by have := (HO0.out.lt g e.symm).1; omega)).trans p1
  have p2' : w2.cell? ⟨g, 2, none⟩ = some (.slice A3 l3.length c3) := (World.cell?_of_block (hg1.block g (by omega) fun e => by have := (HO0.out.lt g e.symm).1; omega)).trans p2
  have HO1 := Lib.hid hown1
  clear hown1 p0 p1 p2
  rw [rounds_succ]
  go_wp2_with (at_builtin; refine wpList_eapp rfl _ _ rfl w.heap.size _ l1 l2 A2 c2 rfl rfl HO1.out (h2.below HB1.out) N2.out (by first | omega | (rw [List.length_nil]; omega) | (rw [List.length_append]; omega)) hs2 ?_; intro p2x cap2 w3 hown2 hg2)
  have HB2 := Lib.hid (HB1.out.grown hg2 hs2 fun k e => (HO1.out.lt k e).1)
  have hs3 := HB2.out.size
  have p2'' : w3.cell? ⟨g, 2, none⟩ = some (.slice A3 l3.length c3) := (World.cell?_of_block (hg2.block g (by omega) fun e => by have := (HO1.out.lt g e.symm).1; omega)).trans p2'
  have HO2 := Lib.hid hown2
  clear hown2 p1' p2'
  rw [rounds_succ]
  go_wp2_with (at_builtin; refine wpList_eapp rfl _ _ rfl w.heap.size _ (l1 ++ l2) l3 A3 c3 rfl rfl HO2.out (h3.below HB2.out) N3.out (by first | omega | (rw [List.length_nil]; omega) | (rw [List.length_append]; omega)) hs3 ?_; intro p3x cap3 w4 hown3 hg3)
  have HB3 := Lib.hid (HB2.out.grown hg3 hs3 fun k e => (HO2.out.lt k e).1)
  have hs4 := HB3.out.size
  have HO3 := Lib.hid hown3
  clear hown3 p2''
  rw [rounds_succ]
  go_wp2
  go_ret
  have hf := HO3.out.lies
  refine ⟨p3x, cap3, ?_, hf.1, hf.2.2.1, own_none HO3.out, ?_, HB3.out⟩
  · simp only [List.length_append]; rfl
  · have := hf.2.2.2; simp only [List.length_append] at this ⊢; exact this
theorem elies_grown {w w' : World} {A : Option Addr} {l : List Ent} {row : Option Nat} (h : ELies w A l) (hg : w.grownBy w' row) (hn : ∀ ad, A = some ad → some ad.block ≠ row) : ELies w' A l := fun hp => by
  obtain ⟨B, o, rfl, hB, hc⟩ := h hp
  have hk := hg.block B hB (hn _ rfl)
  refine ⟨B, o, rfl, Nat.lt_of_lt_of_le hB hg.size, fun j hj => ?_⟩
  obtain ⟨h0, h1⟩ := hc j hj
  exact ⟨(World.cell?_of_block (a := ⟨B, o + j * 2, none⟩) hk).trans h0, (World.cell?_of_block (a := ⟨B, o + j * 2 + 1, none⟩) hk).trans h1⟩
theorem EOwn.grown {w0 w w' : World} {n : Nat} {v : Value} {xs : List Ent} (h : EOwn w n v xs) (hb : Below n w0 w) (hg : w.grownBy w' v.ownBlock) (hn : n ≤ w.heap.size) : Below n w0 w' := eown_below h hb hg hn
/-- An append as one step of a region that draws. -/
theorem step_eapp {w : World} {ops : Array Oper} {o : Oper} {a : Act} {K : Act → World → Prop} {Q : Exit → Act → World → Prop} {E : Prop} (hgd : o.guard = none) (s x : Operand) (ho : o.op = .call { callee := .builtin .append, args := #[s, x], argTypes := #[22, 22] })
    (base : Nat) (v : Value) (n : Nat) (xs : List Ent) (m : Nat) (l : List Ent) (A : Option Addr) (c : Nat) (hs : a.eval s = v) (hx : a.eval x = .slice A m c) (hn : xs.length = n) (hm : l.length = m) (hown : EOwn w base v xs) (hl : ELies w A l) (hA : A = none → l = [] ∧ c = 0) (h63 : n + m ≤ 100000) (hbase : base ≤ w.heap.size)
    (h : ∀ q cap w', EOwn w' base (.slice q (n + m) cap) (xs ++ l) → w.grownBy w' v.ownBlock → K (a.put o.dst (.slice q (n + m) cap)) w') :
    if Region.wanted o (yielded ops a.tmps) = true then Oper.wp Try.prog o a w K Q else E := by
  subst hn
  subst hm
  rw [if_pos (by simp [Region.wanted, hgd])]
  exact oper_eapp s x ho hs hx hown hl hA h63 hbase h
/-- As step_eapp, with the new length by name. -/
theorem step_eappT {w : World} {ops : Array Oper} {o : Oper} {a : Act} {K : Act → World → Prop} {Q : Exit → Act → World → Prop} {E : Prop} (hgd : o.guard = none) (s x : Operand) (ho : o.op = .call { callee := .builtin .append, args := #[s, x], argTypes := #[22, 22] })
    (base : Nat) (v : Value) (n : Nat) (xs : List Ent) (m : Nat) (l : List Ent) (A : Option Addr) (c t : Nat) (ht : n + m = t) (hs : a.eval s = v) (hx : a.eval x = .slice A m c) (hn : xs.length = n) (hm : l.length = m) (hown : EOwn w base v xs) (hl : ELies w A l) (hA : A = none → l = [] ∧ c = 0) (h63 : t ≤ 100000) (hbase : base ≤ w.heap.size)
    (h : ∀ q cap w', EOwn w' base (.slice q t cap) (xs ++ l) → w.grownBy w' v.ownBlock → K (a.put o.dst (.slice q t cap)) w') :
    if Region.wanted o (yielded ops a.tmps) = true then Oper.wp Try.prog o a w K Q else E := by
  subst ht
  exact step_eapp hgd s x ho base v n xs m l A c hs hx hn hm hown hl hA h63 hbase h
end Go.Proofs.Ytnmcnnackokhcaa
