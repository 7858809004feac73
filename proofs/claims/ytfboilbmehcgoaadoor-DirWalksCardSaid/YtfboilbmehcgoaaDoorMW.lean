/- Rows of strings; slices.Grow, slices.Concat of two of them. -/
import Derived.Test.YtfboilbmehcgoaaDoorMD
import Derived.Lib.AppendZeros
import Derived.Deep.RegionLaw
namespace Go.Proofs.YtfboilbmehcgoaaDoor
open Go.RowKit

def ZLies (w : World) (A : Option Addr) (l : List ByteArray) : Prop :=
  0 < l.length → ∃ B o, A = some ⟨B, o, none⟩ ∧ B < w.heap.size ∧ ∀ j (h : j < l.length), w.cell? ⟨B, o + j, none⟩ = some (.string l[j])
theorem ZLies.below {w w' : World} {A : Option Addr} {l : List ByteArray} (h : ZLies w A l) (hb : Below w.heap.size w w') : ZLies w' A l := fun hn => by
  obtain ⟨B, o, e, hB, hc⟩ := h hn
  exact ⟨B, o, e, Nat.lt_of_lt_of_le hB hb.size, fun j hj => (hb.cell (p := ⟨B, o + j, none⟩) hB).trans (hc j hj)⟩
theorem ZLies.nil (w : World) (A : Option Addr) : ZLies w A [] := fun h => absurd h (by simp)
def zcells (l : List ByteArray) : List Value := l.map (Value.string)
theorem zcells_len (l : List ByteArray) : (zcells l).length = l.length * 1 := by simp [zcells]
theorem zcells_app (l m : List ByteArray) : zcells (l ++ m) = zcells l ++ zcells m := by simp [zcells]
theorem zcells_one {l : List ByteArray} {u : Value} (h : u ∈ zcells l) : u.oneCell' = true := by
  obtain ⟨x, _, rfl⟩ := List.mem_map.1 h
  rfl
theorem ZLies.cells {w : World} {A : Option Addr} {l : List ByteArray} (h : ZLies w A l) {ad : Addr} (e : A = some ad) : ∀ (k : Nat) (u : Value), (zcells l)[k]? = some u → w.cell? (ad.add k) = some u := fun k u hu => by
  obtain ⟨hk, e1⟩ := List.getElem?_eq_some_iff.1 hu
  have hk2 : k < l.length := by simpa [zcells] using hk
  obtain ⟨B, o, e2, _, hc⟩ := h (by omega)
  obtain rfl : ad = ⟨B, o, none⟩ := by rw [e] at e2; exact Option.some.inj e2
  have ea : (⟨B, o, none⟩ : Addr).add k = ⟨B, o + k, none⟩ := by
    unfold Addr.add
    split
    · next e => subst e; rfl
    · rfl
  rw [ea, hc k hk2, ← e1]
  simp [zcells]
/-- Such a row of the call's own. -/
def ZOwn (w : World) (base : Nat) (v : Value) (l : List ByteArray) : Prop := w.ownsRow base 9 1 v l.length (zcells l)
theorem zown_nil (W : World) (B : Nat) : ZOwn W B (.slice none 0 0) [] := World.ownsRow_nil _ _ _ _
theorem zown_empty {W : World} {B g : Nat} (h : W.heap[g]? = some (.cells #[] 9 (0, 0))) (hB : B ≤ g) : ZOwn W B (.slice (some ⟨g, 0, none⟩) 0 0) [] :=
  ⟨rfl, .inr ⟨g, 0, #[], rfl, hB, h, Nat.le_refl _, Nat.zero_le _, rfl, rfl⟩⟩
theorem zown_below {w0 w w' : World} {n : Nat} {v : Value} {xs : List ByteArray} (h : ZOwn w n v xs) (hb : Below n w0 w) (hg : w.grownBy w' v.ownBlock) (hn : n ≤ w.heap.size) : Below n w0 w' :=
  hb.grown hg hn fun k e => (World.ownsRow.lt h k e).1
theorem ZOwn.lies {w : World} {base c : Nat} {q : Option Addr} {l : List ByteArray} {n : Nat} (h : ZOwn w base (.slice q n c) l) : ZLies w q l ∧ n = l.length ∧ (∀ ad, q = some ad → base ≤ ad.block) ∧ n ≤ c ∧ (q = none → c = 0) := by
  rcases h.2 with ⟨e, e2⟩ | ⟨g, cap, cur, e, hb, hg, hc, _, _, ht⟩
  · simp at e
    obtain ⟨rfl, rfl, rfl⟩ := e
    exact ⟨fun hn => by omega, by omega, fun ad e => (by cases e), Nat.le_refl _, fun _ => rfl⟩
  · simp at e
    obtain ⟨rfl, rfl, rfl⟩ := e
    refine ⟨fun hn => ⟨g, 0, rfl, lt_size hg, fun j hj => ?_⟩, rfl, fun ad e => (by cases e; exact hb), hc, fun e => by cases e⟩
    have hf : (zcells l)[j]? = some (.string l[j]) := by simp [zcells, hj]
    rw [← ht, List.getElem?_take_of_lt (by omega)] at hf
    rw [← hf, Nat.zero_add]
    simp [World.cell?, hg]
theorem info_strZ : (Tryd.prog.info? 9).map (fun i => (i.zero, i.size, i.bytes)) = some (some (.string ⟨#[]⟩), 1, 16) := by kernel_rfl
theorem str_partsZ : ∃ i, Tryd.prog.info? 9 = some i ∧ i.zero = some (.string ⟨#[]⟩) ∧ i.size = 1 ∧ i.bytes = 16 := by
  have h := info_strZ
  cases e : Tryd.prog.info? 9 with
  | none => rw [e] at h; cases h
  | some i =>
    rw [e] at h
    simp only [Option.map_some, Option.some.injEq, Prod.mk.injEq] at h
    exact ⟨i, rfl, h.1, h.2.1, h.2.2⟩
theorem run_zapp {w : World} {base : Nat} {v : Value} {xs l : List ByteArray} {A : Option Addr} {c : Nat} (ty : TypeId) (hown : ZOwn w base v xs) (hl : ZLies w A l) (hA : A = none → l = [] ∧ c = 0) (h63 : xs.length + l.length ≤ 100000) (hbase : base ≤ w.heap.size) :
    ∃ q cap w', (Builtin.append_ #[37, 37] ty #[v, .slice A l.length c]).run Tryd.prog w = .ok (.slice q (xs.length + l.length) cap) w' ∧ ZOwn w' base (.slice q (xs.length + l.length) cap) (xs ++ l) ∧ w.grownBy w' v.ownBlock := by
  obtain ⟨i, hi, hz, hs, hb⟩ := str_partsZ
  cases A with
  | some ad =>
    obtain ⟨v', w', hr, h2, h3, _⟩ := run_append_own (P := Tryd.prog) (w := w) base 37 ty 9 i _ 1 16 Tryd.underlying37 hi hz hs hb rfl (by omega) v xs.length (zcells xs) hown ad l.length c (zcells l) (zcells_len l) (hl.cells rfl) (fun u hu => zcells_one hu) (by unfold maxLen; omega) (by omega) hbase
    obtain ⟨q, cap, rfl, _⟩ := own_slice h2
    exact ⟨q, cap, w', hr, by unfold ZOwn; rw [List.length_append, zcells_app]; exact h2, h3⟩
  | none =>
    obtain ⟨rfl, rfl⟩ := hA rfl
    have hr := run_append_owned_none (P := Tryd.prog) (w := w) base 37 ty 9 i 1 Tryd.underlying37 hi v xs.length (zcells xs) hown
    obtain ⟨q, cap, rfl, _⟩ := own_slice hown
    exact ⟨q, cap, w, hr, by simpa using hown, ⟨rfl, rfl, rfl, Nat.le_refl _, fun _ _ _ => rfl⟩⟩
theorem oper_zapp {w : World} {o : Oper} {a : Act} {K : Act → World → Prop} {Q : Exit → Act → World → Prop} (s x : Operand) (ho : o.op = .call { callee := .builtin .append, args := #[s, x], argTypes := #[37, 37] })
    {base : Nat} {v : Value} {xs l : List ByteArray} {A : Option Addr} {c : Nat} (hs : a.eval s = v) (hx : a.eval x = .slice A l.length c) (hown : ZOwn w base v xs) (hl : ZLies w A l) (hA : A = none → l = [] ∧ c = 0) (h63 : xs.length + l.length ≤ 100000) (hbase : base ≤ w.heap.size)
    (h : ∀ q cap w', ZOwn w' base (.slice q (xs.length + l.length) cap) (xs ++ l) → w.grownBy w' v.ownBlock → K (a.put o.dst (.slice q (xs.length + l.length) cap)) w') : Oper.wp Tryd.prog o a w K Q := by
  obtain ⟨q, cap, w', hr, h2, h3⟩ := run_zapp o.type hown hl hA h63 hbase
  unfold Oper.wp execOp
  simp only [ho, resolve, invoke, builtin, Sem.run_bind, Sem.run_pure, Result.andThen_ok, List.map_toArray, List.map_cons, List.map_nil, hs, hx, hr]
  exact h q cap w' h2 h3
theorem wpList_zapp {w : World} {ops : Array Oper} {rest : List Oper} {o : Oper} {a : Act} {Q : Exit → Act → World → Prop} (hgd : o.guard = none) (s x : Operand) (ho : o.op = .call { callee := .builtin .append, args := #[s, x], argTypes := #[37, 37] })
    (base : Nat) (v : Value) (xs l : List ByteArray) (A : Option Addr) (c : Nat) (hs : a.eval s = v) (hx : a.eval x = .slice A l.length c) (hown : ZOwn w base v xs) (hl : ZLies w A l) (hA : A = none → l = [] ∧ c = 0) (h63 : xs.length + l.length ≤ 100000) (hbase : base ≤ w.heap.size)
    (h : ∀ q cap w', ZOwn w' base (.slice q (xs.length + l.length) cap) (xs ++ l) → w.grownBy w' v.ownBlock → wpList Tryd.prog ops Q rest (a.put o.dst (.slice q (xs.length + l.length) cap)) w') : wpList Tryd.prog ops Q (o :: rest) a w :=
  wpList_plain hgd fun _ hK => oper_zapp s x ho hs hx hown hl hA h63 hbase fun q cap w' h2 h3 => hK _ _ (h q cap w' h2 h3)
theorem step_zapp {w : World} {ops : Array Oper} {o : Oper} {a : Act} {K : Act → World → Prop} {Q : Exit → Act → World → Prop} {E : Prop} (hgd : o.guard = none) (s x : Operand) (ho : o.op = .call { callee := .builtin .append, args := #[s, x], argTypes := #[37, 37] })
    (base : Nat) (v : Value) (n : Nat) (xs : List ByteArray) (m : Nat) (l : List ByteArray) (A : Option Addr) (c t : Nat) (ht : n + m = t) (hs : a.eval s = v) (hx : a.eval x = .slice A m c) (hn : xs.length = n) (hm : l.length = m) (hown : ZOwn w base v xs) (hl : ZLies w A l) (hA : A = none → l = [] ∧ c = 0) (h63 : t ≤ 100000) (hbase : base ≤ w.heap.size)
    (h : ∀ q cap w', ZOwn w' base (.slice q t cap) (xs ++ l) → w.grownBy w' v.ownBlock → K (a.put o.dst (.slice q t cap)) w') :
    if Region.wanted o (yielded ops a.tmps) = true then Oper.wp Tryd.prog o a w K Q else E := by
  subst ht
  subst hn
  subst hm
  rw [if_pos (by simp [Region.wanted, hgd])]
  exact oper_zapp s x ho hs hx hown hl hA h63 hbase h
theorem zlies_grown {w w' : World} {A : Option Addr} {l : List ByteArray} {row : Option Nat} (h : ZLies w A l) (hg : w.grownBy w' row) (hn : ∀ ad, A = some ad → some ad.block ≠ row) : ZLies w' A l := fun hp => by
  obtain ⟨B, o, rfl, hB, hc⟩ := h hp
  have hk := hg.block B hB (hn _ rfl)
  exact ⟨B, o, rfl, Nat.lt_of_lt_of_le hB hg.size, fun j hj => (World.cell?_of_block (a := ⟨B, o + j, none⟩) hk).trans (hc j hj)⟩

set_option maxRecDepth 100000 in
theorem growz_any (n : Nat) (w : World) (h : n ≤ 1000) : Calls Tryd.prog 72 #[.slice none 0 0, .int .i64 n] w fun e w' => ∃ v, e = .returned v ∧ w'.ownsRow w.heap.size 9 1 v 0 [] ∧ Below w.heap.size w w' := by
  by_cases h0 : n = 0
  · subst h0
    go_enter Tryd.func72, Tryd.ntmps72
    go_wp2
    go_ret
    exact ⟨_, rfl, World.ownsRow_nil _ _ _ _, Below.refl _ _⟩
  · obtain ⟨i0, hi, hz0, hz1, hz2⟩ := str_partsZ
    have hrun := fun ty => Lib.run_append_nil_zeros (P := Tryd.prog) w 37 3 ty 9 i0 _ .i64 .i64 Tryd.underlying37 Tryd.underlying3 hi hz0 n (by omega) (by omega) (by omega) (by rw [hz2]; omega)
    have hge := grownCap_ge w n 0 9
    have hmx := grownCap_le_maxLen w n 0 9 (by unfold maxLen; omega)
    obtain ⟨G, hG⟩ : ∃ G, G = grownCap w n 0 9 := ⟨_, rfl⟩
    rw [← hG] at hrun hge hmx
    clear hG
    go_enter Tryd.func72, Tryd.ntmps72
    go_wp2_with (at_builtin; refine Lib.wpList_append_run _ rfl _ _ _ _ rfl _ _ rfl rfl _ _ (hrun _) ?_)
    go_ret
    exact ⟨_, rfl, World.ownsRow_made w.drew _ G (Nat.le_refl _) hmx (by simp [Builtin.zeroCells]; omega), (Below.refl _ _).drew.alloc (Nat.le_refl _) _⟩

theorem growz_int (x : Int) (n : Nat) (w : World) (hx : x = n) (h : n ≤ 1000) : Calls Tryd.prog 72 #[.slice none 0 0, .int .i64 x] w fun e w' => ∃ v, e = .returned v ∧ w'.ownsRow w.heap.size 9 1 v 0 [] ∧ Below w.heap.size w w' := by
  subst hx
  exact growz_any n w h
theorem zown_none {w : World} {base c : Nat} {q : Option Addr} {l : List ByteArray} {n : Nat} (h : ZOwn w base (.slice q n c) l) : q = none → c = 0 := fun e => by
  subst e
  rcases h.2 with ⟨e, _⟩ | ⟨g, cap, cur, e, _⟩
  · simp at e; exact e.2
  · simp at e
set_option maxRecDepth 100000 in
set_option maxHeartbeats 1000000 in
theorem concatz (g : Nat) (A1 A2 : Option Addr) (c1 c2 k : Nat) (l1 l2 : List ByteArray) (w : World) (hg : w.heap[g]? = some (.cells #[.slice A1 l1.length c1, .slice A2 l2.length c2] 37 (0, 0)))
    (h1 : ZLies w A1 l1) (h2 : ZLies w A2 l2) (e1 : A1 = none → l1 = [] ∧ c1 = 0) (e2 : A2 = none → l2 = [] ∧ c2 = 0) (b1 : l1.length ≤ 100) (b2 : l2.length ≤ 100) :
    Calls Tryd.prog 57 #[.slice (some ⟨g, 0, none⟩) 2 k] w fun e w' => ∃ A c, e = .returned (.slice A (l1 ++ l2).length c) ∧ ZOwn w' w.heap.size (.slice A (l1 ++ l2).length c) (l1 ++ l2) ∧ Below w.heap.size w w' := by
  have hgl := lt_size hg
  have N1 := Lib.hid e1
  have N2 := Lib.hid e2
  clear e1 e2
  have q0 : w.cell? ⟨g, 0, none⟩ = some (.slice A1 l1.length c1) := by simp [World.cell?, hg]
  have q1 : w.cell? ⟨g, 1, none⟩ = some (.slice A2 l2.length c2) := by simp [World.cell?, hg]
  go_enter Tryd.func57, Tryd.ntmps57
  go_wp2
  refine wp_loop_rounds 3 ?_
  rw [rounds_succ]
  go_wp2
  rw [rounds_succ]
  go_wp2
  rw [rounds_succ]
  go_wp2_with fail
  refine (growz_int _ (l1.length + l2.length) _ (by omega) (by omega)).mono ?_
  rintro e w1 ⟨v, rfl, hown, hb⟩
  obtain ⟨p, cap, rfl, _⟩ := own_slice hown
  have hs1 := hb.size
  have p0 : w1.cell? ⟨g, 0, none⟩ = some (.slice A1 l1.length c1) := (hb.cell (p := ⟨g, 0, none⟩) hgl).trans q0
  have p1 : w1.cell? ⟨g, 1, none⟩ = some (.slice A2 l2.length c2) := (hb.cell (p := ⟨g, 1, none⟩) hgl).trans q1
  clear q0 q1
  have hown0 : ZOwn w1 w.heap.size (.slice p 0 cap) [] := hown
  have HB0 := Lib.hid hb
  have HO0 := Lib.hid hown0
  clear hown hown0 hb
  go_wp2
  refine wp_loop_rounds 3 ?_
  rw [rounds_succ]
  go_wp2_with (at_builtin; refine wpList_zapp rfl _ _ rfl w.heap.size _ ([] : List ByteArray) l1 A1 c1 rfl rfl HO0.out (h1.below HB0.out) N1.out (by first | omega | (rw [List.length_nil]; omega) | (rw [List.length_append]; omega)) hs1 ?_; intro p1x cap1 w2 hown1 hg1)
  simp only [List.nil_append, List.length_nil, Nat.zero_add] at hown1
  have HB1 := Lib.hid (HB0.out.grown hg1 hs1 fun k e => (HO0.out.lt k e).1)
  have hs2 := HB1.out.size
  have p1' : w2.cell? ⟨g, 1, none⟩ = some (.slice A2 l2.length c2) := (World.cell?_of_block (hg1.block g (by omega) fun e => by have := (HO0.out.lt g e.symm).1; omega)).trans p1
  have HO1 := Lib.hid hown1
  clear hown1 p0 p1
  rw [rounds_succ]
  go_wp2_with (at_builtin; refine wpList_zapp rfl _ _ rfl w.heap.size _ l1 l2 A2 c2 rfl rfl HO1.out (h2.below HB1.out) N2.out (by first | omega | (rw [List.length_nil]; omega) | (rw [List.length_append]; omega)) hs2 ?_; intro p2x cap2 w3 hown2 hg2)
  have HB2 := Lib.hid (HB1.out.grown hg2 hs2 fun k e => (HO1.out.lt k e).1)
  have hs3 := HB2.out.size
  have HO2 := Lib.hid hown2
  clear hown2 p1'
  rw [rounds_succ]
  go_wp2
  go_ret
  exact ⟨p2x, cap2, by rw [List.length_append]; rfl, by rw [List.length_append]; exact HO2.out, HB2.out⟩
theorem zown_SL {w : World} {base n c : Nat} {A : Option Addr} {L : List ByteArray} (h : ZOwn w base (.slice A n c) L) : SL w base A L := fun hn => by
  have hl := List.length_pos_iff.2 hn
  rcases h.2 with ⟨e, e2⟩ | ⟨g, cap, cur, e, hb, hg, hc, _, _, ht⟩
  · omega
  · simp at e
    obtain ⟨rfl, rfl, rfl⟩ := e
    refine ⟨g, rfl, hb, lt_size hg, fun j hj => ?_⟩
    have hf : (zcells L)[j]? = some (.string L[j]) := by simp [zcells, hj]
    rw [← ht, List.getElem?_take_of_lt (by omega)] at hf
    rw [← hf]
    simp [World.cell?, hg]
theorem zown_base {w : World} {b b' : Nat} {v : Value} {L : List ByteArray} (h : ZOwn w b v L) (hb : b' ≤ b) : ZOwn w b' v L := own_base h hb
theorem ZOwn.belowz {w w' : World} {base : Nat} {v : Value} {l : List ByteArray} (h : ZOwn w base v l) (hb : Below w.heap.size w w') : ZOwn w' base v l := own_keep h fun g e => hb.block g (World.ownsRow.lt h g e).2
theorem zlies_one_at (w : World) (s : ByteArray) : ZLies (w.alloc (.cells #[.string s] 9)) (some ⟨w.heap.size, 0, none⟩) [s] := by
  intro _
  have hn := heap_alloc_new w (.cells #[.string s] 9)
  refine ⟨_, 0, rfl, lt_size hn, fun j hj => ?_⟩
  obtain rfl : j = 0 := by simpa using hj
  generalize w.alloc _ = W at hn ⊢
  simp [World.cell?, hn]
end Go.Proofs.YtfboilbmehcgoaaDoor

/- Trees as data: which paths there are: each once, a directory ahead of what is in it, 120 at most, of 11 names at most. -/
namespace Go.Proofs.YtfboilbmehcgoaaDoor
open Go.Lib

theorem mayNd_ri {n : Nd} (h : mayNd n = true) : Ri n.en ∧ ∀ e ∈ n.en, mayL e.1.data.toList = true := by
  unfold mayNd at h
  split at h
  · simp only [Bool.and_eq_true, decide_eq_true_eq] at h
    rw [List.eq_nil_of_length_eq_zero h.2.2.2]
    exact ⟨List.Pairwise.nil, fun _ h => by cases h⟩
  · split at h
    · simp only [Bool.and_eq_true, decide_eq_true_eq] at h
      obtain ⟨_, h2, h3⟩ := mayEs_iff.1 h.2.2.2
      refine ⟨h3, fun e he => ?_⟩
      have := h2 e he
      unfold mayE at this
      simp only [Bool.and_eq_true, decide_eq_true_eq] at this
      exact this.1.1
    · split at h
      · rw [List.eq_nil_of_length_eq_zero (mayFl_at h).2.2.2.2.2.1]
        exact ⟨List.Pairwise.nil, fun _ h => by cases h⟩
      · cases h
theorem at_out {t : List Nd} {i : Nat} (hi : ¬ i < t.length) : at_ t i = nd0 := by
  unfold at_
  rw [List.getD_eq_getElem?_getD, List.getElem?_eq_none (by omega)]; rfl
theorem MayT.ri {t : List Nd} (h : MayT t) (i : Nat) : Ri (at_ t i).en ∧ ∀ e ∈ (at_ t i).en, mayL e.1.data.toList = true := by
  by_cases hi : i < t.length
  · exact mayNd_ri (h.node i hi)
  · rw [at_out hi]; exact ⟨List.Pairwise.nil, fun _ h => by cases h⟩
theorem MayT.len10 {t : List Nd} (h : MayT t) (i : Nat) : (at_ t i).en.length ≤ 10 := by
  by_cases hi : i < t.length
  · exact (mayNd_sizes (h.node i hi)).2
  · rw [at_out hi]; simp
theorem findE_mem {l : List Ent} {s : ByteArray} (h : 0 ≤ findE l s) : ∃ e ∈ l, e.1 = s ∧ e.2 = findE l s := by
  induction l with
  | nil => exact absurd h (by simp [findE])
  | cons e l ih =>
    rw [findE] at h ⊢
    split
    · next h1 => exact ⟨e, by simp, h1, rfl⟩
    · next h1 =>
      rw [if_neg h1] at h
      obtain ⟨x, hx, h2, h3⟩ := ih h
      exact ⟨x, by simp [hx], h2, h3⟩
/-- One name more. -/
theorem findT_snoc (t : List Nd) (s : ByteArray) : ∀ (L : List ByteArray) (i : Int), findT t i (L ++ [s]) = if (findT t i L).2 = 0 then findT t (findT t i L).1 [s] else findT t i L
  | [], i => by
    rw [List.nil_append]
    show findT t i [s] = if (0 : Int) = 0 then findT t i [s] else _
    rw [if_pos rfl]
  | x :: L, i => by
    rw [List.cons_append, findT]
    by_cases hk : (at_ t i.toNat).k = 2
    · by_cases hf : findE (at_ t i.toNat).en x < 0
      · have e1 : findT t i (x :: L) = (0, 8) := by rw [findT, if_pos hk, if_pos hf]
        rw [if_pos hk, if_pos hf, e1, if_neg (by decide)]
      · have e1 : findT t i (x :: L) = findT t (findE (at_ t i.toNat).en x) L := by rw [findT, if_pos hk, if_neg hf]
        rw [if_pos hk, if_neg hf, e1]
        exact findT_snoc t s L _
    · have e1 : findT t i (x :: L) = (0, 11) := by rw [findT, if_neg hk]
      rw [if_neg hk, e1, if_neg (by decide)]
/-- To node m along these names from the root. -/
def To (t : List Nd) (L : List ByteArray) (m : Int) : Prop := findT t 0 L = (m, 0)
theorem to_nil (t : List Nd) : To t [] 0 := rfl
theorem to_in {t : List Nd} (h : MayT t) {L : List ByteArray} {m : Int} (k : To t L m) : 0 ≤ m ∧ m < (t.length : Int) := by
  have := findT_in h.inT.1 L 0 (Int.le_refl _) (by have := h.len; omega)
  unfold To at k
  rw [k] at this
  exact this
theorem to_snoc {t : List Nd} {L : List ByteArray} {s : ByteArray} {m : Int} : To t (L ++ [s]) m ↔ ∃ d, To t L d ∧ (at_ t d.toNat).k = 2 ∧ 0 ≤ findE (at_ t d.toNat).en s ∧ findE (at_ t d.toNat).en s = m := by
  unfold To
  rw [findT_snoc]
  obtain ⟨d, e⟩ := findT t 0 L
  dsimp only
  by_cases he : e = 0
  · subst he
    rw [if_pos rfl, findT]
    by_cases hk : (at_ t d.toNat).k = 2
    · rw [if_pos hk]
      by_cases hf : findE (at_ t d.toNat).en s < 0
      · rw [if_pos hf]
        constructor
        · intro h; simp at h
        · rintro ⟨d', h1, _, h2, _⟩
          simp only [Prod.mk.injEq, and_true] at h1
          subst h1
          omega
      · rw [if_neg hf, findT]
        constructor
        · intro h
          simp only [Prod.mk.injEq, and_true] at h
          exact ⟨d, rfl, hk, by omega, h⟩
        · rintro ⟨d', h1, _, _, h2⟩
          simp only [Prod.mk.injEq, and_true] at h1
          subst h1
          rw [h2]
    · rw [if_neg hk]
      constructor
      · intro h; simp at h
      · rintro ⟨d', h1, h2, _⟩
        simp only [Prod.mk.injEq, and_true] at h1
        subst h1
        exact absurd h2 hk
  · rw [if_neg he]
    constructor
    · intro h
      simp only [Prod.mk.injEq] at h
      exact absurd h.2 he
    · rintro ⟨d', h1, _⟩
      simp only [Prod.mk.injEq] at h1
      exact absurd h1.2 he
/-- One entry more. -/
theorem to_entry {t : List Nd} (h : MayT t) {L : List ByteArray} {d : Int} (k : To t L d) {e : Ent} (he : e ∈ (at_ t d.toNat).en) : To t (L ++ [e.1]) e.2 := by
  have hd := to_in h k
  have hf := find_mem (h.ri d.toNat).1 he
  have hn := h.names (i := d.toNat) (by omega) he
  exact to_snoc.2 ⟨d, k, hn.1, by omega, hf⟩
theorem to_edge {t : List Nd} (h : MayT t) {L : List ByteArray} {s : ByteArray} {d m : Int} (k : To t L d) (h0 : 0 ≤ findE (at_ t d.toNat).en s) (h1 : findE (at_ t d.toNat).en s = m) : Edge t d.toNat m.toNat ∧ ∃ e ∈ (at_ t d.toNat).en, e.1 = s ∧ e.2 = m := by
  have hd := to_in h k
  obtain ⟨e, he, e1, e2⟩ := findE_mem h0
  exact ⟨⟨by omega, e, he, by omega⟩, e, he, e1, by omega⟩
theorem cntE_two {i : Int} : ∀ {l : List Ent}, cntE i l ≤ 1 → ∀ {x y : Ent}, x ∈ l → y ∈ l → x.2 = i → y.2 = i → x = y
  | [], _, _, _, h, _, _, _ => by cases h
  | e :: l, hc, x, y, hx, hy, ex, ey => by
    rw [cntE] at hc
    have key : ∀ z ∈ l, z.2 = i → 0 < cntE i l := fun z hz ez => cntE_pos.2 ⟨z, hz, ez⟩
    rcases List.mem_cons.1 hx with rfl | hx'
    · rcases List.mem_cons.1 hy with rfl | hy'
      · rfl
      · have := key y hy' ey
        rw [if_pos ex] at hc
        omega
    · rcases List.mem_cons.1 hy with rfl | hy'
      · have := key x hx' ex
        rw [if_pos ey] at hc
        omega
      · exact cntE_two (by omega) hx' hy' ex ey
theorem cnt_named {t : List Nd} {a : Nat} {i : Int} (ha : a < t.length) : cntE i (at_ t a).en ≤ namedT i t := by
  have e : t = t.take a ++ t[a] :: t.drop (a + 1) := by rw [List.getElem_cons_drop, List.take_append_drop]
  rw [at_lt ha]
  conv => rhs; rw [e]
  rw [namedT_app, namedT]
  omega
/-- A DIRECTORY HAS ONE PATH. -/
theorem to_one {t : List Nd} (h : MayT t) : ∀ (n : Nat) (L L' : List ByteArray) (d : Int), L.length ≤ n → To t L d → To t L' d → (at_ t d.toNat).k = 2 → L = L'
  | n, L, L', d, hn, k, k', hd => by
    have root : ∀ (M : List ByteArray) (s : ByteArray), To t (M ++ [s]) 0 → False := fun M s k => by
      obtain ⟨x, kx, _, h0, h1⟩ := to_snoc.1 k
      have := (h.edge (to_edge h kx h0 h1).1).2.1
      simp at this
    rcases List.eq_nil_or_concat L with rfl | ⟨M, s, rfl⟩
    · have e : (0 : Int) = d := by have := k; unfold To at this; rw [findT] at this; simpa using this
      subst e
      rcases List.eq_nil_or_concat L' with rfl | ⟨M', s', rfl⟩
      · rfl
      · exact (root M' s' (by simpa using k')).elim
    · rw [List.concat_eq_append] at *
      rcases List.eq_nil_or_concat L' with rfl | ⟨M', s', rfl⟩
      · have e : (0 : Int) = d := by have := k'; unfold To at this; rw [findT] at this; simpa using this
        subst e
        exact (root M s k).elim
      · rw [List.concat_eq_append] at *
        obtain ⟨x, kx, hx, h0, h1⟩ := to_snoc.1 k
        obtain ⟨y, ky, hy, h2, h3⟩ := to_snoc.1 k'
        obtain ⟨ed, e, he, es, em⟩ := to_edge h kx h0 h1
        obtain ⟨ed', e', he', es', em'⟩ := to_edge h ky h2 h3
        have hdi := to_in h k
        have hdr := (h.dir d.toNat (by omega) hd).2
        have hge := (h.edge ed).2.1
        have hone : namedT ((d.toNat : Nat) : Int) t = 1 := by
          rcases hdr with h4 | h4
          · omega
          · exact h4
        have exy := edge_one ed ed' hone
        have hxi := to_in h kx
        have hyi := to_in h ky
        obtain rfl : x = y := by omega
        cases n with
        | zero => simp at hn
        | succ n =>
          have := to_one h n M M' x (by simp at hn; omega) kx ky hx
          subst this
          have hc := cnt_named (t := t) (a := x.toNat) (i := ((d.toNat : Nat) : Int)) (by omega)
          have := cntE_two (i := ((d.toNat : Nat) : Int)) (by omega) he he' (by omega) (by omega)
          rw [← es, ← es', this]
theorem nodup_le : ∀ (N : Nat) (l : List Nat), l.Nodup → (∀ x ∈ l, x < N) → l.length ≤ N
  | 0, l, _, h => by
    cases l with
    | nil => exact Nat.le_refl _
    | cons x l => exact absurd (h x (by simp)) (by omega)
  | N + 1, l, hd, h => by
    have h1 := nodup_le N (l.erase N) (hd.erase N) fun x hx => by
      have h2 := h x (List.mem_of_mem_erase hx)
      have h3 : x ≠ N := fun e => by subst e; exact (hd.not_mem_erase) hx
      omega
    by_cases hm : N ∈ l
    · rw [List.length_erase_of_mem hm] at h1; omega
    · rw [List.erase_of_not_mem hm] at h1; omega
theorem to_take {t : List Nd} {m : Int} {L : List ByteArray} (h : To t L m) (k : Nat) : ∃ d, To t (L.take k) d ∧ (k < L.length → (at_ t d.toNat).k = 2) := by
  by_cases hk : k < L.length
  · have key : ∀ (r : List ByteArray) (P : List ByteArray) (m : Int), r ≠ [] → To t (P ++ r) m → ∃ d, To t P d ∧ (at_ t d.toNat).k = 2 := by
      intro r
      induction r with
      | nil => intro _ _ h; exact absurd rfl h
      | cons s r ih =>
        intro P m _ hto
        by_cases hr : r = []
        · subst hr
          obtain ⟨d, k1, k2, _⟩ := to_snoc.1 hto
          exact ⟨d, k1, k2⟩
        · obtain ⟨d, k1, k2⟩ := ih (P ++ [s]) m hr (by simpa using hto)
          obtain ⟨d', k3, k4, _⟩ := to_snoc.1 k1
          exact ⟨d', k3, k4⟩
    obtain ⟨d, k1, k2⟩ := key (L.drop k) (L.take k) m (by intro e; have := congrArg List.length e; simp at this; omega) (by rw [List.take_append_drop]; exact h)
    exact ⟨d, k1, fun _ => k2⟩
  · exact ⟨m, by rw [List.take_of_length_le (by omega)]; exact h, fun h => absurd h hk⟩
/-- ELEVEN NAMES AT MOST. -/
theorem to_len {t : List Nd} (h : MayT t) {L : List ByteArray} {m : Int} (k : To t L m) : L.length ≤ 11 := by
  have hv : ∀ j : Nat, ∃ d, To t (L.take j) d ∧ (j < L.length → (at_ t d.toNat).k = 2) := to_take k
  obtain ⟨v, hv⟩ := Classical.axiomOfChoice hv
  have hin := fun j => to_in h (hv j).1
  have hl := h.len
  have hnd : ((List.range (L.length + 1)).map fun j => (v j).toNat).Nodup := by
    rw [List.nodup_iff_pairwise_ne, List.pairwise_map]
    refine List.pairwise_lt_range.imp_of_mem fun {a b} ha hb hab => fun e => ?_
    rw [List.mem_range] at ha hb
    have i1 := hin a
    have i2 := hin b
    have e2 : v a = v b := by omega
    have hda := (hv a).2 (by omega)
    have := to_one h _ _ _ _ (Nat.le_refl _) (hv a).1 (e2 ▸ (hv b).1) hda
    have := congrArg List.length this
    rw [List.length_take, List.length_take] at this
    omega
  have := nodup_le 12 _ hnd fun x hx => by
    obtain ⟨j, _, rfl⟩ := List.mem_map.1 hx
    have := hin j
    omega
  simp at this
  omega
end Go.Proofs.YtfboilbmehcgoaaDoor

/- Walks over trees as data: what Walk tells, as paths. -/
namespace Go.Proofs.YtfboilbmehcgoaaDoor
open Go.Lib

theorem noB_iff {L : List ByteArray} : joinB L = noB ↔ joinP (L.map (·.data.toList)) = [] := by
  constructor
  · intro h
    have := congrArg (fun b : ByteArray => b.data.toList) h
    simpa [joinB_data, noB] using this
  · intro h
    unfold joinB noB
    rw [h]
theorem joinL_pos {l : List (List UInt8)} (h : l ≠ []) : joinL l ≠ [] := by
  cases l with
  | nil => exact absurd rfl h
  | cons a l => rw [joinL_cons]; simp
theorem fit_iff {L : List ByteArray} (h0 : L ≠ []) : joinB L ≠ noB ↔ (L.map (·.data.toList)).all mayL = true ∧ (joinL (L.map (·.data.toList))).length ≤ 60 := by
  have h1 : L.map (·.data.toList) ≠ [] := by simpa using h0
  rw [ne_eq, noB_iff]
  unfold joinP
  rw [if_neg h1]
  split
  · next h => exact ⟨fun _ => h, fun _ => joinL_pos h1⟩
  · next h => exact ⟨fun k => absurd rfl k, fun k => absurd k h⟩
theorem fit_pre {A B : List ByteArray} (hA : A ≠ []) (h : joinB (A ++ B) ≠ noB) : joinB A ≠ noB := by
  obtain ⟨h1, h2⟩ := (fit_iff (by simp [hA])).1 h
  rw [List.map_append, List.all_append, Bool.and_eq_true] at h1
  rw [List.map_append, joinL_append, List.length_append] at h2
  exact (fit_iff hA).2 ⟨h1.1, by omega⟩
theorem pcs_app : ∀ (a b : List UInt8), pcs (a ++ 47 :: b) = pcs a ++ pcs b
  | [], b => by rw [List.nil_append, pcs_slash]; rfl
  | c :: a, b => by
    have ih := pcs_app a b
    rw [List.cons_append]
    by_cases h : c = 47
    · subst h
      rw [pcs_slash, pcs_slash, ih, List.cons_append]
    · cases e : pcs a with
      | nil => exact absurd e (pcs_ne a)
      | cons p t =>
        rw [e, List.cons_append] at ih
        rw [pcs_cons c _ h ih, pcs_cons c a h e, List.cons_append]
theorem pcs_join : ∀ (l : List (List UInt8)), l ≠ [] → (∀ n ∈ l, 47 ∉ n) → ∃ r, joinL l = 47 :: r ∧ pcs r = l
  | [], h, _ => absurd rfl h
  | [n], _, hn => ⟨n, by simp [joinL], pcs_plain n (hn n (by simp))⟩
  | n :: m :: l, _, hn => by
    obtain ⟨r, e1, e2⟩ := pcs_join (m :: l) (by simp) fun x hx => hn x (by simp [hx])
    refine ⟨n ++ 47 :: r, by rw [joinL_cons, e1]; simp, ?_⟩
    rw [pcs_app, pcs_plain n (hn n (by simp)), e2]; rfl
theorem fit_rest {L : List ByteArray} (h0 : L ≠ []) (h : joinB L ≠ noB) : ∃ r, (joinB L).data.toList = 47 :: r ∧ pcs r = L.map (·.data.toList) ∧ r ≠ [] ∧ r.length + 1 ≤ 60 := by
  obtain ⟨h1, h2⟩ := (fit_iff h0).1 h
  have h3 : L.map (·.data.toList) ≠ [] := by simpa using h0
  rw [List.all_eq_true] at h1
  obtain ⟨r, e1, e2⟩ := pcs_join _ h3 fun n hn => mayL_noslash (h1 n hn)
  have e3 : (joinB L).data.toList = 47 :: r := by
    rw [joinB_data]
    unfold joinP
    rw [if_neg h3, if_pos ⟨List.all_eq_true.2 h1, h2⟩, e1]
  refine ⟨r, e3, e2, fun e => ?_, by rw [e1] at h2; simpa using h2⟩
  subst e
  have := h1 [] (by rw [← e2]; simp [pcs])
  exact absurd this (by decide)
theorem split_fit {L : List ByteArray} (h0 : L ≠ []) (h : joinB L ≠ noB) : splitL (joinB L).data.toList = some (L.map (·.data.toList)) := by
  obtain ⟨h1, h2⟩ := (fit_iff h0).1 h
  obtain ⟨r, e1, e2, e3, e4⟩ := fit_rest h0 h
  rw [e1]
  unfold splitL
  rw [if_neg (by simp; omega), if_neg (by simpa using e3)]
  rw [if_pos (show (pcs (47 :: r).tail).all mayL = true by rw [List.tail_cons, e2]; exact h1), List.tail_cons, e2]
theorem join_root : joinB [] = ⟨#[47]⟩ := rfl
/-- Joined alike: alike. -/
theorem join_inj {L M : List ByteArray} (hL : L ≠ []) (hM : M ≠ []) (h : joinB L ≠ noB) (e : joinB L = joinB M) : L = M := by
  have h1 := split_fit hL h
  rw [e, split_fit hM (e ▸ h)] at h1
  have h2 := congrArg (List.map bL) (Option.some.inj h1)
  rw [bL_map, bL_map] at h2
  exact h2.symm
/-- Longer by a slash and more: longer by names. -/
theorem join_longer {L M : List ByteArray} (hL : L ≠ []) (hM : M ≠ []) (h : joinB L ≠ noB) (k : joinB M ≠ noB) {r : List UInt8} (e : (joinB L).data.toList = (joinB M).data.toList ++ 47 :: r) : M <+: L := by
  obtain ⟨a, a1, a2, _, _⟩ := fit_rest hL h
  obtain ⟨b, b1, b2, _, _⟩ := fit_rest hM k
  rw [a1, b1, List.cons_append] at e
  have e2 : a = b ++ 47 :: r := (List.cons.inj e).2
  rw [e2, pcs_app, b2] at a2
  have h2 := congrArg (List.map bL) a2
  rw [List.map_append, bL_map, bL_map] at h2
  exact ⟨_, h2⟩
/-- What one entry gives to a walk. -/
def blkP (rec : Int → List ByteArray → List (List ByteArray)) (ah : List ByteArray) (e : Ent) : List (List ByteArray) :=
  if joinB (ah ++ [e.1]) = noB then [] else (ah ++ [e.1]) :: rec e.2 (ah ++ [e.1])
/-- Walk's paths. -/
def walkP (t : List Nd) : Nat → Int → List ByteArray → List (List ByteArray)
  | 0, _, _ => []
  | n + 1, i, ah => (at_ t i.toNat).en.flatMap fun e => blkP (walkP t n) ah e
theorem walkP_ext {t : List Nd} : ∀ {n : Nat} {i : Int} {ah p : List ByteArray}, p ∈ walkP t n i ah → (∃ q, q ≠ [] ∧ p = ah ++ q) ∧ joinB p ≠ noB
  | 0, _, _, _, h => by cases h
  | n + 1, i, ah, p, h => by
    rw [walkP, List.mem_flatMap] at h
    obtain ⟨e, he, h⟩ := h
    unfold blkP at h
    split at h
    · cases h
    · next hf =>
      rcases List.mem_cons.1 h with rfl | h
      · exact ⟨⟨[e.1], by simp, rfl⟩, hf⟩
      · obtain ⟨⟨q, _, rfl⟩, h2⟩ := walkP_ext h
        exact ⟨⟨e.1 :: q, by simp, by simp⟩, h2⟩
theorem to_fun {t : List Nd} {L : List ByteArray} {a b : Int} (h : To t L a) (k : To t L b) : a = b := by
  unfold To at h k
  rw [h] at k
  exact (Prod.mk.inj k).1
theorem mem_walkP {t : List Nd} (h : MayT t) : ∀ {n : Nat} {i : Int} {ah : List ByteArray}, To t ah i → ∀ {p : List ByteArray}, p ∈ walkP t n i ah ↔ ∃ q, q ≠ [] ∧ p = ah ++ q ∧ q.length ≤ n ∧ (∃ m, To t p m) ∧ joinB p ≠ noB
  | 0, i, ah, _, p => by
    constructor
    · intro h; cases h
    · rintro ⟨q, hq, _, hl, _⟩
      exact absurd (List.eq_nil_of_length_eq_zero (by omega)) hq
  | n + 1, i, ah, ht, p => by
    rw [walkP, List.mem_flatMap]
    constructor
    · rintro ⟨e, he, hp⟩
      have hto := to_entry h ht he
      unfold blkP at hp
      split at hp
      · cases hp
      · next hf =>
        rcases List.mem_cons.1 hp with rfl | hp
        · exact ⟨[e.1], by simp, rfl, by simp, ⟨_, hto⟩, hf⟩
        · obtain ⟨q, _, rfl, h2, h3, h4⟩ := (mem_walkP h hto).1 hp
          exact ⟨e.1 :: q, by simp, by simp, by simp; omega, h3, h4⟩
    · rintro ⟨q, hq, rfl, hl, ⟨m, hm⟩, hf⟩
      cases q with
      | nil => exact absurd rfl hq
      | cons s q =>
        have e1 : ah ++ s :: q = (ah ++ [s]) ++ q := by simp
        obtain ⟨d, hd, _⟩ := to_take hm (ah.length + 1)
        rw [e1, List.take_left' (by simp)] at hd
        obtain ⟨x, hx, hk, h0, h1⟩ := to_snoc.1 hd
        obtain rfl := to_fun hx ht
        obtain ⟨_, e, he, es, em⟩ := to_edge h hx h0 h1
        refine ⟨e, he, ?_⟩
        rw [e1] at hf hm ⊢
        have hf2 := fit_pre (A := ah ++ [s]) (by simp) hf
        unfold blkP
        rw [es, if_neg hf2]
        by_cases hq0 : q = []
        · subst hq0
          simp
        · rw [List.mem_cons]
          right
          rw [em]
          exact (mem_walkP h hd).2 ⟨q, hq0, rfl, by simp at hl; omega, ⟨m, hm⟩, hf⟩
/-- A DIRECTORY AHEAD OF WHAT IS IN IT, EACH ONCE. -/
theorem walk_order {t : List Nd} (h : MayT t) : ∀ (n : Nat) (i : Int) (ah : List ByteArray), (walkP t n i ah).Pairwise fun p q => ¬ q <+: p
  | 0, _, _ => List.Pairwise.nil
  | n + 1, i, ah => by
    have hri := (h.ri i.toNat).1
    have hlen : ∀ (e : Ent) (p : List ByteArray), p ∈ blkP (walkP t n) ah e → ∃ q, p = ah ++ e.1 :: q := fun e p hp => by
      unfold blkP at hp
      split at hp
      · cases hp
      · rcases List.mem_cons.1 hp with rfl | hp
        · exact ⟨[], rfl⟩
        · obtain ⟨⟨q, _, rfl⟩, _⟩ := walkP_ext hp
          exact ⟨q, by simp⟩
    rw [walkP, List.pairwise_flatMap]
    constructor
    · intro e he
      unfold blkP
      split
      · exact List.Pairwise.nil
      · rw [List.pairwise_cons]
        refine ⟨fun y hy hpre => ?_, walk_order h n _ _⟩
        obtain ⟨⟨q, hq, rfl⟩, _⟩ := walkP_ext hy
        have := hpre.length_le
        rw [List.length_append] at this
        exact hq (List.eq_nil_of_length_eq_zero (by omega))
    · refine hri.imp_of_mem fun {a b} ha hb hlt x hx y hy hpre => ?_
      obtain ⟨q, rfl⟩ := hlen a x hx
      obtain ⟨q', rfl⟩ := hlen b y hy
      obtain ⟨r, hr⟩ := hpre
      have e1 : b.1 = a.1 := by
        rw [List.append_assoc] at hr
        have := List.append_cancel_left hr
        exact (List.cons.inj this).1
      rw [e1] at hlt
      unfold ltB at hlt
      exact absurd (of_decide_eq_true hlt) (List.lt_irrefl _)
/-- A number for each path: its directory, and the place in it. -/
def codP (t : List Nd) (p : List ByteArray) : Nat :=
  (findT t 0 p.dropLast).1.toNat * 10 + (at_ t (findT t 0 p.dropLast).1.toNat).en.findIdx fun e => decide (e.1 = p.getLastD noB)
theorem cod_snoc {t : List Nd} (h : MayT t) {L : List ByteArray} {s : ByteArray} {m : Int} (k : To t (L ++ [s]) m) : ∃ d, To t L d ∧ (at_ t d.toNat).k = 2 ∧ d.toNat < 12 ∧ ∃ j, ∃ hj : j < (at_ t d.toNat).en.length, ((at_ t d.toNat).en[j]).1 = s ∧ codP t (L ++ [s]) = d.toNat * 10 + j ∧ j < 10 := by
  obtain ⟨d, hd, hk, h0, h1⟩ := to_snoc.1 k
  obtain ⟨_, e, he, es, em⟩ := to_edge h hd h0 h1
  have hdi := to_in h hd
  have hl := h.len
  have h10 := h.len10 d.toNat
  have hf : (findT t 0 L).1 = d := by unfold To at hd; rw [hd]
  have hx : ∃ x ∈ (at_ t d.toNat).en, decide (x.1 = s) = true := ⟨e, he, decide_eq_true es⟩
  have hj := List.findIdx_lt_length_of_exists hx
  refine ⟨d, hd, hk, by omega, _, hj, of_decide_eq_true (List.findIdx_getElem (w := hj)), ?_, by omega⟩
  unfold codP
  rw [List.dropLast_concat, List.getLastD_concat, hf]
theorem cod_inj {t : List Nd} (h : MayT t) {p q : List ByteArray} {m m' : Int} (hp : p ≠ []) (hq : q ≠ []) (k : To t p m) (k' : To t q m') (e : codP t p = codP t q) : p = q := by
  rcases List.eq_nil_or_concat p with rfl | ⟨L, s, rfl⟩
  · exact absurd rfl hp
  rcases List.eq_nil_or_concat q with rfl | ⟨M, u, rfl⟩
  · exact absurd rfl hq
  rw [List.concat_eq_append] at *
  rw [List.concat_eq_append] at *
  obtain ⟨d, h1, h2, h3, j, hj, h4, h5, h6⟩ := cod_snoc h k
  obtain ⟨d', g1, g2, g3, j', hj', g4, g5, g6⟩ := cod_snoc h k'
  rw [h5, g5] at e
  have hd := to_in h h1
  have hd' := to_in h g1
  obtain rfl : d = d' := by omega
  obtain rfl : j = j' := by omega
  rw [to_one h _ L M d (Nat.le_refl _) h1 g1 h2, ← h4, ← g4]
/-- 120 AT MOST. -/
theorem walk_len {t : List Nd} (h : MayT t) {n : Nat} {i : Int} {ah : List ByteArray} (k : To t ah i) : (walkP t n i ah).length ≤ 120 := by
  have hm : ∀ p ∈ walkP t n i ah, p ≠ [] ∧ ∃ m, To t p m := fun p hp => by
    obtain ⟨q, hq, rfl, _, h3, _⟩ := (mem_walkP h k).1 hp
    exact ⟨by simp [hq], h3⟩
  have hnd : ((walkP t n i ah).map (codP t)).Nodup := by
    rw [List.nodup_iff_pairwise_ne, List.pairwise_map]
    refine (walk_order h n i ah).imp_of_mem fun {p q} hp hq hpq e => ?_
    obtain ⟨p0, m, pm⟩ := hm p hp
    obtain ⟨q0, m', qm⟩ := hm q hq
    have := cod_inj h p0 q0 pm qm e
    subst this
    exact hpq (List.prefix_refl _)
  have := nodup_le 120 _ hnd fun x hx => by
    obtain ⟨p, hp, rfl⟩ := List.mem_map.1 hx
    obtain ⟨p0, m, pm⟩ := hm p hp
    rcases List.eq_nil_or_concat p with rfl | ⟨L, s, rfl⟩
    · exact absurd rfl p0
    rw [List.concat_eq_append] at *
    obtain ⟨d, _, _, h3, j, _, _, h5, h6⟩ := cod_snoc h pm
    omega
  rwa [List.length_map] at this
/-- What Walk tells. -/
def walkF (t : List Nd) : List ByteArray := if mayT t = true then (walkP t 11 0 []).map joinB else []
theorem find_path {t : List Nd} (h : MayT t) {p : List ByteArray} {m : Int} (hp : p ≠ []) (hf : joinB p ≠ noB) (k : To t p m) : findS t (joinB p) = (m, 0) := by
  unfold findS
  rw [if_pos (mayT_iff.2 h), split_fit hp hf]
  show findT t 0 ((p.map (·.data.toList)).map bL) = _
  rw [bL_map]
  exact k
theorem find_join {t : List Nd} (h : MayT t) {p : List ByteArray} {m : Int} (hf : joinB p ≠ noB) (k : To t p m) : findS t (joinB p) = (m, 0) := by
  by_cases hp : p = []
  · subst hp
    unfold findS
    rw [if_pos (mayT_iff.2 h), join_root]
    exact k
  · exact find_path h hp hf k
/-- What Parent tells of a path that Walk tells. -/
theorem parent_path {t : List Nd} (h : MayT t) {p : List ByteArray} {m : Int} (hp : p ≠ []) (hf : joinB p ≠ noB) (k : To t p m) : ∃ d s, parentS t (joinB p) = (d, s, 0) ∧ 0 ≤ d ∧ d < (t.length : Int) ∧ findE (at_ t d.toNat).en s = m ∧ insF t d m = true := by
  rcases List.eq_nil_or_concat p with rfl | ⟨L, s, rfl⟩
  · exact absurd rfl hp
  rw [List.concat_eq_append] at *
  obtain ⟨d, hd, hk, h0, h1⟩ := to_snoc.1 k
  have hdi := to_in h hd
  have hmi := to_in h k
  obtain ⟨ed, _⟩ := to_edge h hd h0 h1
  have hfL : joinB L ≠ noB := by
    by_cases hL : L = []
    · subst hL; rw [join_root]; decide
    · exact fit_pre hL hf
  refine ⟨d, s, ?_, hdi.1, hdi.2, h1, ?_⟩
  · unfold parentS
    rw [if_pos (mayT_iff.2 h), split_fit hp hf]
    have e1 : ((L ++ [s]).map (·.data.toList)).dropLast.map bL = L := by
      rw [List.map_append, List.map_cons, List.map_nil, List.dropLast_concat, bL_map]
    have e2 : bL (((L ++ [s]).map (·.data.toList)).getLastD []) = s := by
      rw [List.map_append, List.map_cons, List.map_nil, List.getLastD_concat]; exact bL_back s
    show (if (L ++ [s]).map (·.data.toList) = [] then _ else _) = _
    rw [if_neg (by simp), e1, e2, find_join h hfL hd, if_neg (by simp), if_neg (by simpa using hk)]
  · have := (insF_iff h (a := d.toNat) (b := m.toNat) (by omega)).2 (.inr ⟨d.toNat, .refl (by omega) hk, ed⟩)
    rwa [show ((d.toNat : Nat) : Int) = d by omega, show ((m.toNat : Nat) : Int) = m by omega] at this
/-- FOUND JUST WHERE TOLD, OR THE ROOT. -/
theorem found_iff {t : List Nd} (h : MayT t) (s : ByteArray) : (findS t s).2 = 0 ↔ s ∈ walkF t ∨ s = ⟨#[47]⟩ := by
  have hw : walkF t = (walkP t 11 0 []).map joinB := by unfold walkF; rw [if_pos (mayT_iff.2 h)]
  rw [hw]
  constructor
  · intro hf
    unfold findS at hf
    rw [if_pos (mayT_iff.2 h)] at hf
    cases e : splitL s.data.toList with
    | none => rw [e] at hf; exact absurd (show (7 : Int) = 0 from hf) (by decide)
    | some Lb =>
      rw [e] at hf
      have hf2 : (findT t 0 (Lb.map bL)).2 = 0 := hf
      have hto : To t (Lb.map bL) (findT t 0 (Lb.map bL)).1 := by
        unfold To
        exact Prod.ext rfl hf2
      by_cases h0 : Lb = []
      · right
        subst h0
        obtain ⟨_, ⟨e1, _⟩ | ⟨r, _, _, e3, _⟩⟩ := splitL_some e
        · exact byte_ext e1
        · exact absurd e3.symm (pcs_ne r)
      · left
        have e2 : joinB (Lb.map bL) = s := byte_ext (by
          rw [joinB_data, List.map_map]
          have : Lb.map ((fun x : ByteArray => x.data.toList) ∘ bL) = Lb := by
            conv => rhs; rw [← List.map_id Lb]
            exact List.map_congr_left fun x _ => bL_data x
          rw [this]
          exact joinP_split e)
        have hne : joinB (Lb.map bL) ≠ noB := fun e3 => by
          rw [e2] at e3
          subst e3
          have e4 : splitL [] = some Lb := e
          unfold splitL at e4
          simp at e4
        exact List.mem_map.2 ⟨_, (mem_walkP h (to_nil t)).2 ⟨Lb.map bL, by simpa using h0, rfl, to_len h hto, ⟨_, hto⟩, hne⟩, e2⟩
  · rintro (hs | rfl)
    · obtain ⟨p, hp, rfl⟩ := List.mem_map.1 hs
      obtain ⟨q, hq, rfl, _, ⟨m, hm⟩, hf⟩ := (mem_walkP h (to_nil t)).1 hp
      rw [find_path h (by simpa using hq) hf hm]
    · have := find_join h (p := []) (m := 0) (by rw [join_root]; decide) (to_nil t)
      rw [join_root] at this
      rw [this]
end Go.Proofs.YtfboilbmehcgoaaDoor

/- Package dir: walk. -/
namespace Go.Proofs.YtfboilbmehcgoaaDoor
open Go.RowKit Go.Lib

def blkS (t : List Nd) (n : Nat) (ah : List ByteArray) (l : List Ent) : List ByteArray := (l.flatMap fun e => blkP (walkP t n) ah e).map joinB
theorem blkS_take {t : List Nd} {n : Nat} {ah : List ByteArray} {l : List Ent} {j : Nat} (h : j < l.length) : blkS t n ah (l.take (j + 1)) = blkS t n ah (l.take j) ++ (blkP (walkP t n) ah l[j]).map joinB := by
  unfold blkS
  rw [List.take_succ_eq_append_getElem h, List.flatMap_append, List.map_append]
  simp
theorem blkS_le {t : List Nd} (h : MayT t) {n : Nat} {i : Int} {ah : List ByteArray} (k : To t ah i) (j : Nat) : (blkS t n ah ((at_ t i.toNat).en.take j)).length ≤ 120 := by
  have h1 := walk_len h (n := n + 1) k
  rw [walkP] at h1
  have h2 : ((at_ t i.toNat).en.flatMap fun e => blkP (walkP t n) ah e).length = (((at_ t i.toNat).en.take j).flatMap fun e => blkP (walkP t n) ah e).length + (((at_ t i.toNat).en.drop j).flatMap fun e => blkP (walkP t n) ah e).length := by
    rw [← List.length_append, ← List.flatMap_append, List.take_append_drop]
  unfold blkS
  rw [List.length_map]
  omega
theorem empty_iff (J : ByteArray) : J.toList.isEmpty = decide (J = noB) := by
  have h := dot_eq J []
  rw [Bool.eq_iff_iff] at h ⊢
  rw [List.isEmpty_iff, decide_eq_true_eq]
  rw [beq_iff_eq, decide_eq_true_eq] at h
  rw [h]
  exact ⟨fun e => byte_ext e, fun e => by rw [e]; rfl⟩
set_option maxHeartbeats 8000000 in
set_option maxRecDepth 100000 in
theorem walkl_any (t : List Nd) (A : Option Addr) (c : Nat) (r : Nat → NAddr) (hM : MayT t) : ∀ (n : Nat), n ≤ 11 → ∀ (i : Nat) (ah : List ByteArray), To t ah i → ∀ (q : Option Addr) (d : Nat), (q = none → ah = [] ∧ d = 0) → ∀ w, TLies w A c t r → ZLies w q ah → Calls Tryd.prog 37 #[.agg #[.slice A t.length c], .int .i64 i, .slice q ah.length d, .int .i64 n] w fun x w' => ∃ v, x = .returned v ∧ ZOwn w' w.heap.size v ((walkP t n i ah).map joinB) ∧ Below w.heap.size w w'
  | 0, _, i, ah, _, q, d, _, w, _, _ => by
    have HBA := Lib.hid ((Below.refl w.heap.size w).alloc (Nat.le_refl _) (.cells #[.slice A t.length c] 24))
    go_enter Tryd.func37, Tryd.ntmps37
    go_wp2_with fail
    go_ret
    exact ⟨_, rfl, zown_nil _ _, HBA.out⟩
  | n + 1, hn, i, ah, hto, q, d, hq, w, h, hz => by
    have hti := to_in hM hto
    have hi : i < t.length := by omega
    have h11 := to_len hM hto
    have HTW := Lib.hid (fun w1 (hb : Below w.heap.size w w1) => h.below hb)
    have HZW := Lib.hid (fun w1 (hb : Below w.heap.size w w1) => hz.below hb)
    have HQ := Lib.hid hq
    have HIH := Lib.hid (fun i' ah' hto' q' d' hq' w' h' hz' => walkl_any t A c r hM n (by omega) i' ah' hto' q' d' hq' w' h' hz')
    have HTO := Lib.hid hto
    have HLE := Lib.hid (fun j => blkS_le hM (n := n) hto j)
    rw [Int.toNat_natCast] at HLE
    have HWV : Hid ((walkP t (n + 1) i ah).map joinB = blkS t n ah (at_ t i).en) := Lib.hid (by unfold blkS; rw [walkP, Int.toNat_natCast])
    obtain ⟨P, hP⟩ : ∃ P, P = w.heap.size := ⟨_, rfl⟩
    have HBA := Lib.hid ((Below.refl w.heap.size w).alloc (Nat.le_refl _) (.cells #[.slice A t.length c] 24))
    have HXA := Lib.hid (heap_alloc_new w (.cells #[.slice A t.length c] 24))
    rw [← hP] at HXA
    have HPX : Hid (∀ w1, Below (w.alloc (.cells #[.slice A t.length c] 24)).heap.size (w.alloc (.cells #[.slice A t.length c] 24)) w1 → w1.cell? ⟨P, 0, none⟩ = some (.slice A t.length c)) := Lib.hid fun w1 hb => (tbox_cell ((hb.block P (by rw [hP]; simp)).trans HXA.out)).1
    have hE : ∀ e ∈ (at_ t i).en, (at_ t i).k = 2 ∧ 1 ≤ e.2 ∧ e.2 ≤ 11 := fun e he => hM.names hi he
    have HE := Lib.hid hE
    have h10 := hM.len10 i
    have HMM := Lib.hid hM
    clear h hz hq hto hti hM hE
    obtain ⟨B, o, rfl, hBs, ⟨c0, c1, c2, c3, c4⟩, hnl⟩ := (HTW.out w (Below.refl _ _)).node hi
    obtain ⟨⟨RA, RB, rc, rd⟩, hr⟩ : ∃ x, x = r i := ⟨_, rfl⟩
    rw [← hr] at c4 hnl
    have HEL := Lib.hid (fun w1 (hb : Below w.heap.size w w1) => (hnl.below hb).en)
    obtain ⟨en, hen⟩ : ∃ en, en = (at_ t i).en := ⟨_, rfl⟩
    dsimp only at c4 HEL
    rw [← hen] at c4 HEL HE HLE HWV h10
    have HEN := Lib.hid hen
    have c4' := (HBA.out.cell (p := ⟨B, o + i * 5 + 4, none⟩) hBs).trans c4
    clear hnl hr hen c0 c1 c2 c3 c4
    obtain ⟨K, hK⟩ : ∃ K, K = n + 1 := ⟨_, rfl⟩
    rw [← hK] at HWV ⊢
    have b1 : ((K : Int) == 0) = false := by simp; omega
    have hKw : IntKind.i64.wrap ((K : Int) - 1) = (n : Int) := by rw [show (K : Int) - 1 = n by omega]; exact i64w_idE _ (by omega)
    clear hK
    have hi1 : (i : Int) < (t.length : Int) := by omega
    go_enter Tryd.func37, Tryd.ntmps37
    go_upto_region 1 with fail
    rw [← hP]
    generalize w.alloc _ = W at HBA HXA HPX c4' hBs ⊢
    clear hP
    have u0 := HPX.out W (Below.refl _ _)
    go_wp2_with fail
    clear u0 c4'
    go_loopw [9, 11, 12, 13, 23] (fun v9 _ _ _ v23 wr => ∃ jx : Nat, jx ≤ en.length ∧ v23 = .int .i64 jx ∧ Hid (ZOwn wr W.heap.size v9 (blkS t n ah (en.take jx))) ∧ Hid (Below W.heap.size W wr)) (fun _ _ _ _ v23 _ => en.length - (RowKit.intOf v23).toNat)
    case atStart => exact ⟨0, Nat.zero_le _, rfl, Lib.hid (zown_nil _ _), Lib.hid (Below.refl _ _)⟩
    case round =>
      obtain ⟨jx, hj, rfl, HO, HB⟩ := hrel
      have HBW := Lib.hid (HBA.out.trans (HB.out.mono HBA.out.size))
      by_cases hj1 : jx < en.length
      · have d2 : decide ((jx : Int) < (en.length : Int)) = true := decide_eq_true (by omega)
        obtain ⟨B2, o2, rfl, hB2, hcc⟩ := (HEL.out wr HBW.out) (by omega)
        obtain ⟨k0, k1⟩ := hcc jx hj1
        have HTK : Hid (blkS t n ah (en.take (jx + 1)) = blkS t n ah (en.take jx) ++ (blkP (walkP t n) ah (en[jx]'hj1)).map joinB) := Lib.hid (blkS_take hj1)
        have hbd := HE.out _ (List.getElem_mem hj1)
        have hte := to_entry HMM.out HTO.out (e := en[jx]'hj1) (by rw [Int.toNat_natCast, ← HEN.out]; exact List.getElem_mem hj1)
        have hl1 := HLE.out jx
        have hl2 := HLE.out (jx + 1)
        rw [HTK.out, List.length_append] at hl2
        obtain ⟨⟨a, b⟩, hab⟩ : ∃ x, x = en[jx]'hj1 := ⟨_, rfl⟩
        rw [← hab] at k0 k1 HTK hbd hte hl2
        dsimp only at k0 k1 hbd hte
        obtain ⟨S, hS⟩ : ∃ S, S = blkS t n ah (en.take jx) := ⟨_, rfl⟩
        rw [← hS] at HO HTK hl1 hl2
        clear hcc hab hS
        obtain ⟨m, rfl⟩ : ∃ m : Nat, b = (m : Int) := ⟨b.toNat, by omega⟩
        have HTE := Lib.hid hte
        clear hte
        obtain ⟨v, cap, hv, -⟩ := own_slice HO.out
        subst hv
        obtain ⟨N, hN⟩ : ∃ N, N = Obj.cells #[.string a, .int .i64 (m : Int)] 34 (0, 0) := ⟨_, rfl⟩
        have HNN := Lib.hid hN
        have HBV := Lib.hid (HB.out.alloc HB.out.size N)
        have HXV := Lib.hid (heap_alloc_new wr N)
        have HOV : Hid (ZOwn (wr.alloc N) W.heap.size (.slice v S.length cap) S) := Lib.hid (HO.out.alloc _)
        go_upto_region 7 with fail
        rw [← hN]
        obtain ⟨p, hp⟩ : ∃ p, p = wr.heap.size := ⟨_, rfl⟩
        rw [← hp] at HXV ⊢
        have HPV : Hid (∀ g, (Value.slice v S.length cap).ownBlock = some g → W.heap.size ≤ g ∧ g < p) := Lib.hid fun g e => by rw [hp]; exact HO.out.lt g e
        generalize wr.alloc N = V at HBV HXV HOV ⊢
        rw [hN] at HXV
        clear hp hN k0 k1
        have x0 : V.cell? ⟨p, 0, none⟩ = some (.string a) := by have := HXV.out; simp [World.cell?, this]
        obtain ⟨L, hL⟩ : ∃ L, L = ah ++ [a] := ⟨_, rfl⟩
        have HLL := Lib.hid hL
        have hL1 : L.length ≤ 100 := by rw [hL, List.length_append]; simp; omega
        have HBVW := Lib.hid (HBA.out.trans (HBV.out.mono HBA.out.size))
        obtain ⟨X, hX⟩ : ∃ X, X = (V.alloc (.cells #[.string a] 9)).alloc (.cells #[.slice q ah.length d, .slice (some ⟨V.heap.size, 0, none⟩) 1 1] 37) := ⟨_, rfl⟩
        have HBX : Hid (Below V.heap.size V X) := Lib.hid (by rw [hX]; exact ((Below.refl _ _).alloc (Nat.le_refl _) _).alloc (by simp) _)
        have HCC : Hid (Calls Tryd.prog 57 #[.slice (some ⟨V.heap.size + 1, 0, none⟩) 2 2] X fun e w' => ∃ A' c', e = .returned (.slice A' L.length c') ∧ ZOwn w' X.heap.size (.slice A' L.length c') L ∧ Below X.heap.size X w') := Lib.hid (by
          have hz : (V.alloc (.cells #[.string a] 9)).heap.size = V.heap.size + 1 := by simp
          have hg := heap_alloc_new (V.alloc (.cells #[.string a] 9)) (.cells #[.slice q ah.length d, .slice (some ⟨V.heap.size, 0, none⟩) 1 1] 37)
          rw [hz, ← hX] at hg
          have h2 : ZLies X (some ⟨V.heap.size, 0, none⟩) [a] := by rw [hX]; exact (zlies_one_at V a).below ((Below.refl _ _).alloc (Nat.le_refl _) _)
          have := concatz (V.heap.size + 1) q (some ⟨V.heap.size, 0, none⟩) d 1 2 ah [a] X hg (HZW.out X (HBVW.out.trans (HBX.out.mono HBVW.out.size))) h2 HQ.out (fun e => by cases e) (by omega) (by simp)
          rw [← hL] at this
          exact this)
        have HJN : Hid (∀ A' c' w', ZOwn w' X.heap.size (.slice A' L.length c') L → Calls Tryd.prog 58 #[.slice A' L.length c'] w' fun e w'' => e = .returned (.string (joinB L)) ∧ Below w'.heap.size w' w'') := Lib.hid fun A' c' w' ho => join_any A' c' _ L w' (zown_SL ho) (by omega)
        have HXX := Lib.hid hX
        clear hL hX
        go_upto_region 9 with (first
          | (go_at_call 57; rw [← HXX.out]; refine HCC.out.mono ?_; rintro e w2 ⟨A', c', rfl, hol, hb2⟩; have HOL := Lib.hid hol; have HB2 := Lib.hid (HBX.out.trans (hb2.mono HBX.out.size)); clear hol hb2)
          | (go_at_call 58; refine (HJN.out A' c' _ HOL.out).mono ?_; rintro e w3 ⟨rfl, hb3⟩; have HB3 := Lib.hid (HB2.out.trans (hb3.mono HB2.out.size)); have HOL3 := Lib.hid (ZOwn.belowz HOL.out hb3); clear hb3)
          | fail)
        have HO3 : Hid (ZOwn w3 W.heap.size (.slice v S.length cap) S) := Lib.hid (ZOwn.belowz HOV.out HB3.out)
        have HBV3 := Lib.hid (HBV.out.trans (HB3.out.mono HBV.out.size))
        obtain ⟨J, hJ⟩ : ∃ J, J = joinB L := ⟨_, rfl⟩
        rw [← hJ]
        have HJJ := Lib.hid hJ
        clear hJ x0
        have hem := empty_iff J
        by_cases h0 : J = noB
        · have d3 : J.toList.isEmpty = true := by rw [hem]; exact decide_eq_true h0
          have HBK : Hid (blkP (walkP t n) ah (a, (m : Int)) = []) := Lib.hid (by
            unfold blkP
            rw [if_pos]
            show joinB (ah ++ [a]) = noB
            rw [← HLL.out, ← HJJ.out, h0])
          clear hem h0
          go_wp2_with fail
          go_roundw
          case rel => exact ⟨jx + 1, by omega, by go_num, Lib.hid (by rw [HTK.out, HBK.out, List.map_nil, List.append_nil]; exact HO3.out), HBV3⟩
          case measure => simp [RowKit.intOf]; omega
        · have d3 : J.toList.isEmpty = false := by rw [hem]; exact decide_eq_false h0
          have HBK : Hid ((blkP (walkP t n) ah (a, (m : Int))).map joinB = J :: (walkP t n m L).map joinB) := Lib.hid (by
            unfold blkP
            rw [if_neg (show ¬ joinB (ah ++ [a]) = noB by rw [← HLL.out, ← HJJ.out]; exact h0), List.map_cons, ← HLL.out, ← HJJ.out])
          rw [HBK.out, List.length_cons] at hl2
          clear hem h0
          have HO5 : Hid (ZOwn (w3.alloc (.cells #[.string J] 9)) W.heap.size (.slice v S.length cap) S) := Lib.hid (HO3.out.alloc _)
          have HL1 := Lib.hid (zlies_one_at w3 J)
          have HB5 := Lib.hid (HBV3.out.alloc HBV3.out.size (.cells #[.string J] 9))
          have HLT : Hid (S.length + [J].length ≤ 100000) := Lib.hid (by simp; omega)
          go_upto_region 11 with (at_builtin; refine wpList_zapp rfl _ _ rfl W.heap.size (.slice v S.length cap) S [J] _ _ rfl rfl HO5.out HL1.out (fun e => by cases e) HLT.out HB5.out.size ?_; intro v4 cap4 w4 hown4 hg4)
          have HB6 := Lib.hid (HB5.out.grown hg4 HB5.out.size fun k e => (HO5.out.lt k e).1)
          obtain ⟨S', hS'⟩ : ∃ S', S' = S ++ [J] := ⟨_, rfl⟩
          have HSS := Lib.hid hS'
          have hSl : S'.length = S.length + 1 := by rw [hS']; simp
          have HO6 : Hid (ZOwn w4 W.heap.size (.slice v4 (S.length + 1) cap4) S') := Lib.hid (by rw [hS']; simpa using hown4)
          have hk4 : ∀ g, p ≤ g → g < w3.heap.size → w4.heap[g]? = w3.heap[g]? := fun g h1 h2 =>
            (hg4.block g (by simp; omega) (fun e => by have := (HPV.out g e.symm).2; omega)).trans (((Below.refl w3.heap.size w3).alloc (Nat.le_refl _) _).block g h2)
          have hp3 : p < w3.heap.size := Nat.lt_of_lt_of_le (lt_size HXV.out) HB3.out.size
          have x4 : w4.heap[p]? = some (.cells #[.string a, .int .i64 (m : Int)] 34 (0, 0)) := (hk4 p (Nat.le_refl _) hp3).trans ((HB3.out.block p (lt_size HXV.out)).trans HXV.out)
          have hpX : p < X.heap.size := Nat.lt_of_lt_of_le (lt_size HXV.out) HBX.out.size
          have HOL4 : Hid (ZOwn w4 X.heap.size (.slice A' L.length c') L) := Lib.hid (own_keep HOL3.out fun g e => by
            have := HOL3.out.lt g e
            exact hk4 g (by omega) this.2)
          have x5 : w4.cell? ⟨p, 1, none⟩ = some (.int .i64 (m : Int)) := by simp [World.cell?, x4]
          have u4 := HPX.out w4 HB6.out
          obtain ⟨z1, -, -, z4, z5⟩ := HOL4.out.lies
          have HZ1 := Lib.hid z1
          have HZ5 : Hid (A' = none → L = [] ∧ c' = 0) := Lib.hid fun e => by
            have h5 := z5 e
            exact ⟨List.eq_nil_of_length_eq_zero (by omega), h5⟩
          have HTL := HTE.out
          rw [← HLL.out] at HTL
          have HBW6 := Lib.hid (HBA.out.trans (HB6.out.mono HBA.out.size))
          have HRC := Lib.hid (HIH.out m L HTL A' c' HZ5.out w4 (HTW.out w4 HBW6.out) HZ1.out)
          obtain ⟨R, hR⟩ : ∃ R, R = (walkP t n m L).map joinB := ⟨_, rfl⟩
          rw [← hR] at HRC HBK hl2
          clear hown4 hg4 hS' hk4 x4 z1 z4 z5 HTL hR hp3 hpX
          go_wp2_with (first
            | (go_at_call 37; (with_reducible refine HRC.out.mono ?_); rintro e w5 ⟨v5, rfl, ho5, hb5⟩; obtain ⟨q5, c5, rfl, -⟩ := own_slice ho5; have HO7 := Lib.hid (ZOwn.belowz HO6.out hb5); have HR5 := Lib.hid ho5; have HB7 := Lib.hid (HB6.out.trans (hb5.mono HB6.out.size)); clear ho5 hb5)
            | (at_builtin; refine wpList_zapp rfl _ _ rfl W.heap.size (.slice v4 (S.length + 1) cap4) S' R q5 c5 rfl rfl HO7.out HR5.out.lies.1 (fun e => ⟨List.eq_nil_of_length_eq_zero (by have h1 := HR5.out.lies.2.2.2.1; have h2 := HR5.out.lies.2.2.2.2 e; omega), HR5.out.lies.2.2.2.2 e⟩) (by omega) HB7.out.size ?_; intro v7 cap7 w7 hown7 hg7; have HO8 := Lib.hid hown7; have HB8 := Lib.hid (HB7.out.grown hg7 HB7.out.size fun k e => (HO7.out.lt k e).1); clear hown7 hg7)
            | fail)
          go_roundw
          case rel => exact ⟨jx + 1, by omega, by go_num, Lib.hid (by
            rw [HTK.out, HBK.out]
            have := HO8.out
            rw [show S' ++ R = S ++ J :: R by rw [HSS.out, List.append_assoc]; rfl, hSl] at this
            exact this), HB8⟩
          case measure => simp [RowKit.intOf]; omega
      · have d2 : decide ((jx : Int) < (en.length : Int)) = false := decide_eq_false (by omega)
        have HE2 : Hid (blkS t n ah (en.take jx) = blkS t n ah en) := Lib.hid (by rw [List.take_of_length_le (by omega)])
        go_wp2_with fail
        go_ret
        exact ⟨_, rfl, by rw [HWV.out, ← HE2.out]; exact zown_base HO.out HBA.out.size, HBW.out⟩
set_option maxHeartbeats 4000000 in
set_option maxRecDepth 100000 in
theorem walkTl_any (t : List Nd) (A : Option Addr) (c : Nat) (r : Nat → NAddr) (w : World) (h : TLies w A c t r) : Calls Tryd.prog 16 #[.agg #[.slice A t.length c]] w fun x w' => ∃ q d, x = .returned (.slice q (walkF t).length d) ∧ ZOwn w' w.heap.size (.slice q (walkF t).length d) (walkF t) ∧ Below w.heap.size w w' := by
  have HTW := Lib.hid (fun w1 (hb : Below w.heap.size w w1) => h.below hb)
  obtain ⟨P, hP⟩ : ∃ P, P = w.heap.size := ⟨_, rfl⟩
  have HBA := Lib.hid ((Below.refl w.heap.size w).alloc (Nat.le_refl _) (.cells #[.slice A t.length c] 24))
  have HXA := Lib.hid (heap_alloc_new w (.cells #[.slice A t.length c] 24))
  rw [← hP] at HXA
  have HPX : Hid (∀ w1, Below (w.alloc (.cells #[.slice A t.length c] 24)).heap.size (w.alloc (.cells #[.slice A t.length c] 24)) w1 → w1.cell? ⟨P, 0, none⟩ = some (.slice A t.length c)) := Lib.hid fun w1 hb => (tbox_cell ((hb.block P (by rw [hP]; simp)).trans HXA.out)).1
  have HMY := Lib.hid (fun w1 (hb : Below w.heap.size w w1) => mayl_any t A c r w1 (HTW.out w1 hb))
  clear h
  by_cases hm : mayT t = true
  rotate_left
  · have hm' : mayT t = false := by simpa using hm
    have HV : Hid (walkF t = []) := Lib.hid (by unfold walkF; rw [if_neg hm])
    rw [hm'] at HMY
    clear hm hm'
    go_enter Tryd.func16, Tryd.ntmps16
    go_upto_region 1 with fail
    rw [← hP]
    generalize w.alloc _ = W at HBA HXA HPX ⊢
    clear hP
    have u0 := HPX.out W (Below.refl _ _)
    go_wp2_with (first
      | (go_at_call 14; (with_reducible refine (HMY.out _ HBA.out).mono ?_); rintro e w1 ⟨rfl, hb1⟩; have HB1 := Lib.hid (HBA.out.trans (hb1.mono HBA.out.size)); clear hb1)
      | fail)
    go_ret
    rw [HV.out]
    exact ⟨none, 0, rfl, zown_nil _ _, HB1.out⟩
  have HV : Hid (walkF t = (walkP t 11 0 []).map joinB) := Lib.hid (by unfold walkF; rw [if_pos hm])
  have hM := mayT_iff.1 hm
  rw [hm] at HMY
  have HWK : Hid (∀ w1, Below w.heap.size w w1 → Calls Tryd.prog 37 #[.agg #[.slice A t.length c], .int .i64 0, .slice none 0 0, .int .i64 11] w1 fun x w' => ∃ v, x = .returned v ∧ ZOwn w' w1.heap.size v ((walkP t 11 0 []).map joinB) ∧ Below w1.heap.size w1 w') := Lib.hid (fun w1 hb => walkl_any t A c r hM 11 (by omega) 0 [] (to_nil t) none 0 (fun _ => ⟨rfl, rfl⟩) w1 (HTW.out w1 hb) (fun h => absurd h (by simp)))
  rw [← HV.out] at HWK
  clear hm hM
  go_enter Tryd.func16, Tryd.ntmps16
  go_upto_region 1 with fail
  rw [← hP]
  generalize w.alloc _ = W at HBA HXA HPX ⊢
  clear hP
  have u0 := HPX.out W (Below.refl _ _)
  go_wp2_with (first
    | (go_at_call 14; (with_reducible refine (HMY.out _ HBA.out).mono ?_); rintro e w1 ⟨rfl, hb1⟩; have u1 := HPX.out _ hb1; have HB1 := Lib.hid (HBA.out.trans (hb1.mono HBA.out.size)); clear hb1)
    | (go_at_call 37; (with_reducible refine (HWK.out _ HB1.out).mono ?_); rintro e w2 ⟨v, rfl, ho, hb2⟩; obtain ⟨q, d, rfl, -⟩ := own_slice ho; have HO := Lib.hid (zown_base ho HB1.out.size); have HB2 := Lib.hid (HB1.out.trans (hb2.mono HB1.out.size)); clear hb2 ho)
    | fail)
  go_ret
  exact ⟨q, d, rfl, HO.out, HB2.out⟩
end Go.Proofs.YtfboilbmehcgoaaDoor

/- DirWalks. -/
namespace Go.Proofs.YtfboilbmehcgoaaDoor
open Go.RowKit Go.Lib

/-- What the law asks of one path against another one ahead of it. -/
theorem paths_apart {t : List Nd} (h : MayT t) {i j : Nat} (hj : j < i) (hi : i < (walkF t).length) : (walkF t)[j]'(by omega) ≠ (walkF t)[i] ∧ ∀ r, ((walkF t)[j]'(by omega)).data.toList ≠ (walkF t)[i].data.toList ++ 47 :: r := by
  have hw : walkF t = (walkP t 11 0 []).map joinB := by unfold walkF; rw [if_pos (mayT_iff.2 h)]
  have hl : (walkF t).length = (walkP t 11 0 []).length := by rw [hw, List.length_map]
  have hj2 : j < (walkP t 11 0 []).length := by omega
  have hi2 : i < (walkP t 11 0 []).length := by omega
  have e1 : (walkF t)[j]'(by omega) = joinB ((walkP t 11 0 [])[j]) := by simp only [hw, List.getElem_map]
  have e2 : (walkF t)[i] = joinB ((walkP t 11 0 [])[i]) := by simp only [hw, List.getElem_map]
  rw [e1, e2]
  have ho := List.pairwise_iff_getElem.1 (walk_order h 11 0 []) j i hj2 hi2 hj
  obtain ⟨⟨p, hp, ep⟩, fp⟩ := walkP_ext (List.getElem_mem hj2)
  obtain ⟨⟨q, hq, eq⟩, fq⟩ := walkP_ext (List.getElem_mem hi2)
  rw [List.nil_append] at ep eq
  have np : (walkP t 11 0 [])[j] ≠ [] := by rw [ep]; exact hp
  have nq : (walkP t 11 0 [])[i] ≠ [] := by rw [eq]; exact hq
  refine ⟨fun e => ?_, fun r e => ?_⟩
  · have := join_inj np nq fp e
    rw [this] at ho
    exact ho (List.prefix_refl _)
  · exact ho (join_longer np nq fp fq e)
theorem path_facts {t : List Nd} (h : MayT t) {s : ByteArray} (hs : s ∈ walkF t) : ∃ (m D : Nat) (y : ByteArray), findS t s = ((m : Int), 0) ∧ parentS t s = ((D : Int), y, 0) ∧ D < t.length ∧ findE (at_ t D).en y = (m : Int) ∧ insF t D m = true := by
  have hw : walkF t = (walkP t 11 0 []).map joinB := by unfold walkF; rw [if_pos (mayT_iff.2 h)]
  rw [hw] at hs
  obtain ⟨p, hp, rfl⟩ := List.mem_map.1 hs
  obtain ⟨q, hq, rfl, _, ⟨m, hm⟩, hf⟩ := (mem_walkP h (to_nil t)).1 hp
  have hmi := to_in h hm
  obtain ⟨d, y, e1, e2, e3, e4, e5⟩ := parent_path h hq hf hm
  refine ⟨m.toNat, d.toNat, y, ?_, ?_, by omega, ?_, ?_⟩
  · rw [find_path h hq hf hm, show ((m.toNat : Nat) : Int) = m by omega]
  · rw [e1, show ((d.toNat : Nat) : Int) = d by omega]
  · rw [e4]; omega
  · rw [show ((d.toNat : Nat) : Int) = d by omega, show ((m.toNat : Nat) : Int) = m by omega]; exact e5
theorem walkF_len {t : List Nd} (h : MayT t) : (walkF t).length ≤ 120 := by
  unfold walkF
  rw [if_pos (mayT_iff.2 h), List.length_map]
  exact walk_len h (to_nil t)
theorem slash_at {x z : ByteArray} (h : x.size < z.size) (he : z.extract 0 x.size = x) (hv : (z[x.size]'h).toNat = 47) : ∃ r, z.data.toList = x.data.toList ++ 47 :: r := by
  have hl : z.data.toList.length = z.size := (Lib.size_eq z).symm
  have hx : x.data.toList.length = x.size := (Lib.size_eq x).symm
  have e1 : x.data.toList = z.data.toList.take x.size := by
    have := congrArg (fun b : ByteArray => b.data.toList) he
    simp at this
    rw [← this]
  have e2 : z.data.toList[x.size]'(by omega) = 47 := by
    apply UInt8.toNat_inj.1
    rw [show (47 : UInt8).toNat = 47 from rfl, ← hv]
    rfl
  refine ⟨z.data.toList.drop (x.size + 1), ?_⟩
  rw [← e2, List.getElem_cons_drop]
  conv => rhs; lhs; rw [e1]
  rw [List.take_append_drop]
def toldB (s : ByteArray) (l : List ByteArray) : Bool := l.any fun x => decide (x = s)
theorem toldB_take {s : ByteArray} {l : List ByteArray} {j : Nat} (h : j < l.length) : toldB s (l.take (j + 1)) = (toldB s (l.take j) || decide (l[j] = s)) := by
  unfold toldB
  rw [List.take_succ_eq_append_getElem h, List.any_append]
  simp
theorem toldB_iff {s : ByteArray} {l : List ByteArray} : toldB s l = true ↔ s ∈ l := by
  unfold toldB
  rw [List.any_eq_true]
  constructor
  · rintro ⟨x, hx, e⟩
    rw [← of_decide_eq_true e]; exact hx
  · intro h
    exact ⟨s, h, decide_eq_true rfl⟩
set_option maxRecDepth 100000 in
set_option maxHeartbeats 8000000 in
theorem walks_law (t : List Nd) (A : Option Addr) (c : Nat) (r : Nat → NAddr) (s : ByteArray) (w : World) (h : TLies w A c t r) : Calls Tryd.prog 4 #[.agg #[.slice A t.length c], .string s] w fun x w' => x = .returned (.bool true) ∧ Below w.heap.size w w' := by
  have HLC := Lib.hid (lightT_cases t)
  have HBA := Lib.hid ((Below.refl w.heap.size w).alloc (Nat.le_refl _) (.cells #[.slice A t.length c] 24))
  have HX := Lib.hid (heap_alloc_new w (.cells #[.slice A t.length c] 24))
  have HLA := Lib.hid (fun w1 h => lightT_any t A c r w1 h)
  have HMR := Lib.hid (fun w1 h => mayTr_any t A c r w1 h)
  have HML := Lib.hid (fun w1 h => mayl_any t A c r w1 h)
  have HH := Lib.hid (fun w1 (hb : Below w.heap.size w w1) => h.below hb)
  have HAW := Lib.hid awake_any
  clear h
  obtain ⟨M, hM⟩ : ∃ M, M = mayT t := ⟨_, rfl⟩
  rw [← hM] at HMR HML
  have HM := Lib.hid hM
  obtain ⟨LA, hLA⟩ : ∃ L, lightT t = L := ⟨_, rfl⟩
  rw [hLA] at HLC HLA
  clear hM hLA
  go_enter Tryd.func4, Tryd.ntmps4
  go_upto_region 1 with (fail)
  generalize w.alloc _ = W at HBA HX ⊢
  obtain ⟨P, hP⟩ : ∃ P, P = w.heap.size := ⟨_, rfl⟩
  rw [← hP] at HX ⊢
  clear hP
  have HTL : Hid (∀ w1, Below W.heap.size W w1 → TLies w1 A c t r) := Lib.hid fun w1 hb => HH.out w1 (HBA.out.trans (hb.mono HBA.out.size))
  have HPX : Hid (∀ w1, Below W.heap.size W w1 → w1.cell? ⟨P, 0, none⟩ = some (.slice A t.length c)) := Lib.hid fun w1 hb => (tbox_cell ((hb.block P (lt_size HX.out)).trans HX.out)).1
  have q0 := HPX.out W (Below.refl _ _)
  rcases HLC.out with ⟨rfl, hl⟩ | hpos
  case inr =>
    have b1 : decide (0 < LA) = true := decide_eq_true hpos
    clear hpos
    go_wp2_with (first
      | (go_at_call 9; (with_reducible refine (HLA.out _ (HTL.out _ (Below.refl _ _))).mono ?_); rintro e w1 ⟨rfl, hb1⟩; replace hb1 := Lib.hid hb1)
      | (go_at_call 10; (with_reducible refine (HAW.out _).mono ?_); rintro e w3 ⟨rfl, hb3⟩; replace hb3 := Lib.hid (hb1.out.trans (hb3.mono hb1.out.size)))
      | fail)
    go_ret
    exact ⟨rfl, HBA.out.trans (hb3.out.mono HBA.out.size)⟩
  have HLT : Hid (LightT t) := Lib.hid hl
  clear hl
  by_cases hsz : (200 : Int) < (s.size : Int)
  · have b2 : decide ((200 : Int) < (s.size : Int)) = true := decide_eq_true hsz
    clear hsz
    go_wp2_with (first
      | (go_at_call 9; (with_reducible refine (HLA.out _ (HTL.out _ (Below.refl _ _))).mono ?_); rintro e w1 ⟨rfl, hb1⟩; replace hb1 := Lib.hid hb1)
      | (go_at_call 10; (with_reducible refine (HAW.out _).mono ?_); rintro e w3 ⟨rfl, hb3⟩; replace hb3 := Lib.hid (hb1.out.trans (hb3.mono hb1.out.size)))
      | fail)
    go_ret
    exact ⟨rfl, HBA.out.trans (hb3.out.mono HBA.out.size)⟩
  have b2 : decide ((200 : Int) < (s.size : Int)) = false := decide_eq_false hsz
  clear hsz
  cases M with
  | false =>
    go_wp2_with (first
      | (go_at_call 9; (with_reducible refine (HLA.out _ (HTL.out _ (Below.refl _ _))).mono ?_); rintro e w1 ⟨rfl, hb1⟩; replace hb1 := Lib.hid hb1; have q1 := HPX.out _ hb1.out)
      | (go_at_call 14; (with_reducible refine (HML.out _ (HTL.out _ hb1.out)).mono ?_); rintro e w2 ⟨rfl, hb2⟩; replace hb2 := Lib.hid (hb1.out.trans (hb2.mono hb1.out.size)))
      | (go_at_call 10; (with_reducible refine (HAW.out _).mono ?_); rintro e w3 ⟨rfl, hb3⟩; replace hb3 := Lib.hid (hb2.out.trans (hb3.mono hb2.out.size)))
      | fail)
    go_ret
    exact ⟨rfl, HBA.out.trans (hb3.out.mono HBA.out.size)⟩
  | true =>
    have HMT := Lib.hid (mayT_iff.1 HM.out.symm)
    have HWK := Lib.hid (fun w1 (hb : Below W.heap.size W w1) => walkTl_any t A c r w1 (HTL.out w1 hb))
    have HFD := Lib.hid (fun x w1 (hb : Below W.heap.size W w1) => findSl_any t A c r x w1 (HTL.out w1 hb))
    have HPA := Lib.hid (fun x w1 (hb : Below W.heap.size W w1) => parentl_any t A c r x w1 (HTL.out w1 hb))
    have HIN := Lib.hid (fun a b w1 (hb : Below W.heap.size W w1) => insidel_any t A c r a b w1 (HTL.out w1 hb))
    have hwl := walkF_len HMT.out
    obtain ⟨L, hL⟩ : ∃ L, L = walkF t := ⟨_, rfl⟩
    rw [← hL] at HWK hwl
    have HL := Lib.hid hL
    clear hL
    have d1 : decide ((120 : Int) < (L.length : Int)) = false := decide_eq_false (by omega)
    go_upto_region 7 with (first
      | (go_at_call 9; (with_reducible refine (HLA.out _ (HTL.out _ (Below.refl _ _))).mono ?_); rintro e w1 ⟨rfl, hb1⟩; replace hb1 := Lib.hid hb1; have q1 := HPX.out _ hb1.out)
      | (go_at_call 14; (with_reducible refine (HML.out _ (HTL.out _ hb1.out)).mono ?_); rintro e w2 ⟨rfl, hb2⟩; replace hb2 := Lib.hid (hb1.out.trans (hb2.mono hb1.out.size)); have q2 := HPX.out _ hb2.out)
      | (go_at_call 15; (with_reducible refine (HMR.out _ (HTL.out _ hb2.out)).mono ?_); rintro e w3 ⟨rfl, hb3⟩; replace hb3 := Lib.hid (hb2.out.trans (hb3.mono hb2.out.size)); have q3 := HPX.out _ hb3.out)
      | (go_at_call 16; (with_reducible refine (HWK.out _ hb3.out).mono ?_); rintro e w4 ⟨q, d, rfl, ho, hb4⟩; have HO := Lib.hid ho; replace hb4 := Lib.hid (hb3.out.trans (hb4.mono hb3.out.size)); clear ho)
      | fail)
    have HZL : Hid (∀ w1, Below w4.heap.size w4 w1 → ZLies w1 q L) := Lib.hid fun w1 hb => HO.out.lies.1.below hb
    have hLd := HO.out.lies.2.2.2.1
    clear q0 q1 q2 q3 b2 d1
    go_wp2_with fail
    go_loopw [6, 7, 8, 9, 10, 11, 12, 13, 15, 44] (fun v6 _ _ _ _ _ _ _ _ v44 wr => ∃ jx : Nat, jx ≤ L.length ∧ v44 = .int .i64 jx ∧ v6 = .bool (toldB s (L.take jx)) ∧ Hid (Below w4.heap.size w4 wr)) (fun _ _ _ _ _ _ _ _ _ v44 _ => L.length - (RowKit.intOf v44).toNat)
    case atStart => exact ⟨0, Nat.zero_le _, rfl, rfl, Lib.hid (Below.refl _ _)⟩
    case round =>
      obtain ⟨jx, hj, rfl, rfl, HB⟩ := hrel
      have HBW := Lib.hid (hb4.out.trans (HB.out.mono hb4.out.size))
      by_cases hj1 : jx < L.length
      · have d2 : decide ((jx : Int) < (L.length : Int)) = true := decide_eq_true (by omega)
        have hmem : L[jx]'hj1 ∈ walkF t := HL.out ▸ List.getElem_mem hj1
        obtain ⟨m, D, y, f1, f2, f3, f4, f5⟩ := path_facts HMT.out hmem
        obtain ⟨g, rfl⟩ : ∃ g, q = some ⟨g, 0, none⟩ := row_where HO.out (by omega)
        have HCL : Hid (∀ w1, Below w4.heap.size w4 w1 → ∀ j (hj : j < L.length), w1.cell? ⟨g, j, none⟩ = some (.string (L[j]'hj))) := Lib.hid fun w1 hb j hj => by
          obtain ⟨B9, o9, e9, _, k9⟩ := HZL.out w1 hb (by omega)
          simp only [Option.some.injEq, Addr.mk.injEq] at e9
          obtain ⟨rfl, rfl, -⟩ := e9
          have := k9 j hj
          rwa [Nat.zero_add] at this
        have HAP : Hid (∀ j (hj : j < jx), L[j]'(Nat.lt_trans hj hj1) ≠ L[jx]'hj1 ∧ ∀ r, (L[j]'(Nat.lt_trans hj hj1)).data.toList ≠ (L[jx]'hj1).data.toList ++ 47 :: r) := Lib.hid (by
          have hLL := HL.out
          subst hLL
          exact fun j hj => paths_apart HMT.out hj hj1)
        have HTK : Hid (toldB s (L.take (jx + 1)) = (toldB s (L.take jx) || decide (L[jx]'hj1 = s))) := Lib.hid (toldB_take hj1)
        have k0 := HCL.out wr HB.out jx hj1
        obtain ⟨x, hx⟩ : ∃ x, x = L[jx]'hj1 := ⟨_, rfl⟩
        rw [← hx] at k0 f1 f2 HAP HTK
        clear hx hmem
        have HFX := Lib.hid (HFD.out x)
        rw [f1] at HFX
        have HPR := Lib.hid (HPA.out x)
        rw [f2] at HPR
        have HIX := Lib.hid (HIN.out (D : Int) (m : Int))
        rw [f5] at HIX
        obtain ⟨B, o, hA, hBs, hc, hn⟩ := (HTL.out W (Below.refl _ _)).node f3
        subst hA
        obtain ⟨⟨RA, RB, rc, rd⟩, hr⟩ : ∃ a, a = r D := ⟨_, rfl⟩
        rw [← hr] at hc hn
        obtain ⟨en, hen⟩ : ∃ en, en = (at_ t D).en := ⟨_, rfl⟩
        have hc4 := hc.c4
        rw [← hen] at f4 hc4
        dsimp only at hc4
        have h10 : en.length ≤ 10 := by rw [hen]; exact HMT.out.len10 D
        have HC4 : Hid (∀ w1, Below W.heap.size W w1 → w1.cell? ⟨B, o + D * 5 + 4, none⟩ = some (.slice RB en.length rd)) := Lib.hid fun w1 hb => (hb.cell (p := ⟨B, o + D * 5 + 4, none⟩) hBs).trans hc4
        have HAT : Hid (∀ w1, Below W.heap.size W w1 → Calls Tryd.prog 19 #[.slice RB en.length rd, .string y] w1 fun e w' => e = .returned (.int .i64 (m : Int)) ∧ Below w1.heap.size w1 w') := Lib.hid fun w1 hb => by
          have := at_any RB rd en y w1 (by rw [hen]; exact (hn.below hb).en) (by unfold maxLen; omega)
          rwa [f4] at this
        have e1 : decide ((D : Int) < 0) = false := decide_eq_false (by omega)
        have e2 : decide ((t.length : Int) ≤ (D : Int)) = false := decide_eq_false (by omega)
        have e3 : (D : Int) < (t.length : Int) := by omega
        have g1 : (jx : Int) ≤ (d : Int) := by omega
        clear f1 f2 f4 f5 hc hn hr hen hc4 h10
        have p0 := HPX.out wr HBW.out
        go_upto_region 14 with (first
          | (go_at_call 17; (with_reducible refine (HFX.out _ HBW.out).mono ?_); rintro e w5 ⟨rfl, hb5⟩; have HB5 := Lib.hid (HB.out.trans (hb5.mono HB.out.size)); have HV5 := Lib.hid (HBW.out.trans (hb5.mono HBW.out.size)); have p5 := HPX.out w5 HV5.out; clear hb5)
          | (go_at_call 18; (with_reducible refine (HPR.out _ HV5.out).mono ?_); rintro e w6 ⟨rfl, hb6⟩; have HB6 := Lib.hid (HB5.out.trans (hb6.mono HB5.out.size)); have HV6 := Lib.hid (HV5.out.trans (hb6.mono HV5.out.size)); have p6 := HPX.out w6 HV6.out; have c6 := HC4.out w6 HV6.out; clear hb6)
          | (go_at_call 19; (with_reducible refine (HAT.out _ HV6.out).mono ?_); rintro e w7 ⟨rfl, hb7⟩; have HB7 := Lib.hid (HB6.out.trans (hb7.mono HB6.out.size)); have HV7 := Lib.hid (HV6.out.trans (hb7.mono HV6.out.size)); have p7 := HPX.out w7 HV7.out; clear hb7)
          | (go_at_call 20; (with_reducible refine (HIX.out _ HV7.out).mono ?_); rintro e w8 ⟨rfl, hb8⟩; have HB8 := Lib.hid (HB7.out.trans (hb8.mono HB7.out.size)); have HV8 := Lib.hid (HV7.out.trans (hb8.mono HV7.out.size)); clear hb8)
          | fail)
        clear p0 p5 p6 p7 c6 k0
        go_wp2_with fail
        go_loopw [15, 102] (fun _ v102 wr2 => ∃ jy : Nat, jy ≤ jx ∧ v102 = .int .i64 jy ∧ Hid (Below w4.heap.size w4 wr2)) (fun _ v102 _ => jx - (RowKit.intOf v102).toNat)
        case atStart => exact ⟨0, Nat.zero_le _, rfl, HB8⟩
        case round =>
          obtain ⟨jy, hjy, rfl, HB9⟩ := hrel
          by_cases hj2 : jy < jx
          · have d3 : decide ((jy : Int) < (jx : Int)) = true := decide_eq_true (by omega)
            obtain ⟨hne, hnl⟩ := HAP.out jy hj2
            have k0 := HCL.out _ HB9.out jy (by omega)
            obtain ⟨z, hz⟩ : ∃ z, z = L[jy]'(Nat.lt_trans hj2 hj1) := ⟨_, rfl⟩
            rw [← hz] at k0 hne hnl
            clear hz
            have HE : (z.toList == x.toList) = false := by rw [eq_eqB, decide_eq_false hne]
            clear hne
            by_cases hs1 : (x.size : Int) < (z.size : Int)
            · have d4 : decide ((x.size : Int) < (z.size : Int)) = true := decide_eq_true hs1
              by_cases he : z.extract 0 x.size = x
              · have HE2 : ((z.extract 0 x.size).toList == x.toList) = true := by rw [eq_eqB, decide_eq_true he]
                have hs2 : x.size < z.size := by omega
                have d5 : ((((z[x.size]'hs2).toNat : Nat) : Int) == 47) = false := by
                  cases e47 : ((((z[x.size]'hs2).toNat : Nat) : Int) == 47) with
                  | false => rfl
                  | true => exact absurd (slash_at hs2 he (by have := of_decide_eq_true e47; omega)) (fun ⟨r, hr⟩ => hnl r hr)
                clear hnl
                go_wp2_with fail
                go_roundw
                case rel => exact ⟨jy + 1, by omega, by go_num, HB9⟩
                case measure => simp [RowKit.intOf]; omega
              · have HE2 : ((z.extract 0 x.size).toList == x.toList) = false := by rw [eq_eqB, decide_eq_false he]
                clear hnl
                go_wp2_with fail
                go_roundw
                case rel => exact ⟨jy + 1, by omega, by go_num, HB9⟩
                case measure => simp [RowKit.intOf]; omega
            · have d4 : decide ((x.size : Int) < (z.size : Int)) = false := decide_eq_false hs1
              clear hnl
              go_wp2_with fail
              go_roundw
              case rel => exact ⟨jy + 1, by omega, by go_num, HB9⟩
              case measure => simp [RowKit.intOf]; omega
          · have d3 : decide ((jy : Int) < (jx : Int)) = false := decide_eq_false (by omega)
            have HE3 : (x.toList == s.toList) = decide (x = s) := by rw [eq_eqB]
            obtain ⟨z, hz⟩ : ∃ z, z = decide (x = s) := ⟨_, rfl⟩
            rw [← hz] at HE3 HTK
            obtain ⟨tb, htb⟩ : ∃ z, z = toldB s (L.take jx) := ⟨_, rfl⟩
            rw [← htb] at HTK ⊢
            clear hz htb
            cases tb with
            | true =>
              clear HE3
              go_wp2_with fail
              go_roundw
              case rel => exact ⟨jx + 1, by omega, by go_num, by rw [HTK.out]; rfl, HB9⟩
              case measure => simp [RowKit.intOf]; omega
            | false =>
              cases z with
              | true =>
                go_wp2_with fail
                go_roundw
                case rel => exact ⟨jx + 1, by omega, by go_num, by rw [HTK.out]; rfl, HB9⟩
                case measure => simp [RowKit.intOf]; omega
              | false =>
                go_wp2_with fail
                go_roundw
                case rel => exact ⟨jx + 1, by omega, by go_num, by rw [HTK.out]; rfl, HB9⟩
                case measure => simp [RowKit.intOf]; omega
      · have d2 : decide ((jx : Int) < (L.length : Int)) = false := decide_eq_false (by omega)
        rw [List.take_of_length_le (by omega)]
        have hfi := found_iff HMT.out s
        rw [← HL.out, ← toldB_iff] at hfi
        have HFX := Lib.hid (HFD.out s)
        obtain ⟨F, hF⟩ : ∃ F, F = findS t s := ⟨_, rfl⟩
        rw [← hF] at hfi HFX
        clear hF
        obtain ⟨fn, fe⟩ := F
        dsimp only at hfi HFX
        have HE : (s.toList == [47]) = decide (s.data.toList = [47]) := dot_eq s [47]
        have hs47 : s.data.toList = [47] ↔ s = ⟨#[47]⟩ := ⟨fun e => byte_ext e, fun e => by rw [e]⟩
        rw [← hs47] at hfi
        have HF0 : (fe == 0) = (toldB s L || decide (s.data.toList = [47])) := by
          rw [Bool.eq_iff_iff, beq_iff_eq, Bool.or_eq_true, decide_eq_true_eq]
          exact hfi
        obtain ⟨tb, htb⟩ : ∃ z, z = toldB s L := ⟨_, rfl⟩
        obtain ⟨z, hz⟩ : ∃ z, z = decide (s.data.toList = [47]) := ⟨_, rfl⟩
        rw [← htb] at HF0 ⊢
        rw [← hz] at HF0 HE
        have p0 := HPX.out wr HBW.out
        clear hfi hs47 htb hz
        cases tb with
        | true =>
          rw [Bool.true_or] at HF0
          clear HE
          go_wp2_with (first
            | (go_at_call 17; (with_reducible refine (HFX.out _ HBW.out).mono ?_); rintro e w5 ⟨rfl, hb5⟩; have HV5 := Lib.hid (HBW.out.trans (hb5.mono HBW.out.size)); clear hb5)
            | (go_at_call 10; (with_reducible refine (HAW.out _).mono ?_); rintro e w6 ⟨rfl, hb6⟩; have HV6 := Lib.hid (HV5.out.trans (hb6.mono HV5.out.size)); clear hb6)
            | fail)
          go_ret
          exact ⟨rfl, HBA.out.trans (HV6.out.mono HBA.out.size)⟩
        | false =>
          rw [Bool.false_or] at HF0
          cases z with
          | true =>
            go_wp2_with (first
              | (go_at_call 17; (with_reducible refine (HFX.out _ HBW.out).mono ?_); rintro e w5 ⟨rfl, hb5⟩; have HV5 := Lib.hid (HBW.out.trans (hb5.mono HBW.out.size)); clear hb5)
              | (go_at_call 10; (with_reducible refine (HAW.out _).mono ?_); rintro e w6 ⟨rfl, hb6⟩; have HV6 := Lib.hid (HV5.out.trans (hb6.mono HV5.out.size)); clear hb6)
              | fail)
            go_ret
            exact ⟨rfl, HBA.out.trans (HV6.out.mono HBA.out.size)⟩
          | false =>
            go_wp2_with (first
              | (go_at_call 17; (with_reducible refine (HFX.out _ HBW.out).mono ?_); rintro e w5 ⟨rfl, hb5⟩; have HV5 := Lib.hid (HBW.out.trans (hb5.mono HBW.out.size)); clear hb5)
              | (go_at_call 10; (with_reducible refine (HAW.out _).mono ?_); rintro e w6 ⟨rfl, hb6⟩; have HV6 := Lib.hid (HV5.out.trans (hb6.mono HV5.out.size)); clear hb6)
              | fail)
            go_ret
            exact ⟨rfl, HBA.out.trans (HV6.out.mono HBA.out.size)⟩
end Go.Proofs.YtfboilbmehcgoaaDoor
