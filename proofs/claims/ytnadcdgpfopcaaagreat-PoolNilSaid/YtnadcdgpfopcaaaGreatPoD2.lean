/- A pool: pages. -/
import Derived.Test.YtnadcdgpfopcaaaGreatPoD1
namespace Go.Proofs.YtnadcdgpfopcaaaGreat
open Go.RowKit

theorem wpList_append_at {P : Program} {w : World} {ops : Array Oper} {rest : List Oper} {o : Oper} {a : Act} {Q : Exit → Act → World → Prop} (hgd : o.guard = none) (s x : Operand) (t : TypeId)
    (ho : o.op = .call { callee := .builtin .append, args := #[s, x], argTypes := #[t, t] })
    (base : Nat) (e : TypeId) (i : TypeInfo) (z : Value) (size bytes : Nat) (ht : P.underlying t = some (.slice e)) (hi : P.info? e = some i) (hz : i.zero = some z)
    (hsize : i.size = size) (hby : i.bytes = bytes) (hzs : z.cells.size = size) (hsz : 0 < size)
    (v : Value) (n : Nat) (xs : List Value) (hs : a.eval s = v) (hown : w.ownsRow base e size v n xs)
    (ad : Addr) (m c : Nat) (news : List Value) (hx : a.eval x = .slice (some ad) m c) (hl : news.length = m * size) (hnews : ∀ j u, news[j]? = some u → w.cell? (ad.add j) = some u) (h1 : ∀ u ∈ news, u.oneCell' = true)
    (h63 : n + m ≤ maxLen) (hbytes : (n + m) * bytes ≤ 140737488355328) (hbase : base ≤ w.heap.size)
    (h : ∀ q cap w', w'.ownsRow base e size (.slice q (n + m) cap) (n + m) (xs ++ news) → w.grownBy w' v.ownBlock → ((Value.slice q (n + m) cap).ownBlock = v.ownBlock ∨ (Value.slice q (n + m) cap).ownBlock = some w.heap.size) → wpList P ops Q rest (a.put o.dst (.slice q (n + m) cap)) w') :
    wpList P ops Q (o :: rest) a w := by
  refine wpList_plain hgd fun _ hK => ?_
  obtain ⟨v', w', hr, h2, h3, _, h5⟩ := run_append_own_at (P := P) w base t o.type e i z size bytes ht hi hz hsize hby hzs hsz v n xs hown ad m c news hl hnews h1 h63 hbytes hbase
  obtain ⟨q, cap, rfl, _⟩ := own_slice h2
  unfold Oper.wp execOp
  simp only [ho, resolve, invoke, builtin, Sem.run_bind, Sem.run_pure, Result.andThen_ok, List.map_toArray, List.map_cons, List.map_nil, hs, hx, hr]
  exact hK _ _ (h q cap w' h2 h3 h5)
section
variable {w w' : World} {p c l f : Nat} {x y X Y Z : Nat → Prop} {Q Q1 : PS} {T : List Fd}
theorem turned_grown {row : Option Nat} (hg : w.grownBy w' row) : Turned (fun b => row = some b) w w' := ⟨hg.os, hg.tape, hg.output, hg.size, fun i hi hn => hg.block i hi fun e => hn e.symm⟩
/-- A row of pages of the call's own; their bytes lie in other new blocks. -/
def PgO (w : World) (base : Nat) (v : Value) (pg : List (List UInt8)) : Prop :=
  ∃ L : List Value, L.length = pg.length ∧ w.ownsRow base 34 1 v pg.length L ∧ ∀ j (h : j < pg.length) (h2 : j < L.length), ∃ Aj cj, L[j] = .slice Aj pg[j].length cj ∧ CB w (fun k => base ≤ k ∧ k < w.heap.size ∧ v.ownBlock ≠ some k) Aj pg[j]
theorem PgO.nil (w : World) (base : Nat) : PgO w base (.slice none 0 0) [] := ⟨[], rfl, World.ownsRow_nil _ _ _ _, fun _ h => absurd h (by simp)⟩
theorem PgO.move {base : Nat} {v : Value} {pg : List (List UInt8)} (h : PgO w base v pg) (ht : Turned (fun b => b < base) w w') : PgO w' base v pg := by
  obtain ⟨L, h1, h2, h3⟩ := h
  have hk : ∀ k, base ≤ k → k < w.heap.size → w'.heap[k]? = w.heap[k]? := fun k h4 h5 => ht.block k h5 (by omega)
  refine ⟨L, h1, own_keep h2 fun k e => hk k (h2.lt k e).1 (h2.lt k e).2, fun j hj hj2 => ?_⟩
  obtain ⟨Aj, cj, e, hc⟩ := h3 j hj hj2
  exact ⟨Aj, cj, e, hc.keep (fun b hb => hk b hb.1 hb.2.1) fun b hb => ⟨hb.1, Nat.lt_of_lt_of_le hb.2.1 ht.size, hb.2.2⟩⟩
theorem PgO.slice {base : Nat} {v : Value} {pg : List (List UInt8)} (h : PgO w base v pg) : (∃ A m, v = .slice A pg.length m) ∧ (∀ k, v.ownBlock = some k → base ≤ k ∧ k < w.heap.size) := by
  obtain ⟨L, h1, h2, h3⟩ := h
  obtain ⟨A, m, e, _⟩ := own_slice h2
  exact ⟨⟨A, m, e⟩, h2.lt⟩
theorem PgO.pgs {base : Nat} {A : Option Addr} {m : Nat} {pg : List (List UInt8)} (h : PgO w base (.slice A pg.length m) pg) : Pgs w (fun k => base ≤ k ∧ k < w.heap.size) A pg := fun hn => by
  obtain ⟨L, h1, h2, h3⟩ := h
  rcases h2.2 with ⟨_, e⟩ | ⟨g, cap, cur, e, _, hg, _⟩
  · omega
  · simp at e
    obtain ⟨rfl, rfl⟩ := e
    have hlt := h2.lt g rfl
    refine ⟨g, 0, rfl, hlt, fun j hj => ?_⟩
    obtain ⟨Aj, cj, e, hc⟩ := h3 j hj (by omega)
    refine ⟨Aj, cj, ?_, hc.mono fun k hk => ⟨hk.1, hk.2.1⟩⟩
    have := h2.cellAt j (by simpa using hj)
    rw [Nat.zero_add, this, ← e]
    simp [h1, hj]
/-- A page more. -/
theorem PgO.add {w3 : World} {base cb cap : Nat} {V : Value} {pg : List (List UInt8)} {L : List Value} {A : Option Addr} {bb : List UInt8} {q : Option Addr} (h1 : L.length = pg.length) (h3 : ∀ j (h : j < pg.length) (h2 : j < L.length), ∃ Aj cj, L[j] = .slice Aj pg[j].length cj ∧ CB w (fun k => base ≤ k ∧ k < w.heap.size ∧ V.ownBlock ≠ some k) Aj pg[j])
    (hc : CB w (fun k => base ≤ k ∧ k < w.heap.size ∧ V.ownBlock ≠ some k) A bb) (hown : w3.ownsRow base 34 1 (.slice q (pg.length + 1) cap) (pg.length + 1) (L ++ [.slice A bb.length cb])) (hg : w.grownBy w3 V.ownBlock) (hb : (Value.slice q (pg.length + 1) cap).ownBlock = V.ownBlock ∨ (Value.slice q (pg.length + 1) cap).ownBlock = some w.heap.size) : PgO w3 base (.slice q (pg.length + 1) cap) (pg ++ [bb]) := by
  have key : ∀ (Aj : Option Addr) (x : List UInt8), CB w (fun k => base ≤ k ∧ k < w.heap.size ∧ V.ownBlock ≠ some k) Aj x → CB w3 (fun k => base ≤ k ∧ k < w3.heap.size ∧ (Value.slice q (pg.length + 1) cap).ownBlock ≠ some k) Aj x := fun Aj x k => k.keep (fun b hb => hg.block b hb.2.1 fun e => hb.2.2 e.symm) fun b hb2 => ⟨hb2.1, Nat.lt_of_lt_of_le hb2.2.1 hg.size, by
    rcases hb with e | e
    · rw [e]; exact hb2.2.2
    · rw [e]; intro e'; cases e'; have := hb2.2.1; omega⟩
  refine ⟨L ++ [.slice A bb.length cb], by simp [h1], by simpa using hown, fun j hj hj2 => ?_⟩
  by_cases hl : j < L.length
  · obtain ⟨Aj, cj, e, k⟩ := h3 j (by omega) hl
    have e1 : (L ++ [Value.slice A bb.length cb])[j] = L[j] := List.getElem_append_left hl
    have e2 : (pg ++ [bb])[j] = pg[j]'(by omega) := List.getElem_append_left (by omega)
    rw [e1, e2]
    exact ⟨Aj, cj, e, key _ _ k⟩
  · have hj3 : j = L.length := by simp at hj2; omega
    subst hj3
    refine ⟨A, cb, by simp [h1], ?_⟩
    have e2 : (pg ++ [bb])[L.length]'hj = bb := by simp [h1]
    rw [e2]
    exact key _ _ hc
theorem safe_low {n : Nat} (h : Safe y w w') (hy : ∀ b, n ≤ b → b < w.heap.size → y b) : Turned (fun b => b < n) w w' := ⟨h.os, h.tape, h.output, h.size, fun i hi hn => h.block hi (hy i (Nat.le_of_not_lt hn) hi)⟩
theorem FLies.safe {A : Option Addr} {l : List Fd} (h : FLies w A l) (hs : Safe x w w') (hx : 0 < l.length → ∀ ad, A = some ad → x ad.block) : FLies w' A l := fun hn => by
  obtain ⟨B, o, e, hB, hc⟩ := h hn
  have hk := hs.block hB (hx hn _ e)
  have k : ∀ i, w'.cell? ⟨B, i, none⟩ = w.cell? ⟨B, i, none⟩ := fun i => World.cell?_of_block (a := ⟨B, i, none⟩) hk
  refine ⟨B, o, e, Nat.lt_of_lt_of_le hB hs.size, fun j hj => ?_⟩
  rw [k, k, k, k]; exact hc j hj
theorem pages_at (Q : PS) (acc : List (List UInt8)) (l : List Fd) {j : Nat} (hj : j < l.length) : Q.pages acc (l.drop j) = if (rdL Q.S l[j].2.1 l[j].2.2).2.1 = 0 then PS.pages { Q with S := (rdL Q.S l[j].2.1 l[j].2.2).2.2 } (acc ++ [(rdL Q.S l[j].2.1 l[j].2.2).1]) (l.drop (j + 1)) else ((rdL Q.S l[j].2.1 l[j].2.2).2.1, [], { Q with S := (rdL Q.S l[j].2.1 l[j].2.2).2.2 }) := by
  rw [List.drop_eq_getElem_cons hj]; rfl
theorem cells4f' {w : World} {p : Nat} {a b c d : Value} {t : TypeId} (hh : w.heap[p]? = some (.cells #[a, b, c, d] t (0, 0))) : w.cell? ⟨p, 0, none⟩ = some a ∧ w.cell? ⟨p, 1, none⟩ = some b ∧ w.cell? ⟨p, 2, none⟩ = some c ∧ w.cell? ⟨p, 3, none⟩ = some d := by
  simp [World.cell?, hh]
theorem page_info : ∃ i, Tryz.prog.info? 34 = some i ∧ i.zero = some (.slice none 0 0) ∧ i.size = 1 ∧ i.bytes = 24 := by
  obtain ⟨i, hi, hz, hs, hb⟩ := info_parts info_bytes
  exact ⟨i, hi, hz, hs, hb⟩
set_option maxRecDepth 100000 in
set_option maxHeartbeats 4000000 in
theorem q_pages (A : Option Addr) (m : Nat) (l : List Fd) (hlen : l.length ≤ 1000) (h : Pool w p c x Q) (hF : FLies w A l) (hx : 0 < l.length → ∀ ad, A = some ad → x ad.block) : Calls Tryz.prog 183 #[.pointer (some ⟨p, 0, none⟩), .slice A l.length m] w fun e w' => ∃ A' m', e = .returned (.tuple #[.slice A' (Q.pages [] l).2.1.length m', .int .i64 (Q.pages [] l).1]) ∧ Pgs w' (New w w') A' (Q.pages [] l).2.1 ∧ Pool w' p c (fun b => x b ∨ New w w' b) (Q.pages [] l).2.2 ∧ Safe x w w' := by
  obtain ⟨i0, hi0, hz0, hs0, hby0⟩ := page_info
  have HX := Lib.hid h.there
  have HP := Lib.hid h
  have HG := Lib.hid hF
  have HA := Lib.hid hx
  clear h hF hx
  go_enter Tryz.func183, Tryz.ntmps183
  go_wp2_with fail
  go_loopw [6, 9, 10, 13] (fun v6 _ _ v13 wr => ∃ j : Nat, j ≤ l.length ∧ v13 = .int .i64 j ∧ ∃ Q1 acc, acc.length = j ∧ PgO wr w.heap.size v6 acc ∧ Pool wr p c (fun b => x b ∨ New w wr b) Q1 ∧ Safe x w wr ∧ Q.pages [] l = Q1.pages acc (l.drop j)) (fun _ _ _ v13 _ => l.length - (intOf v13).toNat)
  case atStart => exact ⟨0, Nat.zero_le _, rfl, Q, [], rfl, .nil _ _, HP.out.less fun b k => k.elim id fun k => absurd k.2 (by have := k.1; omega), .refl _ _, rfl⟩
  case round =>
    obtain ⟨j, hj, rfl, Q1, acc, hacc, hO, hP, hS, hE⟩ := hrel
    have hsz := hS.size
    obtain ⟨⟨V, mv, rfl⟩, hVlt⟩ := hO.slice
    rw [hacc] at hO hVlt ⊢
    have HO := Lib.hid hO
    have HVlt := Lib.hid hVlt
    have HP1 := Lib.hid hP
    have HS := Lib.hid hS
    have HE := Lib.hid hE
    have HACC := Lib.hid hacc
    clear hO hP hS hE hVlt hacc
    by_cases hj1 : j < l.length
    · obtain ⟨B, o, rfl, hB, hc⟩ := (HG.out.safe HS.out HA.out) (by omega)
      obtain ⟨k0, k1, k2, k3⟩ := hc j hj1
      have HPA := Lib.hid (pages_at Q1 acc l hj1)
      clear hc
      generalize l[j] = fd at k0 k1 k2 k3 HPA
      obtain ⟨W, hW⟩ : ∃ W, wr.alloc (.cells #[.int .i64 fd.1.1, .int .i64 fd.1.2, .int .i64 fd.2.1, .int .i64 fd.2.2] 71) = W := ⟨_, rfl⟩
      have HBW : Hid (Below wr.heap.size wr W) := Lib.hid (by rw [← hW]; exact (Below.refl _ _).alloc (Nat.le_refl _) _)
      have HBX : Hid (W.heap[wr.heap.size]? = some (.cells #[.int .i64 fd.1.1, .int .i64 fd.1.2, .int .i64 fd.2.1, .int .i64 fd.2.2] 71 (0, 0))) := Lib.hid (by rw [← hW]; exact heap_alloc_new _ _)
      have HPW : Hid (Pool W p c (fun b => x b ∨ New w W b) Q1) := Lib.hid ((HP1.out.more HBW.out).less fun b k => by
        rcases k with k | ⟨k1, k2⟩
        · exact .inl (.inl k)
        · rcases Nat.lt_or_ge b wr.heap.size with e | e
          · exact .inl (.inr ⟨k1, e⟩)
          · exact .inr ⟨e, k2⟩)
      have hWs := HBW.out.size
      have hbx := lt_size HBX.out
      obtain ⟨l1, f1, hpt⟩ := HPW.out.parts
      have c0 := hpt.c0
      have HPT : Hid (∀ V, Pool V p c (fun b => x b ∨ New w W b) { Q1 with S := (rdL Q1.S fd.2.1 fd.2.2).2.2 } → V.cell? ⟨p, 0, none⟩ = some (.pointer (some ⟨c, 0, none⟩))) := Lib.hid fun V hV => by
        obtain ⟨l2, f2, k⟩ := hV.parts
        exact k.c0
      obtain ⟨b0, b1, b2, b3⟩ := cells4f' HBX.out
      clear hpt
      go_upto_region 5 with fail
      clear hW
      go_region_held3 (fun V => V.cell? ⟨p, 0, none⟩ = some (.pointer (some ⟨c, 0, none⟩)) ∧ V.cell? ⟨wr.heap.size, 2, none⟩ = some (.int .i64 fd.2.1) ∧ V.cell? ⟨wr.heap.size, 3, none⟩ = some (.int .i64 fd.2.2))
        (first | exact ⟨c0, b2, b3⟩ | exact HK2.out)
        (first
          | (go_at_call 59; (with_reducible refine (Pool.readc fd.2.1 fd.2.2 (HPW.out.below (Below.refl _ _).drew)).mono ?_); rintro e w2 ⟨A2, L2, rfl, hL2, hc2, h2, hs2⟩; have HP2 := Lib.hid h2; have HS2 : Hid (Safe (fun b => x b ∨ New w W b) W w2) := Lib.hid ((safe_of_below (Below.refl _ _).drew).then hs2); have HC2 := Lib.hid hc2; have hWd : W.drew.heap.size = W.heap.size := rfl; have HK2 : Hid (w2.cell? ⟨p, 0, none⟩ = some (.pointer (some ⟨c, 0, none⟩)) ∧ w2.cell? ⟨wr.heap.size, 2, none⟩ = some (.int .i64 fd.2.1) ∧ w2.cell? ⟨wr.heap.size, 3, none⟩ = some (.int .i64 fd.2.2)) := Lib.hid ⟨HPT.out w2 (HP2.out.less fun b k => .inl k), (World.cell?_of_block (a := ⟨wr.heap.size, 2, none⟩) (HS2.out.block hbx (.inr ⟨hsz, hbx⟩))).trans b2, (World.cell?_of_block (a := ⟨wr.heap.size, 3, none⟩) (HS2.out.block hbx (.inr ⟨hsz, hbx⟩))).trans b3⟩; clear h2 hs2 hc2))
      have hd2 := HS2.out.size
      have HW2 : Hid (Safe x w w2) := Lib.hid ((HS.out.then (safe_of_below HBW.out)).then' HS2.out fun b hb k => .inl k)
      have HP3 : Hid (Pool w2 p c (fun b => x b ∨ New w w2 b) { Q1 with S := (rdL Q1.S fd.2.1 fd.2.2).2.2 }) := Lib.hid (HP2.out.less fun b k => by
        rcases k with k | ⟨k1, k2⟩
        · exact .inl (.inl k)
        · rcases Nat.lt_or_ge b W.heap.size with e | e
          · exact .inl (.inr ⟨k1, e⟩)
          · exact .inr ⟨e, k2⟩)
      by_cases he : (rdL Q1.S fd.2.1 fd.2.2).2.1 = 0
      · rw [if_pos he] at HPA
        rw [he]
        have HO2 : Hid (PgO w2 w.heap.size (.slice V j mv) acc) := Lib.hid ((HO.out.move (Turned.of_below HBW.out)).move (safe_low HS2.out fun b k1 k2 => .inr ⟨k1, k2⟩))
        clear he
        obtain ⟨Lv, hl1, hown, hpg⟩ := HO2.out
        have HOw := Lib.hid hown
        have HPg := Lib.hid hpg
        have HL1 := Lib.hid hl1
        clear hown hpg hl1
        obtain ⟨W3, hW3⟩ : ∃ W3, w2.alloc (.cells #[.slice A2 L2.length L2.length] 34) = W3 := ⟨_, rfl⟩
        have HB3 : Hid (Below w2.heap.size w2 W3) := Lib.hid (by rw [← hW3]; exact (Below.refl _ _).alloc (Nat.le_refl _) _)
        have HX3 : Hid (W3.heap[w2.heap.size]? = some (.cells #[.slice A2 L2.length L2.length] 34 (0, 0))) := Lib.hid (by rw [← hW3]; exact heap_alloc_new _ _)
        have HCB3 : Hid (CB W3 (fun k => w.heap.size ≤ k ∧ k < W3.heap.size ∧ (Value.slice V j mv).ownBlock ≠ some k) A2 L2) := Lib.hid (HC2.out.keep (fun b hb => HB3.out.block b hb.2) fun b hb => ⟨by have := hb.1; omega, Nat.lt_of_lt_of_le hb.2 HB3.out.size, fun e => by have := HVlt.out b e; have := hb.1; omega⟩)
        have HO3 : Hid (PgO W3 w.heap.size (.slice V j mv) acc) := Lib.hid (HO2.out.move (Turned.of_below HB3.out))
        clear HO2 HOw HPg HL1 Lv
        obtain ⟨Lv, hl1, hown, hpg⟩ := HO3.out
        have hjl : acc.length = j := HACC.out
        rw [hjl] at hown
        have HOw := Lib.hid hown
        have HPg := Lib.hid hpg
        have HL1 := Lib.hid hl1
        have hw3 : w.heap.size ≤ W3.heap.size := by have := HB3.out.size; have := HW2.out.size; omega
        clear hown hpg hl1 hjl
        go_wp2_with (at_builtin; refine wpList_append_at rfl _ _ _ rfl w.heap.size 34 i0 _ 1 24 Tryz.underlying99 hi0 hz0 hs0 hby0 rfl (by decide) (.slice V j mv) j Lv rfl HOw.out ⟨w2.heap.size, 0, none⟩ 1 1 [.slice A2 L2.length L2.length] rfl rfl (fun k u hu => by cases k with | zero => (simp at hu; subst hu; simp [World.cell?, HX3.out, Addr.add]) | succ n => simp at hu) (fun u hu => by simp at hu; subst hu; rfl) (by unfold maxLen; omega) (by omega) hw3 ?_; intro q3 cap3 w4 hown4 hg4 hob4)
        have HG4 := Lib.hid hg4
        have HPG : Hid (PgO w4 w.heap.size (.slice q3 (j + 1) cap3) (acc ++ [L2])) := Lib.hid (by
          have h9 := PgO.add (cb := L2.length) (q := q3) (cap := cap3) (w3 := w4) HL1.out HPg.out HCB3.out (by rw [HACC.out]; exact hown4) hg4 (by rw [HACC.out]; exact hob4)
          rw [HACC.out] at h9; exact h9)
        have HT4 : Hid (Turned (New w W3) W3 w4) := Lib.hid ((turned_grown hg4).mono' fun b hb => by
          have := HVlt.out b hb
          have := HB3.out.size
          have := HW2.out.size
          exact ⟨by omega, by omega⟩)
        clear hown4 hg4 hob4
        go_roundw
        case rel =>
          have h6 : Pool W3 p c (fun b => x b ∨ New w W3 b) { Q1 with S := (rdL Q1.S fd.2.1 fd.2.2).2.2 } := (HP3.out.more HB3.out).less fun b k => by
            rcases k with k | ⟨k1, k2⟩
            · exact .inl (.inl k)
            · rcases Nat.lt_or_ge b w2.heap.size with e | e
              · exact .inl (.inr ⟨k1, e⟩)
              · exact .inr ⟨e, k2⟩
          have h7 := (h6.grow (HT4.out.mono' fun b k => .inr k)).less (y := fun b => x b ∨ New w w4 b) fun b k => by
            rcases k with k | ⟨k1, k2⟩
            · exact .inl (.inl k)
            · rcases Nat.lt_or_ge b W3.heap.size with e | e
              · exact .inl (.inr ⟨k1, e⟩)
              · exact .inr ⟨e, k2⟩
          have h8 : Safe x w w4 := (HW2.out.then (safe_of_below HB3.out)).then (HT4.out.mono' fun b k kx => by have := HX.out b kx; have := k.1; omega)
          have hLd : L2 = (rdL Q1.S fd.2.1 fd.2.2).1 := hL2.out
          exact ⟨j + 1, by omega, by go_num, _, acc ++ [L2], by simp [HACC.out], HPG.out, h7, h8, by rw [HE.out, HPA.out, hLd]⟩
        case measure => simp [intOf]; omega
      · have HZ : Hid (Q.pages [] l = ((rdL Q1.S fd.2.1 fd.2.2).2.1, [], { Q1 with S := (rdL Q1.S fd.2.1 fd.2.2).2.2 })) := Lib.hid (by rw [HE.out, HPA.out, if_neg he])
        obtain ⟨er, her⟩ : ∃ er, er = (rdL Q1.S fd.2.1 fd.2.2).2.1 := ⟨_, rfl⟩
        rw [← her] at he ⊢
        have HER := Lib.hid her
        clear her
        go_wp2_with fail
        go_ret2
        rw [HZ.out]
        exact ⟨none, 0, by rw [HER.out]; rfl, fun hn => absurd hn (by simp), HP3.out, HW2.out⟩
    · obtain rfl : j = l.length := by omega
      have HZ : Hid (Q.pages [] l = (0, acc, Q1)) := Lib.hid (by rw [HE.out, List.drop_length]; rfl)
      go_wp2_with fail
      go_ret2
      rw [HZ.out]
      refine ⟨V, mv, by show _ = Ending.returned (.tuple #[.slice V acc.length mv, .int .i64 0]); rw [HACC.out]; rfl, ?_, HP1.out, HS.out⟩
      have := HO.out
      rw [← HACC.out] at this
      exact this.pgs
end
end Go.Proofs.YtnadcdgpfopcaaaGreat
