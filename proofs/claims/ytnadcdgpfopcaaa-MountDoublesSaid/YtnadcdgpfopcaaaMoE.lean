/- A scan: note: what a page says is kept. -/
import Derived.Deep.RegionHeld3
import Derived.Deep.AppendLies
import Derived.Laws.Pointers
import Derived.Test.YtnadcdgpfopcaaaMoD
namespace Go.Proofs.Ytnadcdgpfopcaaa
open Go.RowKit

theorem wp_world {P : Program} {c : Code} {Q : Exit → Act → World → Prop} {a : Act} {w : World} (h : ∀ W, W = w → c.wp P Q a W) : c.wp P Q a w := h w rfl
section
variable {w w' : World} {s c cap : Nat} {x y Y F : Nat → Prop} {v : Value} {A : Option Addr} {M : MS} {S S' : LS}
/-- What note leaves. -/
def NotePost (s c : Nat) (x Y : Nat → Prop) (v : Value) (M' : MS) (w : World) (e : Ending) (w' : World) : Prop :=
  e = .returned (.tuple #[]) ∧ (∃ v' A' cap', ScanAt w' s c (fun b => Y b ∨ New w w' b) v' A' cap' M' ∧ ∀ b, x b → Far s (fun b => Y b ∨ New w w' b) v' A' M'.rd b) ∧ Turned (fun b => b = s ∨ v.ownBlock = some b) w w'
theorem note_none {M : MS} {sp : P2} {l : List UInt8} (h : NoSheet l) : M.note sp l = M := by unfold MS.note; rw [parseL_none h]
theorem note_some {M : MS} {sp : P2} {p q : Int} {d : List UInt8} (h : MayS p q d) : M.note sp (sheetL p.toNat q.toNat d) = if p = 0 ∧ M.rs < q then { M with fd := M.fd ++ [((p, q), sp)], rp := p, rs := q, rd := d } else { M with fd := M.fd ++ [((p, q), sp)] } := by unfold MS.note; rw [parseL_sheet h]
theorem ScanAt.same {Y' : Nat → Prop} (h : ScanAt w s c Y v A cap M) (hY : ∀ b, Y b ↔ Y' b) : ScanAt w s c Y' v A cap M := by
  obtain rfl : Y = Y' := funext fun b => propext (hY b)
  exact h
/-- The row of what was found has one more. -/
theorem ScanAt.found {V w7 : World} {gg n gcap : Nat} {o : Obj} (h : ScanAt V s c Y v A cap M) (f : Fd) (hg : (V.drew.alloc o).grownBy w7 v.ownBlock) (hn : M.fd.length = n) (hown : w7.ownsRow 0 49 4 (.slice (some ⟨gg, 0, none⟩) (n + 1) gcap) (n + 1) (fcells M.fd ++ fenc f)) (hat : v.ownBlock = some gg ∨ gg = V.heap.size + 1) (hlt : gg < w7.heap.size) (X : World) (hX : X = w7.setCell ⟨s, 4, none⟩ (.slice (some ⟨gg, 0, none⟩) (n + 1) gcap)) :
    ScanAt X s c (fun b => Y b ∨ New V X b) (.slice (some ⟨gg, 0, none⟩) (n + 1) gcap) A cap { M with fd := M.fd ++ [f] } ∧ Turned (fun b => b = s ∨ v.ownBlock = some b) V X ∧ (∀ b, b < V.heap.size → v.ownBlock ≠ some b → (Value.slice (some ⟨gg, 0, none⟩) (n + 1) gcap).ownBlock ≠ some b) := by
  have hsz : V.heap.size + 1 ≤ w7.heap.size := by have := hg.size; simpa using this
  have hXs : X.heap.size = w7.heap.size := by rw [hX]; simp
  have e1 : ∀ b, b < V.heap.size → v.ownBlock ≠ some b → w7.heap[b]? = V.heap[b]? := fun b hb hv => (hg.block b (by simp; omega) (Ne.symm hv)).trans (heap_alloc_oldX V.drew o hb)
  have e2 : ∀ b, b ≠ s → X.heap[b]? = w7.heap[b]? := fun b hb => by rw [hX]; exact Below.heap_setCell w7 ⟨s, 4, none⟩ _ b hb
  have hgs : gg ≠ s := by
    rcases hat with e | e
    · exact (h.vY gg e).2
    · have := h.lt; omega
  have ht : Turned (fun b => b = s ∨ v.ownBlock = some b) V X := ⟨by rw [hX]; exact hg.os, by rw [hX]; exact hg.tape, by rw [hX]; exact hg.output, by omega, fun i hi k => (e2 i fun e => k (.inl e)).trans (e1 i hi fun e => k (.inr e))⟩
  have hfar : ∀ b, b < V.heap.size → v.ownBlock ≠ some b → (Value.slice (some ⟨gg, 0, none⟩) (n + 1) gcap).ownBlock ≠ some b := fun b hb hv e => by
    have e' : gg = b := by simpa [Value.ownBlock] using e
    rcases hat with k | k
    · rw [e'] at k; exact hv k
    · omega
  refine ⟨⟨?_, ?_, ?_, ?_, .inl h.sY, fun g e => ?_⟩, ht, hfar⟩
  · have h0 : w7.heap[s]? = _ := (e1 s h.lt fun e => (h.vY s e).2 rfl).trans h.self
    rw [hX, heap_setCell_same w7 s 4 _ _ _ h0]
    rfl
  · exact h.chip.grow (ht.mono' fun b hb => hb.elim (fun e => by rw [e]; exact h.sY) fun e => (h.vY b e).1)
  · unfold FOwn
    rw [List.length_append, hn, fcells_app]
    have hk : w7.ownsRow 0 49 4 (.slice (some ⟨gg, 0, none⟩) (n + 1) gcap) (n + 1) (fcells M.fd ++ fcells [f]) := by
      rw [show fcells [f] = fenc f by simp [fcells]]
      exact hown
    exact own_keep hk fun k e => e2 k fun ek => hgs (by have : gg = k := (by simpa [Value.ownBlock] using e); omega)
  · refine h.data.keep (fun b hb => (e2 b hb.2.1).trans (e1 b (h.chip.there b hb.1) hb.2.2)) fun b hb => ⟨.inl hb.1, hb.2.1, hfar b (h.chip.there b hb.1) hb.2.2⟩
  · have e' : gg = g := by simpa [Value.ownBlock] using e
    subst e'
    refine ⟨?_, hgs⟩
    rcases hat with k | k
    · exact .inl (h.vY _ k).1
    · exact .inr ⟨by omega, by omega⟩
/-- The root is another one. -/
theorem ScanAt.root {X : World} {A5 : Option Addr} {c5 : Nat} {d : List UInt8} {p q : Int} (h : ScanAt X s c Y v A cap M) (hd : CB X (fun b => Y b ∧ b ≠ s ∧ v.ownBlock ≠ some b) A5 d) (Z : World) (hZ : Z = ((X.setCell ⟨s, 5, none⟩ (.int .i64 p)).setCell ⟨s, 6, none⟩ (.int .i64 q)).setCell ⟨s, 7, none⟩ (.slice A5 d.length c5)) :
    ScanAt Z s c Y v A5 c5 { M with rp := p, rs := q, rd := d } ∧ Turned (fun b => b = s) X Z ∧ Z.heap.size = X.heap.size := by
  have hs : Z.heap.size = X.heap.size := by rw [hZ]; simp
  have e2 : ∀ b, b ≠ s → Z.heap[b]? = X.heap[b]? := fun b hb => by
    rw [hZ]
    exact ((Below.heap_setCell _ ⟨s, 7, none⟩ _ b hb).trans (Below.heap_setCell _ ⟨s, 6, none⟩ _ b hb)).trans (Below.heap_setCell _ ⟨s, 5, none⟩ _ b hb)
  have ht : Turned (fun b => b = s) X Z := ⟨by rw [hZ]; rfl, by rw [hZ]; rfl, by rw [hZ]; rfl, by omega, fun i _ k => e2 i k⟩
  refine ⟨⟨?_, ?_, own_keep h.own fun k e => e2 k (h.vY k e).2, hd.keep (fun b hb => e2 b hb.2.1) fun _ hb => hb, h.sY, h.vY⟩, ht, hs⟩
  · rw [hZ, heap_setCell_same _ s 7 _ _ _ (heap_setCell_same _ s 6 _ _ _ (heap_setCell_same _ s 5 _ _ _ h.self))]
    rfl
  · exact (h.chip.grow (ht.mono' fun b hb => by rw [hb]; exact h.sY)).less fun _ k => .inl k
/-- Behind the append and its store. -/
def NoteMid (V : World) (v : Value) (s n : Nat) (news : List Value) (wx : World) : Prop :=
  ∃ (gg gcap : Nat) (w7 : World) (o : Obj), wx = w7.setCell ⟨s, 4, none⟩ (.slice (some ⟨gg, 0, none⟩) (n + 1) gcap) ∧ (V.drew.alloc o).grownBy w7 v.ownBlock ∧ w7.ownsRow 0 49 4 (.slice (some ⟨gg, 0, none⟩) (n + 1) gcap) (n + 1) news ∧ (v.ownBlock = some gg ∨ gg = V.heap.size + 1) ∧ gg < w7.heap.size
set_option maxRecDepth 100000 in
set_option maxHeartbeats 6000000 in
theorem m_note (sp : P2) (Ab : Option Addr) (cb : Nat) (l : List UInt8) (h : ScanAt w s c Y v A cap M) (hx : ∀ b, x b → Far s Y v A M.rd b) (hl : RB w w.heap.size Ab l) (hll : l.length ≤ 2000) (hfd : M.fd.length ≤ 5000) :
    Calls Try.prog 38 #[PtrV s, P2V sp, .slice Ab l.length cb] w (NotePost s c x Y v (M.note sp l) w) := by
  obtain ⟨i0, hi0, hz0, hs0, hy0⟩ := found_parts
  have HH := Lib.hid h
  have HX := Lib.hid hx
  have HL := Lib.hid (hl.alloc (Nat.le_refl _) (.cells #[.int .i64 sp.1, .int .i64 sp.2] 40))
  have HA0 := Lib.hid (heap_alloc_new w (.cells #[.int .i64 sp.1, .int .i64 sp.2] 40))
  have hfd2 := hfd
  have hs0' := h.lt
  clear h hx hl hfd
  go_enter Try.func38, Try.ntmps38
  go_upto_region 3 with (first
    | (go_at_call 54; (with_reducible refine (parse_sheet w.heap.size Ab _ l _ HL.out (by simp) (by omega)).mono ?_); rintro e w5 ⟨hb5, hpp⟩; have HB5 := Lib.hid (((Below.refl w.heap.size w).alloc (Nat.le_refl _) _).trans (hb5.mono (by simp))); have HA5 := Lib.hid ((hb5.block w.heap.size (by simp)).trans HA0.out); clear hb5; rcases hpp with ⟨pg, sq, A5, c5, d5, hl5, hm5, hr5, hn5, rfl⟩ | ⟨hn5, rfl⟩)
    | fail)
  · refine wp_world ?_
    intro V hV
    obtain ⟨g6, hg6⟩ : ∃ g6, g6 = w5.heap.size := ⟨_, rfl⟩
    obtain ⟨g0, hg0⟩ : ∃ g0, g0 = w.heap.size := ⟨_, rfl⟩
    have hz5 := HB5.out.size
    have HBV : Hid (Below w.heap.size w V) := Lib.hid (by rw [hV]; exact HB5.out.alloc hz5 _)
    have HV6 : Hid (V.heap[g6]? = some (.cells #[.int .i64 pg, .int .i64 sq, .slice A5 d5.length c5] 28 (0, 0))) := Lib.hid (by rw [hV, hg6]; exact heap_alloc_new w5 _)
    have HV0 : Hid (V.heap[g0]? = some (.cells #[.int .i64 sp.1, .int .i64 sp.2] 40 (0, 0))) := Lib.hid (by rw [hV, hg0]; exact (heap_alloc_oldX _ _ (lt_size HA5.out)).trans HA5.out)
    have HD : Hid (RB V V.heap.size A5 d5) := Lib.hid (by rw [hV]; exact (hr5.alloc (Nat.le_refl _) _).mono (by simp))
    have HN5 := Lib.hid hn5
    have hg06 : g0 < g6 := by rw [hg0, hg6]; have := lt_size HA5.out; omega
    have hsg0 : s < g0 := by rw [hg0]; exact hs0'
    rw [← hg6, ← hg0]
    have HG0 := Lib.hid hg0
    have hsv : ScanAt V s c (fun b => Y b ∨ New w V b) v A cap M := HH.out.grow (F := fun _ => False) (.of_below HBV.out) fun _ k => k.elim
    have HSV := Lib.hid hsv
    have k4 := hsv.parts.c4
    have k6 := hsv.parts.c6
    have kf := hsv.parts.fr
    have hown := hsv.own
    have a4 : v.ownBlock ≠ some s := fun e => (hsv.vY s e).2 rfl
    have av : ∀ g, v.ownBlock = some g → g < g0 := fun g e => by rw [hg0]; exact HH.out.vlt e
    have a6 : v.ownBlock ≠ some g6 := fun e => by have := av _ e; omega
    have a0 : v.ownBlock ≠ some g0 := fun e => by have := av _ e; omega
    have ls := hsv.lt
    have l6 := lt_size HV6.out
    have l0 := lt_size HV0.out
    obtain ⟨x0, x1, x2⟩ := cells3 HV6.out
    obtain ⟨y0, y1, -, -⟩ := cells2q HV0.out
    have kf4 := kf 4
    have AV := Lib.hid av
    have HM5 := Lib.hid hm5.out
    have HL5 := Lib.hid hl5.out
    obtain ⟨n, hn⟩ : ∃ n, M.fd.length = n := ⟨_, rfl⟩
    have hown' : V.ownsRow 0 49 4 v n (fcells M.fd) := by rw [← hn]; exact hown
    rw [hn] at hfd2
    have HNN := Lib.hid hn
    clear hV hg6 hg0 hr5 hn5 hsv hown av hm5 hl5 hn kf hz5
    go_cut [] (fun wx => NoteMid V v s n (fcells M.fd ++ [.int .i64 pg, .int .i64 sq, .int .i64 sp.1, .int .i64 sp.2]) wx)
    case first => as_aux_lemma =>
      go_region_law (first | (refine step_append_lies _ (by rfl) (.tmp 19) (.tmp 27) 45 (by rfl) 0 49 i0 _ 4 32 Try.underlying45 hi0 hz0 hs0 hy0 rfl (by omega) v n (fcells M.fd) (by rfl) ((hown'.alloc _).drew) ⟨V.heap.size, 0, none⟩ 1 1 [.int .i64 pg, .int .i64 sq, .int .i64 sp.1, .int .i64 sp.2] (by rfl) (by rfl) (World.news_of_block (cs := #[.int .i64 pg, .int .i64 sq, .int .i64 sp.1, .int .i64 sp.2]) (t := 49) (fr := (0, 0)) (heap_alloc_new V _)) (by simp [Value.oneCell']) (by omega) (by unfold maxLen; omega) (by omega) (by simp) (V.heap.size + 1) (by simp) ?_; intro gg gcap w7 hown1 hgrow hat hlt; have f7 : w7.frozen? ⟨s, 4, none⟩ = false := (World.frozen?_of_block (hgrow.block s (by simp; omega) (Ne.symm a4))).trans ((World.frozen?_of_block (heap_alloc_oldX V _ ls)).trans kf4); have e7 : w7.cell? ⟨s, 4, none⟩ = some v := (World.cell?_of_block (hgrow.block s (by simp; omega) (Ne.symm a4))).trans ((World.cell?_of_block (heap_alloc_oldX V _ ls)).trans k4)))
      all_goals
        go_wp2_with fail
        go_meet
        case rel => exact ⟨gg, gcap, w7, _, rfl, hgrow, hown1, hat, hlt⟩
    case rest =>
      obtain ⟨gg, gcap, w7, o7, hX, hgrow, hown1, hat, hlt⟩ := hcut
      obtain ⟨X, rfl⟩ : ∃ X : World, X = wc := ⟨_, rfl⟩
      obtain ⟨n1, n2, n3⟩ := HSV.out.found ((pg, sq), sp) hgrow HNN.out hown1 hat hlt X hX
      have N1 := Lib.hid n1
      have N2 := Lib.hid n2
      have N3 := Lib.hid n3
      have p5 := n1.parts.c5
      have p6 := n1.parts.c6
      have p7 := n1.parts.c7
      have q6 := (World.cell?_of_block (a := ⟨g6, 0, none⟩) (n2.block g6 l6 fun k => k.elim (fun e => by omega) a6)).trans x0
      have r6 := (World.cell?_of_block (a := ⟨g6, 1, none⟩) (n2.block g6 l6 fun k => k.elim (fun e => by omega) a6)).trans x1
      have t6 := (World.cell?_of_block (a := ⟨g6, 2, none⟩) (n2.block g6 l6 fun k => k.elim (fun e => by omega) a6)).trans x2
      have kf := n1.parts.fr
      have kf5 := kf 5
      have kf6 := kf 6
      have kf7 := kf 7
      have HEND : Hid (Below w.heap.size w V) := HBV
      simp only at p5 p6 p7
      clear hX n1 n2 n3 hgrow hown1 hat hlt kf x0 x1 x2 y0 y1 k4 k6 kf4 hfd2
      have HXV : Hid (V.heap.size ≤ X.heap.size) := Lib.hid N2.out.size
      have hYY : ∀ Z : World, Z.heap.size = X.heap.size → ∀ b, ((Y b ∨ New w V b) ∨ New V X b) ↔ (Y b ∨ New w Z b) := fun Z hZ b => by
        have h1 := HBV.out.size
        have h2 := HXV.out
        unfold New
        rw [hZ]
        constructor
        · rintro ((k | k) | k)
          · exact .inl k
          · exact .inr ⟨k.1, by omega⟩
          · exact .inr ⟨by omega, k.2⟩
        · rintro (k | k)
          · exact .inl (.inl k)
          · rcases Nat.lt_or_ge b V.heap.size with k2 | k2
            · exact .inl (.inr ⟨k.1, k2⟩)
            · exact .inr ⟨k2, k.2⟩
      have HYY := Lib.hid hYY
      have htt : ∀ Z : World, Turned (fun b => b = s) X Z → Turned (fun b => b = s ∨ v.ownBlock = some b) w Z := fun Z hZ =>
        ((Turned.of_below HBV.out).trans N2.out fun _ _ k => k).trans hZ fun _ _ k => .inl k
      have HTT := Lib.hid htt
      have hxf : ∀ b, x b → b < w.heap.size ∧ b < V.heap.size ∧ (Value.slice (some ⟨gg, 0, none⟩) (n + 1) gcap).ownBlock ≠ some b := fun b hb => by
        have h0 := HH.out.chip.there b (HX.out b hb).1
        have h1 := HBV.out.size
        exact ⟨h0, by omega, N3.out b (by omega) (HX.out b hb).2.2.1⟩
      have HXF := Lib.hid hxf
      have hda : CB X (fun b => ((Y b ∨ New w V b) ∨ New V X b) ∧ b ≠ s ∧ (Value.slice (some ⟨gg, 0, none⟩) (n + 1) gcap).ownBlock ≠ some b) A5 d5 := fun h0 => by
        obtain ⟨ad, e, hb, hc⟩ := HD.out h0
        have h1 := HN5.out ad e
        have h2 : w.heap.size + 1 ≤ ad.block := by simpa using h1
        have h3 : v.ownBlock ≠ some ad.block := fun k => by have := HH.out.vlt k; omega
        exact ⟨ad, e, ⟨.inl (.inr ⟨by omega, hb⟩), by omega, N3.out _ hb h3⟩, fun j hj => (World.cell?_of_block (by rw [block_add]; exact N2.out.block _ hb fun k => k.elim (fun k => by omega) h3)).trans (hc j hj)⟩
      have HDA := Lib.hid hda
      clear hYY htt hxf hda
      by_cases hp : pg = 0
      · subst hp
        by_cases hq : M.rs < sq
        · have HEQ : Hid (M.note sp l = { M with fd := M.fd ++ [((0, sq), sp)], rp := 0, rs := sq, rd := d5 }) := Lib.hid (by rw [HL5.out, note_some HM5.out, if_pos ⟨rfl, hq⟩])
          go_upto_region 4 with fail
          go_quiet (fail)
          go_wp2_with fail
          refine bodyPost_end (results_none rfl _ _ _) rfl ?_
          have hXN := drewN_below (Below.refl X.heap.size X) nq
          obtain ⟨r1, r2, r3⟩ := (N1.out.grow (F := fun _ => False) (.of_below hXN) fun _ k => k.elim).root (p := 0) (q := sq) (c5 := c5) (HDA.out.keep (fun b hb => hXN.block b (N1.out.chip.there b hb.1)) fun _ hb => ⟨.inl hb.1, hb.2⟩) _ rfl
          rw [HEQ.out]
          refine ⟨rfl, ⟨_, _, _, (r1.same fun b => ⟨fun k => k.elim id fun k => by have := k.1; have := k.2; simp at this; omega, .inl⟩).same (HYY.out _ (by rw [r3]; simp)), fun b hb => ?_⟩, HTT.out _ ((Turned.of_below hXN).trans r2 fun _ _ k => k)⟩
          obtain ⟨z1, z2, z3⟩ := HXF.out b hb
          exact ⟨.inl (HX.out b hb).1, (HX.out b hb).2.1, z3, fun _ ad e eb => by have := HN5.out ad e; simp at this; omega⟩
        · have HEQ : Hid (M.note sp l = { M with fd := M.fd ++ [((0, sq), sp)] }) := Lib.hid (by rw [HL5.out, note_some HM5.out, if_neg fun k => hq k.2])
          go_upto_region 4 with fail
          go_quiet (fail)
          go_wp2_with fail
          refine bodyPost_end (results_none rfl _ _ _) rfl ?_
          have hXN := drewN_below (Below.refl X.heap.size X) nq
          have r1 := N1.out.grow (F := fun _ => False) (.of_below hXN) fun _ k => k.elim
          rw [HEQ.out]
          refine ⟨rfl, ⟨_, _, _, (r1.same fun b => ⟨fun k => k.elim id fun k => by have := k.1; have := k.2; simp at this; omega, .inl⟩).same (HYY.out _ (by simp)), fun b hb => ?_⟩, HTT.out _ (.of_below hXN)⟩
          obtain ⟨z1, z2, z3⟩ := HXF.out b hb
          exact ⟨.inl (HX.out b hb).1, (HX.out b hb).2.1, z3, (HX.out b hb).2.2.2⟩
      · have hp2 : (pg == 0) = false := by simpa using hp
        have HEQ : Hid (M.note sp l = { M with fd := M.fd ++ [((pg, sq), sp)] }) := Lib.hid (by rw [HL5.out, note_some HM5.out, if_neg fun k => hp k.1])
        go_upto_region 4 with fail
        go_quiet (fail)
        go_wp2_with fail
        refine bodyPost_end (results_none rfl _ _ _) rfl ?_
        have hXN := drewN_below (Below.refl X.heap.size X) nq
        have r1 := N1.out.grow (F := fun _ => False) (.of_below hXN) fun _ k => k.elim
        rw [HEQ.out]
        refine ⟨rfl, ⟨_, _, _, (r1.same fun b => ⟨fun k => k.elim id fun k => by have := k.1; have := k.2; simp at this; omega, .inl⟩).same (HYY.out _ (by simp)), fun b hb => ?_⟩, HTT.out _ (.of_below hXN)⟩
        obtain ⟨z1, z2, z3⟩ := HXF.out b hb
        exact ⟨.inl (HX.out b hb).1, (HX.out b hb).2.1, z3, (HX.out b hb).2.2.2⟩
  · have hB : Below w.heap.size w (w5.alloc (.cells #[.int .i64 0, .int .i64 0, .slice none 0 0] 28)) := HB5.out.alloc HB5.out.size _
    refine bodyPost_ret (results_none rfl _ _ _) rfl ⟨rfl, ⟨v, A, cap, ?_, fun b hb => ?_⟩, .of_below hB⟩
    · rw [note_none hn5.out]
      exact HH.out.grow (F := fun _ => False) (.of_below hB) fun _ k => k.elim
    · rw [note_none hn5.out]
      exact ⟨.inl (HX.out b hb).1, (HX.out b hb).2⟩
end
end Go.Proofs.Ytnadcdgpfopcaaa
