/- BytesBack: what is written is read as it was, one behind the other; cut short it is an error; each number has one form. -/
import Derived.Test.YtmnaboeffdhhjaaStep
import Derived.Test.YtmnaboeffdhhjaaAwake
import Derived.Test.YtmnaboeffdhhjaaEnc
import Derived.Test.YtmnaboeffdhhjaaOpen
import Derived.Deep.RegionHeld3
import Derived.Deep.CutBlock
import Derived.Deep.DeepCutAuto
namespace Go.Proofs.Ytmnaboeffdhhjaa
open Go.RowKit

theorem info_int : (Try.prog.info? 3).map (fun i => (i.zero, i.size, i.bytes)) = some (some (.int .i64 0), 1, 8) := by kernel_rfl
/-- A number as the law takes it. -/
def xOf (z : Int) : Nat := ((IntKind.u64.wrap z).tmod 1099511627777).toNat
theorem xOf_eq (z : Int) : (IntKind.u64.wrap z).tmod 1099511627777 = (xOf z : Int) ∧ xOf z ≤ 1099511627776 := by
  obtain ⟨N, h1, h2⟩ := u64_tmod z 1099511627777 (by decide) (by decide)
  have h1' : (IntKind.u64.wrap z).tmod 1099511627777 = (N : Int) := h1
  unfold xOf
  rw [h1']
  exact ⟨by simp, by simp; omega⟩
/-- An int as a value, of a number. -/
def iv (n : Nat) : Value := .int .i64 (n : Int)
theorem row_form {w : World} {sv : Value} {l : List Int} (h : Row (Value.int .i64) w sv l) : ∃ A cap, sv = .slice A l.length cap ∧ ∀ j (h : j < l.length), ∃ b off, A = some ⟨b, off, none⟩ ∧ b < w.heap.size ∧ w.cell? ⟨b, off + j, none⟩ = some (.int .i64 l[j]) := by
  rcases h with ⟨rfl, rfl⟩ | ⟨ad, cap, rfl, hc⟩
  · exact ⟨_, _, rfl, fun j h => by simp at h⟩
  · refine ⟨_, _, rfl, fun j h => ?_⟩
    obtain ⟨e, hb⟩ := addr_plain (w := w) (ad := ad) (v := .int .i64 l[0]) (by simpa [Addr.add] using hc 0 (by omega))
    obtain ⟨b, off, s⟩ := ad
    obtain rfl : s = none := by simpa using e
    refine ⟨b, off, rfl, hb, ?_⟩
    have := hc j h
    by_cases hj : j = 0
    · subst hj; simpa [Addr.add] using this
    · simpa only [Addr.add, hj, if_false] using this
theorem rows_form {w : World} {sv : Value} {l : List (List UInt8)} (h : BRows w sv l) : ∃ A cap, sv = .slice A l.length cap ∧ ∀ j (h : j < l.length), ∃ b off A' c', A = some ⟨b, off, none⟩ ∧ b < w.heap.size ∧ w.cell? ⟨b, off + j, none⟩ = some (.slice A' l[j].length c') ∧ RB w w.heap.size A' l[j] ∧ l[j].length ≤ maxLen := by
  rcases h with ⟨rfl, rfl⟩ | ⟨ad, cap, rfl, hc⟩
  · exact ⟨_, _, rfl, fun j h => by simp at h⟩
  · refine ⟨_, _, rfl, fun j h => ?_⟩
    obtain ⟨A0, c0, h0, _⟩ := hc 0 (by omega)
    obtain ⟨e, hb⟩ := addr_plain (w := w) (ad := ad) (v := .slice A0 l[0].length c0) (by simpa [Addr.add] using h0)
    obtain ⟨b, off, s⟩ := ad
    obtain rfl : s = none := by simpa using e
    obtain ⟨A', c', h1, h2, h3, h4⟩ := hc j h
    refine ⟨b, off, A', c', rfl, hb, ?_, h2, h4⟩
    by_cases hj : j = 0
    · subst hj; simpa [Addr.add] using h1
    · simpa only [Addr.add, hj, if_false] using h1
theorem RB.grownNe {w w' : World} {B : Nat} {A : Option Addr} {l : List UInt8} {row : Option Nat} (h : RB w B A l) (hg : w.grownBy w' row) (hB : B ≤ w.heap.size) (hne : ∀ ad, A = some ad → row ≠ some ad.block) : RB w' B A l := fun hn => by
  obtain ⟨ad, e, hb, hc⟩ := h hn
  exact ⟨ad, e, hb, fun j hj => (World.cell?_of_block (hg.block _ (by rw [block_add]; omega) (by rw [block_add]; exact fun e' => hne ad e e'.symm))).trans (hc j hj)⟩
/-- What the law has made of the first numbers: their bytes, and they in a row. -/
def Made (W : World) (xs : List Nat) (ys : List (List UInt8)) (bv wv : Value) (wr : World) : Prop :=
  ∃ (A q : Option Addr) (c cap : Nat) (L : List UInt8), bv = .slice A L.length c ∧ L.length ≤ c ∧ Hid (L = encN xs ++ encT ys) ∧ RB wr wr.heap.size A L ∧ wv = .slice q xs.length cap ∧ wr.ownsRow W.heap.size 3 1 (.slice q xs.length cap) xs.length (xs.map iv) ∧ (∀ ad, A = some ad → (Value.slice q xs.length cap).ownBlock ≠ some ad.block) ∧ Below W.heap.size W wr

/-- While it is read back: a reader at p that is at s; the bytes L, and the row of the numbers, lie there still, below K. -/
structure Ph (W : World) (K : Nat) (A q : Option Addr) (cap : Nat) (L : List UInt8) (xs : List Nat) (p B : Nat) (s : RS) (wr : World) : Prop where
  rd : RD 52 wr p B s.1 s.2
  rb : RB wr K A L
  own : wr.ownsRow W.heap.size 3 1 (.slice q xs.length cap) xs.length (xs.map iv)
  far : ∀ g, (Value.slice q xs.length cap).ownBlock = some g → g < K
  hW : W.heap.size ≤ K
  hK : K ≤ p
  below : Below W.heap.size W wr
section
variable {W wr w' : World} {K : Nat} {A q : Option Addr} {cap : Nat} {L : List UInt8} {xs : List Nat} {p B : Nat} {s s' : RS}
theorem Ph.siz (h : Ph W K A q cap L xs p B s wr) : W.heap.size ≤ wr.heap.size ∧ K ≤ wr.heap.size ∧ p < wr.heap.size := by
  have h1 := h.rd.lt; have h2 := h.hW; have h3 := h.hK
  exact ⟨by omega, by omega, h1⟩
theorem Ph.keep (h : Ph W K A q cap L xs p B s wr) (hb : Below wr.heap.size wr w') : Ph W K A q cap L xs p B s w' :=
  { h with
    rd := h.rd.below hb
    rb := h.rb.below hb h.siz.2.1
    own := own_keep h.own fun g e => hb.block g (by have := h.far g e; have := h.siz; omega)
    below := h.below.trans (hb.mono h.siz.1) }
theorem Ph.drew (h : Ph W K A q cap L xs p B s wr) : Ph W K A q cap L xs p B s wr.drew := h.keep (Below.refl _ _).drew
theorem Ph.step (h : Ph W K A q cap L xs p B s wr) (hs : Stepped 52 p B s' wr w') : Ph W K A q cap L xs p B s' w' :=
  { h with
    rd := hs.1
    rb := h.rb.keep fun b hb => hs.2.block b (by have := h.siz; omega) (by have := h.hK; omega)
    own := own_keep h.own fun g e => hs.2.block g (by have := h.far g e; have := h.siz; omega) (by have := h.far g e; have := h.hK; omega)
    below := h.below.trans (hs.2.below (by have := h.hW; have := h.hK; omega) h.siz.1) }
theorem Ph.arg (h : Ph W K A q cap L xs p B s wr) {A' : Option Addr} {t : List UInt8} (hr : RB W W.heap.size A' t) : RB wr W.heap.size A' t := hr.below h.below (Nat.le_refl _)
end
theorem own_at {W : World} {b : Nat} {e : TypeId} {q : Option Addr} {n cap k : Nat} {xs : List Value} (h : W.ownsRow b e 1 (.slice q n cap) n xs) (hk : k < n) : ∃ g, q = some ⟨g, 0, none⟩ ∧ W.cell? ⟨g, k, none⟩ = xs[k]? := by
  obtain ⟨g, cap', hv, _, _⟩ := h.form (by omega)
  have hq : q = some ⟨g, 0, none⟩ := by injection hv
  subst hq
  exact ⟨g, rfl, h.cellAt k (by omega)⟩
theorem new_len (B : Nat) (A : Option Addr) (c m : Nat) (l : List UInt8) (w : World) (hm : m = l.length) (h : RB w B A l) (hB : B ≤ w.heap.size) (hl : l.length ≤ 70368744177664) :
    Calls Try.prog 14 #[.slice A m c] w (NewRD w l) := by
  subst hm
  exact new_any B A c l w h hB hl

set_option maxRecDepth 100000 in
set_option maxHeartbeats 4000000 in
theorem back_any (sv tv : Value) (ns : List Int) (ts : List (List UInt8)) (cut : Int) (w : World) (h : Row (Value.int .i64) w sv ns) (hn : ns.length ≤ maxLen) (h' : BRows w tv ts) (hl' : ts.length ≤ maxLen) :
    Calls Try.prog 5 #[sv, tv, .int .i64 cut] w (Holds w) := by
  unfold maxLen at hn hl'
  obtain ⟨An, cn, rfl, hns⟩ := row_form h
  obtain ⟨At, ct, rfl, hts⟩ := rows_form h'
  clear h h'
  by_cases hlong : 30 < ns.length
  · go_enter Try.func5, Try.ntmps5
    go_wp2_with (go_at_call 9; refine (awake_any _).mono ?_; rintro e w1 ⟨rfl, hb⟩)
    go_ret
    exact ⟨rfl, hb⟩
  by_cases hlong' : 30 < ts.length
  · go_enter Try.func5, Try.ntmps5
    go_wp2_with (go_at_call 9; refine (awake_any _).mono ?_; rintro e w1 ⟨rfl, hb⟩)
    go_ret
    exact ⟨rfl, hb⟩
  obtain ⟨i0, hi, hz0, hz1, hz2⟩ := info_parts info_int
  go_enter Try.func5, Try.ntmps5
  go_upto_block 0 with fail
  go_cut [7, 8] (fun bv wv wx => Made w (ns.map xOf) [] bv wv wx)
  case first => as_aux_lemma =>
    --DONE{
    go_wp2_with fail
    go_loopw [7, 8, 10, 31] (fun bv wv _ i wr => ∃ k : Nat, k ≤ ns.length ∧ i = .int .i64 k ∧ Made w ((ns.take k).map xOf) [] bv wv wr) (fun _ _ _ i _ => ns.length - (intOf i).toNat)
    case atStart => exact ⟨0, Nat.zero_le _, rfl, none, none, 0, 0, [], rfl, Nat.le_refl _, rfl, .nil, rfl, World.ownsRow_nil _ _ _ _, fun _ e => (by cases e), Below.refl _ _⟩
    case round =>
      obtain ⟨k, hk, rfl, A, q, c, cap, L, rfl, hc, hL, hr, rfl, hown, hne, hb⟩ := hrel
      by_cases hlt : k < ns.length
      · obtain ⟨bb, off, rfl, hbb, hx0⟩ := hns k hlt
        have hc0 : wr.cell? ⟨bb, off + k, none⟩ = some (.int .i64 ns[k]) := (hb.cell (p := ⟨bb, off + k, none⟩) hbb).trans hx0
        obtain ⟨e1, e2⟩ := xOf_eq ns[k]
        have hmap := Lib.hid (show (ns.take (k + 1)).map xOf = (ns.take k).map xOf ++ [xOf ns[k]] by rw [List.take_succ_eq_append_getElem hlt, List.map_append]; rfl)
        have hlen := Lib.hid (show ((ns.take k).map xOf).length = k by simp; omega)
        rw [hlen.out] at hown hne ⊢
        have Hsz : Hid (L.length ≤ 70368744177664) := by
          show _ ≤ _
          rw [hL.out]
          have h1 := encN_len ((ns.take k).map xOf) fun y hy => by
            obtain ⟨z, _, rfl⟩ := List.mem_map.1 hy
            exact (xOf_eq z).2
          rw [hlen.out] at h1
          rw [List.length_append]
          have h2 : (encT []).length = 0 := rfl
          omega
        generalize (ns.take k).map xOf = xs at hown hL hmap hlen
        generalize ns[k] = z at hc0 hx0 e1 e2 hmap
        generalize xOf z = x at e1 e2 hmap
        have hs := hb.size
        have hsz : L.length ≤ 70368744177664 := Hsz.out
        have hkk : k ≤ 30 := by omega
        go_wp2_with (first | (at_builtin; refine wpList_append_own_at _ rfl _ _ 41 rfl w.heap.size 3 i0 _ 1 8 Try.underlying41 hi hz0 hz1 hz2 rfl (by decide) _ _ _ rfl (hown.alloc _) ⟨wr.heap.size, 0, none⟩ 1 1 [iv x] rfl rfl (cell_one_new wr (iv x) 3) (by intro u hu; obtain rfl : u = iv x := (by simpa using hu); rfl) (by unfold maxLen; omega) (by omega) (by simp; omega) ?_; intro v' w2 hown' hg2 _ hob; go_frame) | fail)
        obtain ⟨q2, cap2, rfl, _⟩ := own_slice hown'
        have hs2 : wr.heap.size + 1 ≤ w2.heap.size := by have := hg2.size; simpa using this
        have hb2 := (hb.alloc hs _).grown hg2 (by simp; omega) fun j e => (hown.lt j e).1
        have hr2 : RB w2 w2.heap.size A L := ((hr.alloc (Nat.le_refl _) (.cells #[.int .i64 (x : Int)] 3)).grownNe hg2 (by simp) fun ad e => hne ad e).mono (by omega)
        refine (number_made w2.heap.size A c L x _ hr2 (Nat.le_refl _) hsz).mono ?_
        rintro e w3 ⟨A3, c3, L3, rfl, hL3, hc3, hr3, hn3, hb3⟩
        have hown3 : w3.ownsRow w.heap.size 3 1 (.slice q2 (k + 1) cap2) (k + 1) ((xs ++ [x]).map iv) := by
          have := own_keep hown' fun g e => hb3.block g (hown'.lt g e).2
          simpa using this
        have hne3 : ∀ ad, A3 = some ad → (Value.slice q2 (k + 1) cap2).ownBlock ≠ some ad.block := fun ad e e' => by
          have h1 := hn3 ad e
          have h2 := (hown'.lt _ e').2
          omega
        have hL3' : Hid (L3 = encN (xs ++ [x]) ++ encT []) := by
          show _ = _
          rw [hL3.out, hL.out, heldW_nat x e2]
          simp [encN, encT]
        have hb4 := hb2.trans (hb3.mono (by omega))
        clear hown' hg2 hob hr2 hb2 hb3 hown hr hb
        go_wp2
        go_roundw
        case rel =>
          refine ⟨k + 1, by omega, by go_num, ?_⟩
          rw [hmap.out]
          exact ⟨A3, q2, c3, cap2, L3, rfl, hc3, hL3', hr3, by simp [hlen.out], by simpa [hlen.out] using hown3, by simpa [hlen.out] using hne3, hb4⟩
        case measure => simp [intOf]; omega
      · obtain rfl : k = ns.length := by omega
        rw [List.take_length] at hown hne hL ⊢
        have hm : Made w (ns.map xOf) [] (.slice A L.length c) (.slice q (ns.map xOf).length cap) wr := ⟨A, q, c, cap, L, rfl, hc, hL, hr, rfl, hown, hne, hb⟩
        go_wp2
        go_meet
        case rel => exact hm
    --}DONE
  case rest =>
    obtain ⟨A, q, c, cap, L, rfl, hc, hL, hr, rfl, hown, hne, hb⟩ := hcut
    obtain ⟨w1, hw1⟩ : ∃ w1 : World, w1 = wc := ⟨_, rfl⟩
    subst hw1
    have hxs : ∀ x ∈ ns.map xOf, x ≤ 1099511627776 := fun y hy => by
      obtain ⟨z, _, rfl⟩ := List.mem_map.1 hy
      exact (xOf_eq z).2
    obtain ⟨xs, hxse⟩ : ∃ xs, xs = ns.map xOf := ⟨_, rfl⟩
    have hxl : xs.length = ns.length := by rw [hxse]; simp
    rw [← hxse] at hL hown hne hxs ⊢
    have Hxs := Lib.hid hxs
    have hxl30 : xs.length ≤ 30 := by omega
    clear hxse hns hxl hxs
    go_upto_block 2 with fail
    go_cut [7] (fun bv wx => Made w xs ts bv (.slice q xs.length cap) wx ∧ Hid (∀ t ∈ ts, t.length ≤ 300))
    case first => as_aux_lemma =>
      --DONE{
      go_wp2_with fail
      go_loopw [7, 12, 49] (fun bv _ i wr => ∃ k : Nat, k ≤ ts.length ∧ i = .int .i64 k ∧ Made w xs (ts.take k) bv (.slice q xs.length cap) wr ∧ Hid (∀ t ∈ ts.take k, t.length ≤ 300)) (fun _ _ i _ => ts.length - (intOf i).toNat)
      case atStart => exact ⟨0, Nat.zero_le _, rfl, ⟨A, q, c, cap, L, rfl, hc, hL, hr, rfl, hown, hne, hb⟩, fun t ht => by simp at ht⟩
      case round =>
        clear hown hne hb hr hL hc
        obtain ⟨k, hk, rfl, ⟨A, q', c, cap', L, rfl, hc, hL, hr, hwv, hown, hne, hb⟩, ht3⟩ := hrel
        cases hwv
        by_cases hlt : k < ts.length
        · obtain ⟨bb, off, A', c', rfl, hbb, hx0, hrt, htm⟩ := hts k hlt
          have hc0 := (hb.cell (p := ⟨bb, off + k, none⟩) hbb).trans hx0
          have hs := hb.size
          have hrt' := hrt.below hb (Nat.le_refl _)
          unfold maxLen at htm
          have hmore := Lib.hid (encT_more ts k hlt)
          have htk := Lib.hid (List.take_succ_eq_append_getElem hlt)
          have Hsz : L.length ≤ 9360 := by
            rw [hL.out]
            have h1 := encN_len xs Hxs.out
            have h2 := encT_len (ts.take k) ht3.out
            simp at h2 ⊢; omega
          generalize ts[k] = t at hc0 hx0 hrt hrt' htm hmore htk
          by_cases htl : 300 < t.length
          · go_wp2_with (go_at_call 9; refine (awake_any _).mono ?_; rintro e w3 ⟨rfl, hb3⟩)
            go_ret
            exact ⟨rfl, hb.trans (hb3.mono hs)⟩
          · go_wp2_with fail
            refine (text_made wr.heap.size A A' c c' L t _ hr (hrt'.mono hs) (Nat.le_refl _) (by omega) (by omega)).mono ?_
            rintro e w3 ⟨A3, c3, L3, rfl, hL3, hc3, hr3, hn3, hb3⟩
            have hown3 := own_keep hown fun g e => hb3.block g (hown.lt g e).2
            have hne3 : ∀ ad, A3 = some ad → (Value.slice q xs.length cap).ownBlock ≠ some ad.block := fun ad e e' => by
              have h1 := hn3 ad e
              have h2 := (hown.lt _ e').2
              omega
            have hL3' : Hid (L3 = encN xs ++ encT (ts.take (k + 1))) := by
              show _ = _
              rw [hL3.out, hL.out, heldW_nat t.length (by omega), hmore.out]
              simp [txt]
            have ht3' : Hid (∀ t ∈ ts.take (k + 1), t.length ≤ 300) := fun y hy => by
              rw [htk.out] at hy
              rcases List.mem_append.1 hy with h1 | h1
              · exact ht3.out y h1
              · obtain rfl : y = t := by simpa using h1
                omega
            have hb4 := hb.trans (hb3.mono hs)
            clear hown hb3 hr hb hrt' hrt
            go_wp2
            go_roundw
            case rel => exact ⟨k + 1, by omega, by go_num, ⟨A3, q, c3, cap, L3, rfl, hc3, hL3', hr3, rfl, hown3, hne3, hb4⟩, ht3'⟩
            case measure => simp [intOf]; omega
        · obtain rfl : k = ts.length := by omega
          rw [List.take_length] at hL ht3
          have hm : Made w xs ts (.slice A L.length c) (.slice q xs.length cap) wr := ⟨A, q, c, cap, L, rfl, hc, hL, hr, rfl, hown, hne, hb⟩
          go_wp2
          go_meet
          case rel => exact ⟨hm, ht3⟩
      --}DONE
    case rest =>
      clear hown hne hb hr hL hc
      obtain ⟨⟨A, q', c, cap', L, rfl, hc, hL, hr, hwv, hown, hne, hb⟩, ht3⟩ := hcut
      cases hwv
      obtain ⟨w2, hw2⟩ : ∃ w2 : World, w2 = wc := ⟨_, rfl⟩
      subst hw2
      have Hsz : L.length ≤ 9360 := by
        rw [hL.out]
        have h1 := encN_len xs Hxs.out
        have h2 := encT_len ts ht3.out
        simp; omega
      have hs := hb.size
      go_wp2_with fail
      refine (new_any w2.heap.size A c L _ hr (Nat.le_refl _) (by omega)).mono ?_
      rintro e w3 ⟨p, B, rfl, hp, hrd, hB, hb3⟩
      have hrd0 := hrd.lt
      have hph : Ph w w2.heap.size A q cap L xs p B (L, 0) w3 :=
        { rd := hrd
          rb := hr.below hb3 (Nat.le_refl _)
          own := own_keep hown fun g e => hb3.block g (hown.lt g e).2
          far := fun g e => (hown.lt g e).2
          hW := hs
          hK := hp
          below := hb.trans (hb3.mono hs) }
      clear hrd hB hb3 hown hne hb hr hp hrd0
      generalize w2.heap.size = K at hph hs
      go_upto_block 4 with fail
      go_cut [] (fun wx => Ph w K A q cap L xs p B (encT ts, 0) wx)
      case first => as_aux_lemma =>
        --DONE{
        go_wp2_with fail
        go_loopw [15, 16, 17, 65] (fun _ _ _ i wr => ∃ k : Nat, k ≤ xs.length ∧ i = .int .i64 k ∧ ∃ R, Hid (R = encN (xs.drop k) ++ encT ts) ∧ Ph w K A q cap L xs p B (R, 0) wr) (fun _ _ _ i _ => xs.length - (intOf i).toNat)
        case atStart => exact ⟨0, Nat.zero_le _, rfl, L, hL, hph⟩
        case round =>
          clear hph
          obtain ⟨k, hk, rfl, R, hR, hph⟩ := hrel
          by_cases hlt : k < xs.length
          · obtain ⟨g, rfl, hcx⟩ := own_at hph.own hlt
            have hx0 : wr.cell? ⟨g, k, none⟩ = some (.int .i64 xs[k]) := by rw [hcx]; simp [hlt, iv]
            have hx1 := Hxs.out xs[k] (List.getElem_mem hlt)
            have hxn := numL_len xs[k] (by omega)
            have hRd : Hid (R = numL xs[k] ++ (encN (xs.drop (k + 1)) ++ encT ts)) := by
              show _ = _
              rw [hR.out, encN_drop xs k hlt, List.append_assoc]
            have hLd : Hid (L = encN (xs.take k) ++ R) := by
              show _ = _
              rw [hL.out, hR.out, ← List.append_assoc]
              congr 1
              unfold encN
              rw [← List.flatMap_append, List.take_append_drop]
            clear hcx
            generalize xs[k] = x at hx0 hx1 hxn hRd
            obtain ⟨R2, hR2⟩ : ∃ R2, R2 = encN (xs.drop (k + 1)) ++ encT ts := ⟨_, rfl⟩
            obtain ⟨Pf, hPf⟩ : ∃ Pf, Pf = encN (xs.take k) := ⟨_, rfl⟩
            rw [← hR2] at hRd
            rw [← hPf] at hLd
            have hR2' := Lib.hid hR2
            clear hR2 hPf hR
            go_wp2_with (go_at_call 19; refine (left_any p B R 0 _ hph.rd).mono ?_; rintro e w4 ⟨rfl, rfl⟩)
            refine (number_any p B R 0 1099511627776 _ hph.rd).mono ?_
            rintro e w4 ⟨rfl, hst⟩
            have e4 : numStep (R, 0) 1099511627776 = ((x : Int), (R2, 0)) := by rw [hRd.out]; exact numStep_num x R2 _ (by omega) (by omega)
            rw [e4] at hst ⊢
            have hph4 := hph.step hst
            have hlen : R.length = (numL x).length + R2.length := by rw [hRd.out]; simp
            have hlen2 : L.length = Pf.length + R.length := by rw [hLd.out]; simp
            have i1 : (numL x).length + R2.length ≤ R.length := by omega
            have i2 : R.length ≤ (numL x).length + R2.length := by omega
            have i3 : Pf.length + R.length ≤ L.length := by omega
            have i4 : L.length ≤ Pf.length + R.length := by omega
            clear e4 hst hph hlen hlen2
            go_wp2_with (go_at_call 19; refine (left_any p B R2 0 _ hph4.rd).mono ?_; rintro e w5 ⟨rfl, rfl⟩)
            obtain ⟨lk, hlk⟩ : ∃ lk : Nat, (R.length : Int) - (R2.length : Int) = lk := ⟨R.length - R2.length, by omega⟩
            rw [hlk]
            have hlk1 : 1 ≤ lk := by omega
            have hlk6 : lk ≤ 6 := by omega
            have hlkn : Hid (lk = (numL x).length) := by show _ = _; omega
            have hsh := hph4.siz
            clear hlk
            go_cut [114] from 79 to 114 (fun v wx => v = .bool false ∧ Ph w K A (some ⟨g, 0, none⟩) cap L xs p B (R2, 0) wx)
            case first => as_aux_lemma =>
              obtain ⟨ad, rfl, _⟩ := hph4.rb (by omega)
              obtain ⟨o, ho⟩ : ∃ o : Nat, o = Pf.length := ⟨_, rfl⟩
              obtain ⟨f, hf⟩ : ∃ f : Nat, f = o + lk := ⟨_, rfl⟩
              have hco : ¬ c = o := by omega
              have hrbo : RB w4 K (some (ad.add o)) (numL x) := by
                have h1 := hph4.rb.drop (k := o) (by omega) hc
                rw [if_neg hco] at h1
                have h2 : (L.drop o).take lk = numL x := by
                  rw [hLd.out, ho, List.drop_left' rfl, hRd.out, List.take_left' hlkn.out.symm]
                rw [← h2]
                exact h1.take lk
              have hfo : f - o = (numL x).length := by rw [hf, ← hlkn.out]; omega
              have ks : (convert 22 9 (.slice (some (ad.add o)) (f - o) (c - o))).run Try.prog w4.drew = .ok (.string (strOf (numL x))) w4.drew := by rw [hfo]; exact run_str hrbo.drew _
              have s1 : IntKind.i64.wrap ((L.length : Int) - (R.length : Int)) = (o : Int) := by rw [IntWalk.i64_in _ (by omega)]; omega
              have s2 : IntKind.i64.wrap ((o : Int) + (lk : Int)) = (f : Int) := by rw [IntWalk.i64_in _ (by omega)]; omega
              have j1 : decide ((lk : Int) < 1) = false := decide_eq_false (by omega)
              have j2 : decide ((6 : Int) < (lk : Int)) = false := decide_eq_false (by omega)
              have j3 : decide (L.length < R.length) = false := decide_eq_false (by omega)
              have j4 : decide (R.length < lk) = false := decide_eq_false (by omega)
              have b0 : (0 : Int) ≤ (o : Int) := by omega
              have b1 : (o : Int) ≤ (f : Int) := by omega
              have b2 : (f : Int) ≤ (c : Int) := by omega
              have Hfo := Lib.hid hfo
              have Hph4 := Lib.hid hph4
              have Hrbo := Lib.hid hrbo
              clear hf ho hfo hph4 hrbo i1 i2 i3 i4 hsh hlk1 hlk6
              go_region_held (fun w' => (convert 22 9 (.slice (some (ad.add o)) (f - o) (c - o))).run Try.prog w' = .ok (.string (strOf (numL x))) w')
                (first
                  | exact ks
                  | (rw [Hfo.out]; exact run_str (Hrbo.out.drew.below hb5 Hph4.out.siz.2.1) _))
                (first
                  | (go_at_call 10; refine (number_fresh x _ (by omega)).mono ?_; rintro e5 w5 ⟨A5, c5, L5, rfl, hL5, hc5, hr5, _, hb5⟩; obtain rfl : L5 = numL x := hL5.out; have ks5 := run_str hr5 c5))
              all_goals
                go_wp2_with fail
                go_meet
                case rel => exact ⟨rfl, Hph4.out.drew.keep hb5⟩
            case rest =>
              obtain ⟨rfl, hph5⟩ := hcut
              go_wp2
              go_roundw
              case rel => exact ⟨k + 1, by omega, by go_num, R2, hR2', hph5⟩
              case measure => simp [intOf]; omega
          · obtain rfl : k = xs.length := by omega
            have hRd : Hid (R = encT ts) := by
              show _ = _
              rw [hR.out, List.drop_length]; rfl
            rw [hRd.out] at hph
            go_wp2
            go_meet
            case rel => exact hph
        --}DONE
      case rest =>
        clear hph
        obtain ⟨w3, hw3⟩ : ∃ w3 : World, w3 = wc := ⟨_, rfl⟩
        subst hw3
        go_upto_block 6 with fail
        go_cut [] (fun wx => Ph w K A q cap L xs p B ([], 0) wx)
        case first => as_aux_lemma =>
          go_wp2_with fail
          go_loopw [19, 118] (fun _ i wr => ∃ k : Nat, k ≤ ts.length ∧ i = .int .i64 k ∧ ∃ R, Hid (R = encT (ts.drop k)) ∧ Ph w K A q cap L xs p B (R, 0) wr) (fun _ i _ => ts.length - (intOf i).toNat)
          case atStart => exact ⟨0, Nat.zero_le _, rfl, _, rfl, hcut⟩
          case round =>
            clear hcut
            obtain ⟨k, hk, rfl, R, hR, hph⟩ := hrel
            by_cases hlt : k < ts.length
            · obtain ⟨bb, off, A', c', rfl, hbb, hx0, hrt, _⟩ := hts k hlt
              have hc0 := (hph.below.cell (p := ⟨bb, off + k, none⟩) hbb).trans hx0
              have htl := ht3.out ts[k] (List.getElem_mem hlt)
              have hRd : Hid (R = txt ts[k] ++ encT (ts.drop (k + 1))) := by
                show _ = _
                rw [hR.out, encT_drop ts k hlt]
              generalize ts[k] = t at hc0 hx0 hrt htl hRd
              obtain ⟨R2, hR2⟩ : ∃ R2, R2 = encT (ts.drop (k + 1)) := ⟨_, rfl⟩
              rw [← hR2] at hRd
              have hR2' := Lib.hid hR2
              have e4 : textStep (R, 0) 300 = (t, (R2, 0)) := by rw [hRd.out]; exact textStep_text t R2 _ (by omega) (by omega)
              have He4 := Lib.hid e4
              have ks := run_str (hph.arg hrt).drew c'
              have Hph := Lib.hid hph
              have Hrt0 := Lib.hid hrt
              clear hR2 hR e4 hrt hx0 hph
              go_upto_region 33 with fail
              go_cut [127] from 122 to 127 (fun v wx => v = .bool false ∧ Ph w K A q cap L xs p B (R2, 0) wx)
              case first => as_aux_lemma =>
                go_region_held (fun w' => (convert 22 9 (.slice A' t.length c')).run Try.prog w' = .ok (.string (strOf t)) w')
                  (first
                    | exact ks
                    | exact run_str (Hph5.out.arg Hrt0.out) c')
                  (first
                    | (go_at_call 17; refine (text_any p B R 0 300 _ Hph.out.drew.rd).mono ?_; rintro e5 w5 ⟨A5, c5, L5, rfl, hL5, hr5, _, hst5⟩; obtain rfl : L5 = t := hL5.out.trans (by rw [He4.out]); have ks5 := run_str hr5 c5; have hst6 : Stepped 52 p B (R2, 0) _ w5 := (by rw [He4.out] at hst5; exact hst5); have Hph5 := Lib.hid (Hph.out.drew.step hst6); clear hst5 hst6 hr5))
                all_goals
                  go_wp2_with fail
                  go_meet
                  case rel => exact ⟨rfl, Hph5.out⟩
              case rest =>
                obtain ⟨rfl, hph5⟩ := hcut
                go_wp2
                go_roundw
                case rel => exact ⟨k + 1, by omega, by go_num, R2, hR2', hph5⟩
                case measure => simp [intOf]; omega
            · obtain rfl : k = ts.length := by omega
              have hRd : Hid (R = []) := by
                show _ = _
                rw [hR.out, List.drop_length]; rfl
              rw [hRd.out] at hph
              go_wp2
              go_meet
              case rel => exact hph
        case rest =>
          have hph := hcut
          clear hcut
          by_cases hL0 : L.length = 0
          · have hL0' : ((L.length : Int) == 0) = true := by simp [hL0]
            clear hL0
            go_wp2_with (first | (go_at_call 20; refine (err_any p B _ _ _ hph.rd).mono ?_; rintro e w' ⟨rfl, rfl⟩) | (go_at_call 19; refine (left_any p B _ _ _ hph.rd).mono ?_; rintro e w' ⟨rfl, rfl⟩) | (go_at_call 9; refine (awake_any _).mono ?_; rintro e w10 ⟨rfl, hb10⟩))
            go_ret
            exact ⟨rfl, hph.below.trans (hb10.mono hph.siz.1)⟩
          · have hL0' : ((L.length : Int) == 0) = false := by simp; exact fun e => hL0 (by rw [e]; rfl)
            have hLp : 0 < L.length := by omega
            have hLi : (1 : Int) ≤ (L.length : Int) := by omega
            obtain ⟨C, hC, hC1⟩ := u64_tmod cut L.length hLp (by omega)
            obtain ⟨ad, rfl, _⟩ := hph.rb hLp
            have hCc : (C : Int) ≤ (c : Int) := by omega
            have Hph := Lib.hid hph
            go_wp2_with (first | (go_at_call 20; refine (err_any p B _ _ _ hph.rd).mono ?_; rintro e w' ⟨rfl, rfl⟩) | (go_at_call 19; refine (left_any p B _ _ _ hph.rd).mono ?_; rintro e w' ⟨rfl, rfl⟩) | fail)
            refine (new_len K (some ad) _ C (L.take C) _ (by simp; omega) (Hph.out.rb.take C) Hph.out.siz.2.1 (by simp; omega)).mono ?_
            rintro e w5 ⟨p2, B2, rfl, hp2, hrd2, hB2, hb5⟩
            have hph2 : Ph w K (some ad) q cap L xs p2 B2 (L.take C, 0) w5 :=
              { Hph.out.keep hb5 with
                rd := hrd2
                hK := Nat.le_trans Hph.out.siz.2.1 hp2 }
            have hcu : Cutt (encN xs ++ encT ts) (L.take C, 0) := by
              rw [← hL.out]; exact cut_start L C hC1
            have hcu0 : Hid (∃ s : RS, Cutt (encN xs ++ encT ts) s ∧ Ph w K (some ad) q cap L xs p2 B2 s w5) := ⟨_, hcu, hph2⟩
            clear hcu hph2 hb5 hrd2 hp2 hB2 hC hCc hC1 Hph hph hLi hLp hL0' hL0
            go_upto_block 8 with fail
            go_cut [] (fun wx => ∃ s : RS, Cutt (encT ts) s ∧ Ph w K (some ad) q cap L xs p2 B2 s wx)
            case first => as_aux_lemma =>
              go_wp2_with fail
              go_loopw [153] (fun i wr => ∃ k : Nat, k ≤ xs.length ∧ i = .int .i64 k ∧ ∃ s : RS, Cutt (encN (xs.drop k) ++ encT ts) s ∧ Ph w K (some ad) q cap L xs p2 B2 s wr) (fun i _ => xs.length - (intOf i).toNat)
              case atStart => exact ⟨0, Nat.zero_le _, rfl, hcu0.out⟩
              case round =>
                clear hcu0
                obtain ⟨k, hk, rfl, s, hcu, hph⟩ := hrel
                by_cases hlt : k < xs.length
                · have hx1 := Hxs.out xs[k] (List.getElem_mem hlt)
                  rw [encN_drop xs k hlt, List.append_assoc] at hcu
                  have hcu2 := Lib.hid (cut_num hcu hx1)
                  clear hcu hx1
                  go_wp2_with fail
                  refine (number_any p2 B2 s.1 s.2 1099511627776 _ hph.rd).mono ?_
                  rintro e5 w6 ⟨rfl, hst⟩
                  have hph3 := hph.step hst
                  clear hst hph
                  go_wp2
                  go_roundw
                  case rel => exact ⟨k + 1, by omega, by go_num, _, hcu2.out, hph3⟩
                  case measure => simp [intOf]; omega
                · obtain rfl : k = xs.length := by omega
                  rw [List.drop_length] at hcu
                  have hend : Hid (∃ s : RS, Cutt (encT ts) s ∧ Ph w K (some ad) q cap L xs p2 B2 s wr) := ⟨s, hcu, hph⟩
                  clear hcu hph
                  go_wp2
                  go_meet
                  case rel => exact hend.out
            case rest =>
              obtain ⟨w6, hw6⟩ : ∃ w6 : World, w6 = wc := ⟨_, rfl⟩
              subst hw6
              clear hcu0
              go_upto_block 10 with fail
              go_cut [] (fun wx => ∃ s : RS, Cutt [] s ∧ Ph w K (some ad) q cap L xs p2 B2 s wx)
              case first => as_aux_lemma =>
                go_wp2_with fail
                go_loopw [160] (fun i wr => ∃ k : Nat, k ≤ ts.length ∧ i = .int .i64 k ∧ ∃ s : RS, Cutt (encT (ts.drop k)) s ∧ Ph w K (some ad) q cap L xs p2 B2 s wr) (fun i _ => ts.length - (intOf i).toNat)
                case atStart => exact ⟨0, Nat.zero_le _, rfl, hcut⟩
                case round =>
                  clear hcut
                  obtain ⟨k, hk, rfl, s, hcu, hph⟩ := hrel
                  by_cases hlt : k < ts.length
                  · have hx1 := ht3.out ts[k] (List.getElem_mem hlt)
                    rw [encT_drop ts k hlt] at hcu
                    have hcu2 := Lib.hid (cut_txt hcu hx1)
                    clear hcu hx1
                    go_wp2_with fail
                    refine (text_any p2 B2 s.1 s.2 300 _ hph.rd).mono ?_
                    rintro e5 w7 ⟨A7, c7, L7, rfl, _, _, _, hst⟩
                    have hph3 := hph.step hst
                    clear hst hph
                    go_wp2
                    go_roundw
                    case rel => exact ⟨k + 1, by omega, by go_num, _, hcu2.out, hph3⟩
                    case measure => simp [intOf]; omega
                  · obtain rfl : k = ts.length := by omega
                    rw [List.drop_length] at hcu
                    have hend : Hid (∃ s : RS, Cutt [] s ∧ Ph w K (some ad) q cap L xs p2 B2 s wr) := ⟨s, hcu, hph⟩
                    clear hcu hph
                    go_wp2
                    go_meet
                    case rel => exact hend.out
              case rest =>
                obtain ⟨⟨l2, er2⟩, hcu, hph⟩ := hcut
                obtain rfl : er2 = 5 := cut_end hcu
                clear hcu
                have e8 := numStep_err (l2, 5) 5 (by simp)
                go_wp2_with (first
                  | (go_at_call 20; refine (err_any p2 B2 _ _ _ hph.rd).mono ?_; rintro e w' ⟨rfl, rfl⟩)
                  | (go_at_call 15; refine (number_any p2 B2 l2 5 5 _ hph.rd).mono ?_; rintro e8 w8 ⟨rfl, hst⟩; rw [e8]; have hph8 := hph.step hst)
                  | (go_at_call 9; refine (awake_any _).mono ?_; rintro e w10 ⟨rfl, hb10⟩))
                go_ret
                exact ⟨rfl, hph8.below.trans (hb10.mono hph8.siz.1)⟩
end Go.Proofs.Ytmnaboeffdhhjaa
