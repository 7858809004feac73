/- slices.SortFunc at refs with their spots, by a closure that compares their spots. -/
import Derived.Shelf.SlSortCmp.WholeK
import Derived.Ground.SlsfProg
import Derived.Test.YtbebbnkolpgndaaPSortL
import Derived.Test.YtbebbnkolpgndaaFRow
import Derived.Test.YtbebbnkolpgndaaPSortMath
namespace Go.Proofs.Ytbebbnkolpgndaa
open Go.RowKit Go.Shelf Go.Lib Go.Sort

theorem FOwn.plain' {w : World} {base n c : Nat} {q : Option Addr} {l : List Fd} (h : FOwn w base (.slice q n c) l) : (q = none → l = [] ∧ c = 0) ∧ ∀ ad, q = some ad → ∃ B o, ad = ⟨B, o, none⟩ := by
  rcases h.2 with ⟨e, e2⟩ | ⟨g, cap, cur, e, _⟩
  · simp at e
    obtain ⟨rfl, rfl, rfl⟩ := e
    exact ⟨fun _ => ⟨List.length_eq_zero_iff.1 e2, rfl⟩, fun ad e => (by cases e)⟩
  · simp at e
    obtain ⟨rfl, rfl, rfl⟩ := e
    exact ⟨fun e => (by cases e), fun ad e => (by cases e; exact ⟨g, 0, rfl⟩)⟩
theorem holds_row {w : World} {base c : Nat} {A : Option Addr} {l : List Fd} {n : Nat} (h : FOwn w base (.slice A n c) l) (h0 : A ≠ none) : ∃ g, A = some ⟨g, 0, none⟩ ∧ base ≤ g ∧ g < w.heap.size ∧ HoldsK fenc 4 w g 0 l.toArray := by
  rcases h.2 with ⟨e, e2⟩ | ⟨g, cap, cur, e, hb, hg, hc, _, _, ht⟩
  · simp at e
    exact absurd e.1 h0
  · simp at e
    obtain ⟨rfl, rfl, rfl⟩ := e
    refine ⟨g, rfl, hb, lt_size hg, fun j hj => ⟨?_, by simp [World.frozen?, hg]⟩⟩
    rw [size_flatK] at hj
    have hj' : j < l.length * 4 := by simpa using hj
    rw [get_flatK _ _ _ _ hj]
    have h1 := fcells_at l (j / 4) (by omega) (j % 4) (Nat.mod_lt _ (by omega))
    rw [show j / 4 * 4 + j % 4 = j by omega, ← ht, List.getElem?_take_of_lt (by omega)] at h1
    have h2 : j < cur.size := by
      have h3 := congrArg List.length ht
      rw [List.length_take, fcells_len, Array.length_toList] at h3
      omega
    have h4 : l.toArray[j / 4]! = l[j / 4]'(by omega) := by
      rw [getElem!_pos _ _ (by simpa using (by omega : j / 4 < l.length))]
      simp
    rw [h4]
    have h5 : (fenc (l[j / 4]'(by omega))).length = 4 := rfl
    have h6 : j % 4 < (fenc (l[j / 4]'(by omega))).length := by rw [h5]; exact Nat.mod_lt _ (by omega)
    rw [List.getElem?_eq_getElem h6] at h1
    rw [getElem!_pos (fenc (l[j / 4]'(by omega))) (j % 4) h6]
    simp only [World.cell?, hg, Nat.zero_add]
    simpa using h1
theorem lies_of_holds {w : World} {g : Nat} {d : Array Fd} (h : HoldsK fenc 4 w g 0 d) (hg : g < w.heap.size) : FLies w (some ⟨g, 0, none⟩) d.toList := fun _ => by
  refine ⟨g, 0, rfl, hg, fun j hj => ?_⟩
  have hj' : j < d.size := by simpa using hj
  have key : ∀ r, r < 4 → w.cell? ⟨g, 0 + j * 4 + r, none⟩ = some (fenc d[j])[r]! := fun r hr => by
    have h1 := (h (j * 4 + r) (by rw [size_flatK]; omega)).1
    rw [get_flatK _ _ _ _ (by omega), show (j * 4 + r) / 4 = j by omega, show (j * 4 + r) % 4 = r by omega, getElem!_pos d j hj'] at h1
    rw [Nat.add_assoc]
    exact h1
  simp only [Array.getElem_toList]
  exact ⟨key 0 (by omega), key 1 (by omega), key 2 (by omega), key 3 (by omega)⟩
theorem lt_of {cf : Fd → Fd → Int} (hcf : ∀ x y, cf x y < 0 ↔ ltS x.2 y.2 = true) (x y : Fd) : ltOf cf x y = ltS x.2 y.2 := by
  unfold ltOf
  rw [Bool.eq_iff_iff, decide_eq_true_iff]
  exact hcf x y
theorem swo_of {cf : Fd → Fd → Int} (hcf : ∀ x y, cf x y < 0 ↔ ltS x.2 y.2 = true) : SWO (ltOf cf) where
  irrefl x := by rw [lt_of hcf]; simpa using lt_irr x.2
  trans x y z h1 h2 := by rw [lt_of hcf] at *; exact lt_tr h1 h2
  ntrans x y z h1 h2 := by
    rw [lt_of hcf] at *
    cases h3 : ltS x.2 z.2 with
    | false => rfl
    | true =>
      have g1 : ¬ ltS x.2 y.2 = true := by simp [h1]
      have g2 : ¬ ltS y.2 z.2 = true := by simp [h2]
      rw [lt_iff] at *
      omega
set_option maxHeartbeats 1000000 in
/-- The row is in order behind it. -/
theorem sort_any (g : Nat) (cf : Fd → Fd → Int) (hcf : ∀ x y, cf x y < 0 ↔ ltS x.2 y.2 = true) (hclo : ∀ (x y : Fd) (W : World), Calls Try.prog g #[.agg (fenc x).toArray, .agg (fenc y).toArray] W fun e w' => e = .returned (.int .i64 (cf x y)) ∧ ∃ q os', w' = grow (W.drewN q) os')
    (eg : ∀ args w, (callFunc g args).run Try.prog w = .ok (.enter g args) w) (hnone : ∀ (fv : Value) (w : World), Calls Try.prog 25 #[.slice none 0 0, fv] w fun e w' => e = .returned (.tuple #[]) ∧ w' = w)
    {w : World} {base c : Nat} {A : Option Addr} {l : List Fd} (h : FOwn w base (.slice A l.length c) l) (hl : l.length ≤ 1000000) :
    Calls Try.prog 25 #[.slice A l.length c, .func (.func g) #[] #[]] w fun e w' => e = .returned (.tuple #[]) ∧
      (∀ (n : Nat) (w0 : World), n ≤ base → Below n w0 w → Below n w0 w') ∧ ∃ l' : List Fd, l'.Perm l ∧ (∀ i j (hi : i < l'.length) (hj : j < l'.length), i < j → ltS l'[j].2 l'[i].2 = false) ∧ FLies w' A l' := by
  by_cases hA : A = none
  · subst hA
    obtain ⟨rfl, rfl⟩ := h.plain'.1 rfl
    refine (hnone _ w).mono ?_
    rintro e w' ⟨rfl, rfl⟩
    exact ⟨rfl, fun _ _ _ h => h, [], List.Perm.nil, fun i j hi => absurd hi (Nat.not_lt_zero _), fun hn => absurd hn (Nat.lt_irrefl _)⟩
  obtain ⟨b, rfl, hb, hlt, hH⟩ := holds_row h hA
  have hcon := AnyQ.slices_SortFunc Ytbebbnkolpgndaa.sortFd 4 (fun w => by kernel_rfl) (fun w => by kernel_rfl) fenc (fun _ => rfl) (fun x v hv => by simp [fenc] at hv; rcases hv with rfl | rfl | rfl | rfl <;> rfl) cf (swo_of hcf) g #[] b 0 c l.toArray w eg (fun _ _ _ _ x y => hclo x y _) hH hlt (by simp; omega)
  rw [List.size_toArray] at hcon
  change Calls Try.prog 25 _ _ _ at hcon
  refine hcon.mono ?_
  rintro e w' ⟨rfl, d', n, os, hp, hs, rfl⟩
  have hsz : d'.size = l.length := by simpa using hp.1
  have hHd : HoldsK fenc 4 (putRowK fenc 4 (Sort.ahead w n) b 0 d') b 0 d' := holdsK_putRowK fenc 4 (Sort.ahead w n) b 0 l.toArray d' (fun j hj => hH j hj) (by simpa using hsz)
  have hlt2 : b < (putRowK fenc 4 (Sort.ahead w n) b 0 d').heap.size := by rw [size_putRowK]; exact hlt
  refine ⟨rfl, fun m w0 hm hB => ?_, d'.toList, ?_, fun i j hi hj hij => ?_, ?_⟩
  · have h1 : Below m w0 (putRowK fenc 4 (Sort.ahead w n) b 0 d') := ⟨hB.os, hB.tape, hB.output, by rw [size_putRowK]; exact hB.size, fun k hk => by
      rw [← hB.block k hk]
      simp [putRowK, putRow, mapBlock, Sort.ahead, Array.getElem?_modify, show b ≠ k by omega]⟩
    have hm2 : m ≤ (putRowK fenc 4 (Sort.ahead w n) b 0 d').heap.size := by omega
    exact ⟨h1.os, h1.tape, h1.output, Nat.le_trans h1.size (by simp [sortWorldK, grow]), fun k hk => (heap_grow_old _ os (Nat.lt_of_lt_of_le hk hm2)).trans (h1.block k hk)⟩
  · have h2 := hp.2.2
    rw [show l.length = d'.size from hsz.symm, Array.extract_size, hsz] at h2
    simpa using h2
  · have h3 := hs i j (Nat.zero_le _) hij (by simpa [hsz] using hj)
    rw [lt_of hcf, getElem!_pos d' j (by simpa using hj), getElem!_pos d' i (by simpa using hi)] at h3
    simpa using h3
  · refine lies_of_holds (fun j hj => ?_) (by simpa [sortWorldK, grow] using Nat.lt_of_lt_of_le hlt2 (Nat.le_add_right _ _))
    obtain ⟨a1, a2⟩ := hHd j hj
    exact ⟨(cell?_grow _ os _ hlt2).trans a1, (frozen?_grow _ os _ hlt2).trans a2⟩
end Go.Proofs.Ytbebbnkolpgndaa
