/- Tables: all of them, sorted, are they; what Put and Cut leave: the mathematics. -/
import Derived.Test.YtbebbnkolpgndaaPlcLaw
namespace Go.Proofs.Ytbebbnkolpgndaa
open Go.RowKit

theorem insT_perm (l : List Fd) (f : Fd) : (insT l f).Perm (f :: l) := by
  unfold insT
  refine List.perm_middle.trans ?_
  rw [List.takeWhile_append_dropWhile]
theorem foldl_perm (T : List Fd) : ∀ l : List Fd, (T.foldl insT l).Perm (l ++ T) := by
  induction T with
  | nil => intro l; simp
  | cons f T ih =>
    intro l
    rw [List.foldl_cons]
    refine (ih _).trans ?_
    refine ((insT_perm l f).append_right T).trans ?_
    exact (List.perm_middle (l₁ := l) (a := f) (l₂ := T)).symm
theorem allT_perm (T : List Fd) : (allT T).Perm T := foldl_perm T []
theorem inT_perm (T : List Fd) (b : Int) : (inT T b).Perm (T.filter fun f => f.2.1 == b) := foldl_perm _ []
theorem put_len (T : List Fd) (r s : P2) : (putT T r s).length ≤ T.length + 1 := by
  unfold putT
  split
  · split
    · simp
    · simp
  · omega
/-- A call: what to do, a ref, a spot. -/
abbrev Cl := Int × P2 × P2
def putsT (l : List Cl) : List Fd := l.foldl (fun T c => putT T c.2.1 c.2.2) []
theorem puts_take {l : List Cl} {j : Nat} (h : j < l.length) : putsT (l.take (j + 1)) = putT (putsT (l.take j)) l[j].2.1 l[j].2.2 := by
  unfold putsT
  rw [List.take_succ_eq_append_getElem h, List.foldl_append]
  rfl
theorem foldl_len (l : List Cl) : ∀ T : List Fd, (l.foldl (fun T c => putT T c.2.1 c.2.2) T).length ≤ T.length + l.length := by
  induction l with
  | nil => intro T; simp
  | cons c l ih =>
    intro T
    rw [List.foldl_cons]
    have h1 := ih (putT T c.2.1 c.2.2)
    have h2 := put_len T c.2.1 c.2.2
    simp only [List.length_cons]
    omega
theorem puts_len (l : List Cl) : (putsT l).length ≤ l.length := by
  have := foldl_len l []
  simpa [putsT] using this
theorem hasR_iff (T : List Fd) (r : P2) : hasR T r = true ↔ ∃ f ∈ T, f.1 = r := by simp [hasR]
theorem hasR_cut (T : List Fd) (r : P2) : hasR (cutT T r) r = false := by
  cases e : hasR (cutT T r) r with
  | false => rfl
  | true =>
    obtain ⟨f, hf, h⟩ := (hasR_iff _ _).1 e
    simp [cutT] at hf
    exact absurd h hf.2
theorem cut_same {T : List Fd} {r : P2} (h : hasR T r = false) : cutT T r = T := by
  unfold cutT
  rw [List.filter_eq_self]
  intro f hf
  have : ¬ f.1 = r := fun e => by
    have := (hasR_iff T r).2 ⟨f, hf, e⟩
    rw [h] at this; cases this
  simpa using this
theorem atT_none {T : List Fd} {r : P2} (h : hasR T r = false) : atT T r = none := by
  unfold atT
  rw [Option.map_eq_none_iff, List.find?_eq_none]
  intro f hf e
  have := (hasR_iff T r).2 ⟨f, hf, by simpa using e⟩
  rw [h] at this; cases this
/-- The first of those that are left is cut: the others are left; nobody stands where it stood. -/
theorem cut_step {T L : List Fd} {f : Fd} (h : T.Perm (f :: L)) (hw : WfT T) : hasR T f.1 = true ∧ (cutT T f.1).Perm L ∧ onT (cutT T f.1) f.2 = none := by
  have hr : ((f :: L).map (·.1)).Nodup := ((h.map (·.1)).nodup_iff).1 hw.refs
  have hs : ((f :: L).map (·.2)).Nodup := ((h.map (·.2)).nodup_iff).1 hw.spots
  rw [List.map_cons, List.nodup_cons] at hr hs
  have hp : (cutT T f.1).Perm L := by
    unfold cutT
    refine (h.filter _).trans ?_
    rw [List.filter_cons, if_neg (by simp)]
    have : L.filter (fun g => g.1 != f.1) = L := by
      rw [List.filter_eq_self]
      intro g hg
      have : ¬ g.1 = f.1 := fun e => hr.1 (List.mem_map.2 ⟨g, hg, e⟩)
      simpa using this
    rw [this]
  refine ⟨(hasR_iff _ _).2 ⟨f, h.mem_iff.2 (List.mem_cons_self ..), rfl⟩, hp, ?_⟩
  unfold onT
  rw [Option.map_eq_none_iff, List.find?_eq_none]
  intro g hg e
  have hg' := hp.mem_iff.1 hg
  exact hs.1 (List.mem_map.2 ⟨g, hg', by simpa using e⟩)
/-- Calls that lie somewhere. -/
def CLies (w : World) (A : Option Addr) (l : List Cl) : Prop :=
  0 < l.length → ∃ B o, A = some ⟨B, o, none⟩ ∧ B < w.heap.size ∧ ∀ j (h : j < l.length),
    w.cell? ⟨B, o + j * 5, none⟩ = some (.int .i64 l[j].1) ∧ w.cell? ⟨B, o + j * 5 + 1, none⟩ = some (.int .i64 l[j].2.1.1) ∧ w.cell? ⟨B, o + j * 5 + 2, none⟩ = some (.int .i64 l[j].2.1.2) ∧ w.cell? ⟨B, o + j * 5 + 3, none⟩ = some (.int .i64 l[j].2.2.1) ∧ w.cell? ⟨B, o + j * 5 + 4, none⟩ = some (.int .i64 l[j].2.2.2)
theorem CLies.below {w w' : World} {A : Option Addr} {l : List Cl} (h : CLies w A l) (hb : Below w.heap.size w w') : CLies w' A l := fun hn => by
  obtain ⟨B, o, e, hB, hc⟩ := h hn
  refine ⟨B, o, e, Nat.lt_of_lt_of_le hB hb.size, fun j hj => ?_⟩
  obtain ⟨h0, h1, h2, h3, h4⟩ := hc j hj
  exact ⟨(hb.cell (p := ⟨B, o + j * 5, none⟩) hB).trans h0, (hb.cell (p := ⟨B, o + j * 5 + 1, none⟩) hB).trans h1, (hb.cell (p := ⟨B, o + j * 5 + 2, none⟩) hB).trans h2, (hb.cell (p := ⟨B, o + j * 5 + 3, none⟩) hB).trans h3, (hb.cell (p := ⟨B, o + j * 5 + 4, none⟩) hB).trans h4⟩
/-- Their numbers are ints. -/
def CWf (l : List Cl) : Prop := ∀ c ∈ l, (Lit.int .i64 c.1).wf = true ∧ WfP c.2.1 ∧ WfP c.2.2
/-- So are a table's. -/
def TWf (T : List Fd) : Prop := ∀ f ∈ T, WfP f.1 ∧ WfP f.2
theorem put_wf {T : List Fd} {r s : P2} (h : TWf T) (hr : WfP r) (hs : WfP s) : TWf (putT T r s) := by
  unfold putT
  split
  · split
    · intro f hf
      obtain ⟨g, hg, rfl⟩ := List.mem_map.1 hf
      by_cases e : g.1 = r
      · rw [if_pos e]; exact ⟨hr, hs⟩
      · rw [if_neg e]; exact h g hg
    · intro f hf
      rcases List.mem_append.1 hf with hf | hf
      · exact h f hf
      · rw [List.mem_singleton.1 hf]; exact ⟨hr, hs⟩
  · exact h
theorem puts_wf (l : List Cl) (h : CWf l) : TWf (putsT l) := by
  suffices hh : ∀ (l : List Cl) (T : List Fd), CWf l → TWf T → TWf (l.foldl (fun T c => putT T c.2.1 c.2.2) T) from hh l [] h (fun f hf => by cases hf)
  intro l
  induction l with
  | nil => intro T _ hT; exact hT
  | cons c l ih =>
    intro T hl hT
    rw [List.foldl_cons]
    have hc := hl c (List.mem_cons_self ..)
    exact ih _ (fun d hd => hl d (List.mem_cons_of_mem _ hd)) (put_wf hT hc.2.1 hc.2.2)
theorem TWf.perm {T L : List Fd} (h : TWf T) (hp : L.Perm T) : TWf L := fun f hf => h f (hp.mem_iff.1 hf)
theorem TWf.drop {L : List Fd} (h : TWf L) (k : Nat) : TWf (L.drop k) := fun f hf => h f (List.mem_of_mem_drop hf)
end Go.Proofs.Ytbebbnkolpgndaa
