/- A scan: what a page says, as a function; through; Found, Root. -/
import Derived.Test.YtnadcdgpfopcaaaMoA
namespace Go.Proofs.Ytnadcdgpfopcaaa
open Go.RowKit

/-- The sheet whose bytes these are. -/
def parseL (l : List UInt8) : Option (Int × Int × List UInt8) :=
  match numStep (l, 0) 60 with
  | (p, r1) => match numStep r1 1099511627776 with
    | (s, r2) => match textStep r2 2000 with
      | (d, r3) => if r3.1 = [90] ∧ r3.2 = 0 ∧ MayS p s d then some (p, s, d) else none
theorem parseL_steps {l d : List UInt8} {p s : Int} {r1 r2 r3 : RS} (h1 : numStep (l, 0) 60 = (p, r1)) (h2 : numStep r1 1099511627776 = (s, r2)) (h3 : textStep r2 2000 = (d, r3)) : parseL l = if r3.1 = [90] ∧ r3.2 = 0 ∧ MayS p s d then some (p, s, d) else none := by
  unfold parseL
  simp only [h1, h2, h3]
theorem steps_all (l : List UInt8) : ∃ p r1 s r2 d r3, numStep (l, 0) 60 = (p, r1) ∧ numStep r1 1099511627776 = (s, r2) ∧ textStep r2 2000 = (d, r3) := ⟨_, _, _, _, _, _, rfl, rfl, rfl⟩
theorem parseL_some {l : List UInt8} {p s : Int} {d : List UInt8} (h : parseL l = some (p, s, d)) : MayS p s d ∧ l = sheetL p.toNat s.toNat d := by
  obtain ⟨p', r1, s', r2, d', r3, e1, e2, e3⟩ := steps_all l
  rw [parseL_steps e1 e2 e3] at h
  split at h
  · next hc =>
    obtain ⟨h1, h2, h3⟩ := hc
    obtain ⟨P, S, f1, f2, f3, -⟩ := steps_back e1 e2 e3 h2
    simp only [Option.some.injEq, Prod.mk.injEq] at h
    obtain ⟨rfl, rfl, rfl⟩ := h
    refine ⟨h3, ?_⟩
    rw [h1] at f3
    unfold sheetL
    rw [f1, f2]
    simpa using f3
  · cases h
theorem parseL_none {l : List UInt8} (h : NoSheet l) : parseL l = none := by
  cases e : parseL l with
  | none => rfl
  | some x =>
    obtain ⟨p, s, d⟩ := x
    obtain ⟨h1, h2⟩ := parseL_some e
    exact absurd h2 (h p s d h1)
theorem parseL_sheet {p s : Int} {d : List UInt8} (h : MayS p s d) : parseL (sheetL p.toNat s.toNat d) = some (p, s, d) := by
  cases e : parseL (sheetL p.toNat s.toNat d) with
  | none =>
    obtain ⟨p', r1, s', r2, d', r3, e1, e2, e3⟩ := steps_all (sheetL p.toNat s.toNat d)
    rw [parseL_steps e1 e2 e3] at e
    split at e
    · cases e
    · next hc => exact absurd rfl (no_sheet e1 e2 e3 hc p s d h)
  | some x =>
    obtain ⟨p', s', d'⟩ := x
    obtain ⟨h1, h2⟩ := parseL_some e
    obtain ⟨rfl, rfl, rfl⟩ := sheet_inj h h1 h2
    rfl
/-- What a page says is kept. -/
def MS.note (M : MS) (sp : P2) (l : List UInt8) : MS :=
  match parseL l with
  | none => M
  | some (p, q, d) => if p = 0 ∧ M.rs < q then { M with fd := M.fd ++ [((p, q), sp)], rp := p, rs := q, rd := d } else { M with fd := M.fd ++ [((p, q), sp)] }
/-- A page is read. -/
def MS.visit (M : MS) (sp : P2) : MS := ({ M with S := (rdL M.S sp.1 sp.2).2.2 } : MS).note sp (rdL M.S sp.1 sp.2).1
def MS.visits (M : MS) (l : List P2) : MS := l.foldl MS.visit M
/-- The pages of block b from fr to en, counted over all. -/
def pgs (P b fr en : Nat) : List P2 := (List.range' (max fr (b * P) - b * P) (min en (b * P + P) - max fr (b * P))).map fun (p : Nat) => ((b : Int), (p : Int))
/-- Those that are read: of the first k blocks. -/
def wrTo (S : LS) (P fr en k : Nat) : List P2 := (List.range k).flatMap fun (b : Nat) => if (tellB S (b : Int)).next = 0 then [] else pgs P b fr en
/-- A step of n pages. -/
def MS.end_ (M : MS) (n : Int) : Nat := M.k + min n.toNat (M.B * M.P - M.k)
def MS.stepped (M : MS) (n : Int) : MS := { M.visits (wrTo M.S M.P M.k (M.end_ n) M.B) with k := M.end_ n }
def MS.thr (M : MS) : Bool := decide (M.k = M.B * M.P)

section
variable {w w' : World} {s c cap : Nat} {x y Y F : Nat → Prop} {v : Value} {A : Option Addr} {M : MS} {S' : LS}
theorem i64w_id (n : Int) (h : -9223372036854775808 ≤ n ∧ n ≤ 9223372036854775807) : IntKind.i64.wrap n = n := by rw [IntKind.wrap_i64]; omega
theorem MOk.mul (ok : MOk M) : M.B * M.P ≤ 2048 := by
  obtain ⟨-, -, ⟨-, h1⟩, ⟨-, h2⟩, -⟩ := ok
  calc M.B * M.P ≤ 64 * 32 := Nat.mul_le_mul h1 h2
    _ = 2048 := rfl
/-- It tells v, and only draws. -/
def Quietly (v : Value) (w : World) (e : Ending) (w' : World) : Prop := e = .returned v ∧ ∃ n, w' = w.drewN n
set_option maxRecDepth 100000 in
set_option maxHeartbeats 2000000 in
theorem m_through (h : MParts w s c v A cap M) (ok : MOk M) : Calls Try.prog 39 #[PtrV s] w (Quietly (.bool M.thr) w) := by
  have hB := ok.mul
  obtain ⟨N, hN⟩ : ∃ N, M.B * M.P = N := ⟨_, rfl⟩
  rw [hN] at hB
  have hmul : IntKind.i64.wrap ((M.B : Int) * (M.P : Int)) = (N : Int) := by rw [i64w_id _ (by rw [← Int.natCast_mul, hN]; omega), ← Int.natCast_mul, hN]
  have HI := fun n => (m_is (h.drewN n)).mono fun _ _ hh => And.intro hh.1 hh.2.symm
  have c1 := h.c1
  have c2 := h.c2
  have c3 := h.c3
  have hT : M.thr = decide (M.k = N) := by unfold MS.thr; rw [hN]
  rw [hT]
  clear hT
  obtain ⟨k, hk⟩ : ∃ k, M.k = k := ⟨_, rfl⟩
  obtain ⟨B, hBB⟩ : ∃ B, M.B = B := ⟨_, rfl⟩
  obtain ⟨P, hPP⟩ : ∃ P, M.P = P := ⟨_, rfl⟩
  have hkN : k ≤ N := by rw [← hk, ← hN]; exact ok.k
  rw [hk] at c3 ⊢
  rw [hBB] at c1 hmul
  rw [hPP] at c2 hmul
  clear h ok hN hk hBB hPP
  by_cases e : k = N
  · subst e
    rw [decide_eq_true rfl]
    go_enter Try.func39, Try.ntmps39
    go_upto_region 1 with fail
    go_quiet (first | (go_at_call 34; refine Calls.quiet_of_same (HI _)))
    all_goals go_wp2_with fail
    all_goals go_ret
    all_goals exact ⟨rfl, _, rfl⟩
  · have e1 : ((k : Int) == (N : Int)) = false := by simp; omega
    rw [decide_eq_false e]
    go_enter Try.func39, Try.ntmps39
    go_upto_region 1 with fail
    go_quiet (first | (go_at_call 34; refine Calls.quiet_of_same (HI _)))
    all_goals go_wp2_with fail
    all_goals go_ret
    all_goals exact ⟨rfl, _, rfl⟩
set_option maxRecDepth 100000 in
theorem m_through_nil (w : World) : Calls Try.prog 39 #[.pointer none] w (Quietly (.bool false) w) := by
  have HI := fun w => (m_is_nil w).mono fun _ _ hh => And.intro hh.1 hh.2.symm
  go_enter Try.func39, Try.ntmps39
  go_upto_region 1 with fail
  go_quiet (first | (go_at_call 34; refine Calls.quiet_of_same (HI _)))
  all_goals go_wp2_with fail
  all_goals go_ret
  all_goals exact ⟨rfl, _, rfl⟩
end
end Go.Proofs.Ytnadcdgpfopcaaa
