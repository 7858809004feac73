/- A map's entry made and then filled ('m[k], n[l] = v, w'). -/
import Derived.WideKeyEntry
import Derived.Test.YtbebbnkolpgndaaPLandM
namespace Go.Proofs.Ytbebbnkolpgndaa
open Go.RowKit Go.Maps Go.WideShapes Go.ChangeMaps

theorem kl_ref : WideMaps.KeyLaw Try.prog 30 := deep_law_laid laid (m := 2) (by decide) (by decide +kernel) (by kernel_rfl) (by kernel_rfl)
theorem kl_spot : WideMaps.KeyLaw Try.prog 24 := deep_law_laid laid (m := 2) (by decide) (by decide +kernel) (by kernel_rfl) (by kernel_rfl)
section
variable {t k e : TypeId} (M : MapTy t k e) (K : WideMaps.KeyLaw Try.prog k) {g h : Fd → P2} {T T' : List Fd} {w : World} {b : Nat}
include M K
/-- The entry comes first, then its element; between the two the map's block alone must stand. -/
theorem run_entry_store {f : Fd} (hown : MapAt k g h w b T) (hl : T.length ≤ 1000000) (hw : GWf g T) (hr : WfP (g f)) (hp : T'.Perm (f :: T.filter fun f' => g f' != g f)) :
    ∃ (v0 : Value) (st : Nat) (o : Obj), (Instr.mapEntry t (.map (some b)) (P2V (g f))).run Try.prog w = .ok (.tuple #[v0, goInt st]) (setBlock w b o) ∧
      ∀ w2 : World, w2.heap[b]? = some o → ∃ o', (Instr.entryStore t (.map (some b)) (goInt st) (P2V (h f))).run Try.prog w2 = .ok () (setBlock w2 b o') ∧ MapAt k g h (setBlock w2 b o') b T' := by
  obtain ⟨w', hrun, hm, -⟩ := run_store M hown hl hw hr hp
  obtain ⟨D, ⟨es, clock, hb, F, -, -⟩, -⟩ := hown
  obtain ⟨v0, st, es1, clock1, h1, -, h3⟩ := WideElems.entry_then_store K M.ht (fun u => M.hz u) hb F (M.key _ hr)
  refine ⟨v0, st, _, h1, fun w2 h2 => ?_⟩
  obtain ⟨es', clock', h4, h5⟩ := h3 w2 (P2V (h f)) h2
  refine ⟨_, h4, ?_⟩
  rw [hrun] at h5
  cases h5
  exact hm.kept (by rw [heap_setBlock_same h2, heap_setBlock_same hb])
end
end Go.Proofs.Ytbebbnkolpgndaa
