/- A map from refs to spots, or from spots to refs, of the program's own: what it says, as a list of refs with their spots; its look, its store, its delete, its length, what is ranged over. Of no program but for the types' numbers. -/
import Derived.Maps.OwnSet
import Derived.Maps.RangeWalk
import Derived.DeepKeys4
import Derived.Test.YtbebbnkolpgndaaPTabMath
namespace Go.Proofs.Ytbebbnkolpgndaa
open Go.RowKit Go.Maps Go.WideShapes

theorem laid : laidOutB Try.prog = true := by kernel_rfl
theorem law_ref : Keyed Try.prog 30 := Keyed.of_law (deep_law_laid laid (m := 2) (by decide) (by decide +kernel) (by kernel_rfl) (by kernel_rfl))
theorem law_spot : Keyed Try.prog 24 := Keyed.of_law (deep_law_laid laid (m := 2) (by decide) (by decide +kernel) (by kernel_rfl) (by kernel_rfl))
abbrev Dt := DataW Unit
/-- A pair of ints as a key. -/
def klit (a : P2) : Lit := .string (keyBytes [.int .i64 a.1, .int .i64 a.2])
/-- As an element. -/
def dat (a : P2) : Dt := .agg [.lit (.int .i64 a.1), .lit (.int .i64 a.2)]
theorem dat_inj {a b : P2} (h : dat a = dat b) : a = b := by
  simp [dat] at h
  exact Prod.ext h.1 h.2
/-- How an element reads. -/
def RP : Value → Option (Dt × List MemPlace)
  | .agg cs => match cs.toList with
    | [.int .i64 a, .int .i64 b] => some (dat (a, b), [])
    | _ => none
  | _ => none
theorem rp_mk (a : P2) : RP (P2V a) = some (dat a, []) := rfl
theorem rp_inv {v : Value} {z : Dt × List MemPlace} (h : RP v = some z) : ∃ a, v = P2V a ∧ z = (dat a, []) := by
  unfold RP at h
  split at h
  · next cs =>
    split at h
    · next a b e =>
      refine ⟨(a, b), ?_, (Option.some.inj h).symm⟩
      congr 1
      exact Array.ext' (by simpa using e)
    · cases h
  · cases h
theorem rp_val {v : Value} {a : P2} {ps : List MemPlace} (h : RP v = some (dat a, ps)) : v = P2V a := by
  obtain ⟨b, rfl, e⟩ := rp_inv h
  rw [dat_inj (congrArg Prod.fst e)]
theorem is_key (a : P2) : WideAt.IsKeyLit (klit a) := trivial
theorem same_key (k : Lit) (a : P2) : k.sameKey (klit a) = true ↔ k = klit a := by
  unfold klit
  cases k <;> simp [Lit.sameKey]
theorem types_two : ∃ m, Try.prog.types.size = m + 1 + 1 := by
  have h : 2 < Try.prog.types.size := by decide +kernel
  exact ⟨Try.prog.types.size - 2, by omega⟩
section
variable (a : P2) (h : WfP a)
include h
set_option maxRecDepth 100000 in
theorem key_ref : keyOf Try.prog 30 (P2V a) = some (klit a) := by
  have hkt : Try.prog.keyType 30 = true := by kernel_rfl
  have hc : Try.prog.cellsOf 30 = 2 := by kernel_rfl
  have hi : Try.prog.cellsOf 3 = 1 := by kernel_rfl
  obtain ⟨m, hm⟩ := types_two
  unfold keyOf
  simp only [Try.underlying30]
  rw [if_pos (by rw [hkt]; simp [Value.formed, Try.underlying30, hc]), hm]
  unfold Program.keyLits
  simp only [Try.underlying30, Value.cells]
  rw [if_pos (by rw [hc]; exact ⟨rfl, by decide +kernel⟩)]
  simp [Program.keyLits, Try.underlying3, h.1, h.2, hi, klit]
set_option maxRecDepth 100000 in
theorem key_spot : keyOf Try.prog 24 (P2V a) = some (klit a) := by
  have hkt : Try.prog.keyType 24 = true := by kernel_rfl
  have hc : Try.prog.cellsOf 24 = 2 := by kernel_rfl
  have hi : Try.prog.cellsOf 3 = 1 := by kernel_rfl
  obtain ⟨m, hm⟩ := types_two
  unfold keyOf
  simp only [Try.underlying24]
  rw [if_pos (by rw [hkt]; simp [Value.formed, Try.underlying24, hc]), hm]
  unfold Program.keyLits
  simp only [Try.underlying24, Value.cells]
  rw [if_pos (by rw [hc]; exact ⟨rfl, by decide +kernel⟩)]
  simp [Program.keyLits, Try.underlying3, h.1, h.2, hi, klit]
end
theorem klit_inj {a b : P2} (ha : WfP a) (hb : WfP b) (h : klit a = klit b) : a = b := by
  have := law_ref.inj (key_ref a ha) (h ▸ key_ref b hb)
  simp at this
  exact Prod.ext this.1 this.2

/-! What a map says. -/
abbrev ent (g h : Fd → P2) (f : Fd) : Lit × Dt := (klit (g f), dat (h f))
/-- It says this table, by g to h. -/
def MR (g h : Fd → P2) (D : Dt) (T : List Fd) : Prop := ∃ es, D = .map es ∧ es.Perm (T.map (ent g h))
section
variable {g h : Fd → P2} {D : Dt} {T T' : List Fd} {r s : P2}
theorem MR.perm (m : MR g h D T) (hp : T.Perm T') : MR g h D T' := by
  obtain ⟨es, rfl, e⟩ := m
  exact ⟨es, rfl, e.trans (hp.map _)⟩
theorem MR.size (m : MR g h D T) : Maps.size D = T.length := by
  obtain ⟨es, rfl, e⟩ := m
  simpa [Maps.size] using e.length_eq
theorem mr_empty : MR g h (.map []) [] := ⟨[], rfl, List.Perm.nil⟩
/-- All its keys are ints. -/
def GWf (g : Fd → P2) (T : List Fd) : Prop := ∀ f ∈ T, WfP (g f)
theorem MR.has (m : MR g h D T) (hw : GWf g T) (hr : WfP r) : Maps.has D (klit r) = T.any fun f => g f == r := by
  obtain ⟨es, rfl, e⟩ := m
  rw [Maps.has_eq, e.any_eq, Bool.eq_iff_iff, List.any_eq_true, List.any_eq_true]
  constructor
  · rintro ⟨p, hp, hk⟩
    obtain ⟨f, hf, rfl⟩ := List.mem_map.1 hp
    exact ⟨f, hf, by simpa using klit_inj (hw f hf) hr ((same_key _ _).1 hk)⟩
  · rintro ⟨f, hf, hk⟩
    refine ⟨ent g h f, List.mem_map.2 ⟨f, hf, rfl⟩, (same_key _ _).2 ?_⟩
    show klit (g f) = klit r
    rw [show g f = r by simpa using hk]
theorem MR.at (m : MR g h D T) (hn : (T.map g).Nodup) (hw : GWf g T) {f : Fd} (hf : f ∈ T) (z : Dt) : D.atKey (klit (g f)) z = dat (h f) := by
  obtain ⟨es, rfl, e⟩ := m
  refine WideAt.atKey_mem z (is_key _) ?_ (e.mem_iff.2 (List.mem_map.2 ⟨f, hf, rfl⟩))
  refine (e.pairwise_iff (fun {a b} (h : a.1 ≠ b.1) => h.symm)).2 ?_
  rw [List.pairwise_map]
  rw [List.nodup_iff_pairwise_ne, List.pairwise_map] at hn
  exact hn.imp_of_mem fun {a b} ha hb hab e => hab (klit_inj (hw _ ha) (hw _ hb) e)
theorem MR.del (m : MR g h D T) (hw : GWf g T) (hr : WfP r) : MR g h (D.del (klit r)) (T.filter fun f => g f != r) := by
  obtain ⟨es, rfl, e⟩ := m
  refine ⟨_, DataW.del_eq _ _, ?_⟩
  refine (e.filter _).trans ?_
  rw [List.filter_map]
  have he : T.filter (ChangeMaps.notKey (klit r) ∘ ent g h) = T.filter fun f => g f != r := by
    refine List.filter_congr fun f hf => ?_
    by_cases e1 : g f = r
    · simp [ChangeMaps.notKey, e1, (same_key _ _).2]
    · have : ¬ (klit (g f)).sameKey (klit r) = true := fun e2 => e1 (klit_inj (hw f hf) hr ((same_key _ _).1 e2))
      simp [ChangeMaps.notKey, e1, this]
  rw [he]
theorem MR.put (m : MR g h D T) (hw : GWf g T) (hr : WfP r) {f : Fd} (hg : g f = r) (hs : h f = s) (hp : T'.Perm (f :: T.filter fun f => g f != r)) : MR g h (D.put (klit r) (dat s)) T' := by
  have hd := m.del hw hr
  obtain ⟨es, rfl, e⟩ := m
  obtain ⟨es', e1, e2⟩ := hd
  rw [DataW.del_eq] at e1
  refine ⟨_, DataW.put_eq _ _ _, ?_⟩
  unfold ChangeMaps.putKey
  refine (insert_perm _ _).trans ?_
  refine List.Perm.trans (l₂ := (klit r, dat s) :: (T.filter fun f => g f != r).map (ent g h)) (List.Perm.cons _ ?_) ?_
  · simp only [DataW.map.injEq] at e1
    rw [show es.filter (ChangeMaps.notKey (klit r)) = es' from e1]
    exact e2
  · refine List.Perm.trans ?_ (hp.symm.map _)
    rw [List.map_cons, ← hg, ← hs]
end
/-- At b lies a map that says this table. -/
def MapAt (k : TypeId) (g h : Fd → P2) (w : World) (b : Nat) (T : List Fd) : Prop := ∃ D, w.ownsMap Try.prog k RP b T.length D ∧ MR g h D T
theorem own_tight {k : TypeId} {w : World} {b n : Nat} {D : Dt} (h : w.ownsMap Try.prog k RP b n D) : w.ownsMap Try.prog k RP b (Maps.size D) D := by
  obtain ⟨es, clock, hb, F, hs, rfl⟩ := h
  exact ⟨es, clock, hb, F, by simp [Maps.size, length_sorted], rfl⟩
theorem mapAt_mk {k : TypeId} {g h : Fd → P2} {w : World} {b n : Nat} {D : Dt} {T : List Fd} (ho : w.ownsMap Try.prog k RP b n D) (m : MR g h D T) : MapAt k g h w b T :=
  ⟨D, m.size ▸ own_tight ho, m⟩
theorem MapAt.lt {k : TypeId} {g h : Fd → P2} {w : World} {b : Nat} {T : List Fd} (m : MapAt k g h w b T) : b < w.heap.size := by
  obtain ⟨D, ho, _⟩ := m
  exact ho.lt
theorem MapAt.kept {k : TypeId} {g h : Fd → P2} {w w' : World} {b : Nat} {T : List Fd} (m : MapAt k g h w b T) (e : w'.heap[b]? = w.heap[b]?) : MapAt k g h w' b T := by
  obtain ⟨D, ⟨es, clock, hb, rest⟩, hm⟩ := m
  exact ⟨D, ⟨es, clock, e.trans hb, rest⟩, hm⟩
theorem MapAt.perm {k : TypeId} {g h : Fd → P2} {w : World} {b : Nat} {T T' : List Fd} (m : MapAt k g h w b T) (hp : T.Perm T') : MapAt k g h w b T' := by
  obtain ⟨D, ho, hm⟩ := m
  exact mapAt_mk ho (hm.perm hp)

/-! Such a map's types. -/
structure MapTy (t k e : TypeId) : Prop where
  K : Keyed Try.prog k
  ht : Try.prog.underlying t = some (.map k e)
  hz : ∀ w : World, (zeroValue e).run Try.prog w = .ok (P2V (0, 0)) w
  key : ∀ a : P2, WfP a → keyOf Try.prog k (P2V a) = some (klit a)
  inv : ∀ key kl, keyOf Try.prog k key = some kl → ∃ x : P2, key = P2V x ∧ WfP x
theorem inv_ref : ∀ key kl, keyOf Try.prog 30 key = some kl → ∃ x : P2, key = P2V x ∧ WfP x := by
  intro key kl h
  obtain ⟨m, hm⟩ := types_two
  have hc : Try.prog.cellsOf 30 = 2 := by kernel_rfl
  have hi : Try.prog.cellsOf 3 = 1 := by kernel_rfl
  unfold keyOf at h
  simp only [Try.underlying30] at h
  split at h
  · next hf =>
    simp only [Bool.and_eq_true] at hf
    obtain ⟨ls, hls, _⟩ := Option.map_eq_some_iff.1 h
    have hf2 := hf.2
    cases key <;> simp [Value.formed, Try.underlying30] at hf2
    next cs =>
    rw [hm] at hls
    unfold Program.keyLits at hls
    simp only [Try.underlying30, Value.cells] at hls
    split at hls
    · next hl =>
      obtain ⟨l, rfl⟩ : ∃ l : List Value, cs = l.toArray := ⟨cs.toList, by simp⟩
      have hl2 : l.length = 2 := by rw [← hc]; simpa using hl.1
      match l, hl2 with
      | [a, b], _ =>
        obtain ⟨ll, hll, _⟩ := Option.map_eq_some_iff.1 hls
        simp only [List.mapM_cons, List.mapM_nil, hi, List.drop, List.take] at hll
        cases h0 : Try.prog.keyLits (m + 1 + 1) 3 [a] with
        | none => simp [h0] at hll
        | some la =>
          cases h1 : Try.prog.keyLits (m + 1 + 1) 3 [b] with
          | none => simp [h0, h1] at hll
          | some lb =>
            obtain ⟨x, ex, _⟩ := keyLits_int' Try.underlying3 h0
            obtain ⟨y, ey, _⟩ := keyLits_int' Try.underlying3 h1
            cases ex
            cases ey
            refine ⟨(x, y), rfl, ?_, ?_⟩
            · unfold Program.keyLits at h0
              simp [Try.underlying3] at h0
              exact h0.1
            · unfold Program.keyLits at h1
              simp [Try.underlying3] at h1
              exact h1.1
    · cases hls
  · cases h
theorem inv_spot : ∀ key kl, keyOf Try.prog 24 key = some kl → ∃ x : P2, key = P2V x ∧ WfP x := by
  intro key kl h
  obtain ⟨m, hm⟩ := types_two
  have hc : Try.prog.cellsOf 24 = 2 := by kernel_rfl
  have hi : Try.prog.cellsOf 3 = 1 := by kernel_rfl
  unfold keyOf at h
  simp only [Try.underlying24] at h
  split at h
  · next hf =>
    simp only [Bool.and_eq_true] at hf
    obtain ⟨ls, hls, _⟩ := Option.map_eq_some_iff.1 h
    have hf2 := hf.2
    cases key <;> simp [Value.formed, Try.underlying24] at hf2
    next cs =>
    rw [hm] at hls
    unfold Program.keyLits at hls
    simp only [Try.underlying24, Value.cells] at hls
    split at hls
    · next hl =>
      obtain ⟨l, rfl⟩ : ∃ l : List Value, cs = l.toArray := ⟨cs.toList, by simp⟩
      have hl2 : l.length = 2 := by rw [← hc]; simpa using hl.1
      match l, hl2 with
      | [a, b], _ =>
        obtain ⟨ll, hll, _⟩ := Option.map_eq_some_iff.1 hls
        simp only [List.mapM_cons, List.mapM_nil, hi, List.drop, List.take] at hll
        cases h0 : Try.prog.keyLits (m + 1 + 1) 3 [a] with
        | none => simp [h0] at hll
        | some la =>
          cases h1 : Try.prog.keyLits (m + 1 + 1) 3 [b] with
          | none => simp [h0, h1] at hll
          | some lb =>
            obtain ⟨x, ex, _⟩ := keyLits_int' Try.underlying3 h0
            obtain ⟨y, ey, _⟩ := keyLits_int' Try.underlying3 h1
            cases ex
            cases ey
            refine ⟨(x, y), rfl, ?_, ?_⟩
            · unfold Program.keyLits at h0
              simp [Try.underlying3] at h0
              exact h0.1
            · unfold Program.keyLits at h1
              simp [Try.underlying3] at h1
              exact h1.1
    · cases hls
  · cases h
theorem mt_spots : MapTy 51 30 24 := ⟨law_ref, Try.underlying51, fun w => by kernel_rfl, key_ref, inv_ref⟩
theorem mt_refs : MapTy 52 24 30 := ⟨law_spot, Try.underlying52, fun w => by kernel_rfl, key_spot, inv_spot⟩
/-- What stands at r. -/
def lk (g h : Fd → P2) (T : List Fd) (r : P2) : Option P2 := (T.find? fun f => g f == r).map h
section
variable {t k e : TypeId} (M : MapTy t k e) {g h : Fd → P2} {T T' : List Fd} {w : World} {b : Nat} {r : P2} {ops : Array Oper} {rest : List Oper} {o : Oper} {a : Act} {Q : Exit → Act → World → Prop}
include M
omit M in
theorem look_at (m : MapAt k g h w b T) (hn : (T.map g).Nodup) (hw : GWf g T) (hr : WfP r) : ∃ D, w.ownsMap Try.prog k RP b T.length D ∧ Maps.has D (klit r) = (lk g h T r).isSome ∧ D.atKey (klit r) (dat (0, 0)) = dat ((lk g h T r).getD (0, 0)) := by
  obtain ⟨D, ho, hm⟩ := m
  have hh := hm.has hw hr
  refine ⟨D, ho, ?_, ?_⟩
  · rw [hh]
    unfold lk
    rw [Option.isSome_map, find_any]
  · unfold lk
    cases hf : T.find? fun f => g f == r with
    | none =>
      have : (T.any fun f => g f == r) = false := by
        rw [← find_any, hf]; rfl
      rw [Maps.atKey_of_not_has (hh.trans this)]
      rfl
    | some f =>
      have h1 : g f = r := by simpa using List.find?_some hf
      rw [← h1]
      exact hm.at hn hw (List.mem_of_find?_eq_some hf) _
/-! The same as equations. -/
theorem run_look_ok (hown : MapAt k g h w b T) (hn : (T.map g).Nodup) (hw : GWf g T) (hr : WfP r) : (Instr.lookup t (.map (some b)) (P2V r) true).run Try.prog w = .ok (.tuple #[P2V ((lk g h T r).getD (0, 0)), .bool (lk g h T r).isSome]) w := by
  obtain ⟨D, ho, h1, h2⟩ := look_at hown hn hw hr
  obtain ⟨v, ps, hrun, hv⟩ := ho.look_ok M.K M.ht (M.hz w) (rp_mk (0, 0)) (M.key r hr)
  rw [h2] at hv
  rw [rp_val hv, h1] at hrun
  exact hrun
theorem run_look (hown : MapAt k g h w b T) (hn : (T.map g).Nodup) (hw : GWf g T) (hr : WfP r) : (Instr.lookup t (.map (some b)) (P2V r) false).run Try.prog w = .ok (P2V ((lk g h T r).getD (0, 0))) w := by
  obtain ⟨D, ho, h1, h2⟩ := look_at hown hn hw hr
  obtain ⟨v, ps, hrun, hv⟩ := ho.lookup M.K M.ht (M.hz w) (rp_mk (0, 0)) (M.key r hr)
  rw [h2] at hv
  rw [rp_val hv] at hrun
  exact hrun
theorem run_store {f : Fd} (hown : MapAt k g h w b T) (hl : T.length ≤ 1000000) (hw : GWf g T) (hr : WfP (g f)) (hp : T'.Perm (f :: T.filter fun f' => g f' != g f)) :
    ∃ w', (Instr.mapUpdate t (.map (some b)) (P2V (g f)) (P2V (h f))).run Try.prog w = .ok () w' ∧ MapAt k g h w' b T' ∧ w.mapTurned w' b := by
  obtain ⟨D, ho, hd⟩ := hown
  obtain ⟨w', hrun, r1, r2⟩ := ho.store M.K M.ht (by unfold maxLen; omega) (M.key _ hr) (rp_mk (h f))
  exact ⟨w', hrun, mapAt_mk r1 (hd.put hw hr rfl rfl hp), r2⟩
theorem run_delete (ty : TypeId) (hown : MapAt k g h w b T) (hw : GWf g T) (hr : WfP r) :
    ∃ w', (Builtin.delete_ #[t, k] ty #[.map (some b), P2V r]).run Try.prog w = .ok (.tuple #[]) w' ∧ MapAt k g h w' b (T.filter fun f => g f != r) ∧ w.mapTurned w' b := by
  obtain ⟨D, ho, hd⟩ := hown
  obtain ⟨w', hrun, r1, r2⟩ := ho.drop M.K M.ht (M.key r hr) ty
  exact ⟨w', hrun, mapAt_mk r1 (hd.del hw hr), r2⟩
theorem run_len (ty : TypeId) (hown : MapAt k g h w b T) : (Builtin.len_ #[t] ty #[.map (some b)]).run Try.prog w = .ok (.int .i64 (T.length : Int)) w := by
  obtain ⟨D, ho, hd⟩ := hown
  rw [ho.len M.ht ty, hd.size]
/-- 'v, ok := m[r]'. -/
theorem op_look_ok {K : Act → World → Prop} (m x : Operand) (hop : o.op = Op.lookup t m x true) (hm : a.eval m = .map (some b)) (hx : a.eval x = P2V r) (hown : MapAt k g h w b T) (hn : (T.map g).Nodup) (hw : GWf g T) (hr : WfP r)
    (hK : K (a.put o.dst (.tuple #[P2V ((lk g h T r).getD (0, 0)), .bool (lk g h T r).isSome])) w) : Oper.wp Try.prog o a w K Q := by
  obtain ⟨D, ho, h1, h2⟩ := look_at hown hn hw hr
  obtain ⟨v, ps, hrun, hv⟩ := ho.look_ok M.K M.ht (M.hz w) (rp_mk (0, 0)) (M.key r hr)
  rw [h2] at hv
  rw [rp_val hv, h1] at hrun
  unfold Oper.wp
  simp [execOp, hop, hm, hx, hrun, Result.andThen]
  exact hK
/-- 's := m[r]'. -/
theorem op_look {K : Act → World → Prop} (m x : Operand) (hop : o.op = Op.lookup t m x false) (hm : a.eval m = .map (some b)) (hx : a.eval x = P2V r) (hown : MapAt k g h w b T) (hn : (T.map g).Nodup) (hw : GWf g T) (hr : WfP r)
    (hK : K (a.put o.dst (P2V ((lk g h T r).getD (0, 0)))) w) : Oper.wp Try.prog o a w K Q := by
  obtain ⟨D, ho, h1, h2⟩ := look_at hown hn hw hr
  obtain ⟨v, ps, hrun, hv⟩ := ho.lookup M.K M.ht (M.hz w) (rp_mk (0, 0)) (M.key r hr)
  rw [h2] at hv
  rw [rp_val hv] at hrun
  unfold Oper.wp
  simp [execOp, hop, hm, hx, hrun, Result.andThen]
  exact hK
/-- 'm[r] = s'. -/
theorem op_store {K : Act → World → Prop} (m x v : Operand) (hop : o.op = Op.mapUpdate t m x v) {f : Fd} (hm : a.eval m = .map (some b)) (hx : a.eval x = P2V (g f)) (hv : a.eval v = P2V (h f)) (hown : MapAt k g h w b T) (hl : T.length ≤ 1000000) (hw : GWf g T) (hr : WfP (g f)) (hp : T'.Perm (f :: T.filter fun f' => g f' != g f))
    (hK : ∀ w', MapAt k g h w' b T' → w.mapTurned w' b → K (a.put o.dst undef) w') : Oper.wp Try.prog o a w K Q := by
  obtain ⟨D, ho, hd⟩ := hown
  obtain ⟨w', hrun, r1, r2⟩ := ho.store M.K M.ht (by unfold maxLen; omega) (M.key _ hr) (rp_mk (h f))
  unfold Oper.wp
  simp [execOp, hop, hm, hx, hv, hrun, Result.andThen]
  exact hK w' (mapAt_mk r1 (hd.put hw hr rfl rfl hp)) r2
/-- 'delete(m, r)'. -/
theorem op_delete {K : Act → World → Prop} (m x : Operand) (hop : o.op = Op.call { callee := Callee.builtin Builtin.delete, args := #[m, x], argTypes := #[t, k] }) (hm : a.eval m = .map (some b)) (hx : a.eval x = P2V r) (hown : MapAt k g h w b T) (hw : GWf g T) (hr : WfP r)
    (hK : ∀ w', MapAt k g h w' b (T.filter fun f => g f != r) → w.mapTurned w' b → K (a.put o.dst (.tuple #[])) w') : Oper.wp Try.prog o a w K Q := by
  obtain ⟨D, ho, hd⟩ := hown
  obtain ⟨w', hrun, r1, r2⟩ := ho.drop M.K M.ht (M.key r hr) o.type
  unfold Oper.wp
  simp [execOp, hop, resolve, invoke, builtin, hm, hx, hrun, Result.andThen]
  exact hK w' (mapAt_mk r1 (hd.del hw hr)) r2
/-- 'len(m)'. -/
theorem op_len {K : Act → World → Prop} (m : Operand) (hop : o.op = Op.call { callee := Callee.builtin Builtin.len, args := #[m], argTypes := #[t] }) (hm : a.eval m = .map (some b)) (hown : MapAt k g h w b T)
    (hK : K (a.put o.dst (.int .i64 (T.length : Int))) w) : Oper.wp Try.prog o a w K Q := by
  obtain ⟨D, ho, hd⟩ := hown
  unfold Oper.wp
  simp [execOp, hop, resolve, invoke, builtin, hm, ho.len M.ht o.type, Result.andThen]
  rw [hd.size]
  exact hK
theorem wp_look_ok (hg : o.guard = none) (m x : Operand) (hop : o.op = Op.lookup t m x true) (hm : a.eval m = .map (some b)) (hx : a.eval x = P2V r) (hown : MapAt k g h w b T) (hn : (T.map g).Nodup) (hw : GWf g T) (hr : WfP r)
    (hK : wpList Try.prog ops Q rest (a.put o.dst (.tuple #[P2V ((lk g h T r).getD (0, 0)), .bool (lk g h T r).isSome])) w) : wpList Try.prog ops Q (o :: rest) a w :=
  wpList_plain hg fun _ hK' => op_look_ok M m x hop hm hx hown hn hw hr (hK' _ _ hK)
theorem st_look_ok {K : Act → World → Prop} {E : Prop} (hg : o.guard = none) (m x : Operand) (hop : o.op = Op.lookup t m x true) (hm : a.eval m = .map (some b)) (hx : a.eval x = P2V r) (hown : MapAt k g h w b T) (hn : (T.map g).Nodup) (hw : GWf g T) (hr : WfP r)
    (hK : K (a.put o.dst (.tuple #[P2V ((lk g h T r).getD (0, 0)), .bool (lk g h T r).isSome])) w) : if Region.wanted o (yielded ops a.tmps) = true then Oper.wp Try.prog o a w K Q else E := by
  rw [if_pos (by simp [Region.wanted, hg])]
  exact op_look_ok M m x hop hm hx hown hn hw hr hK
theorem wp_look (hg : o.guard = none) (m x : Operand) (hop : o.op = Op.lookup t m x false) (hm : a.eval m = .map (some b)) (hx : a.eval x = P2V r) (hown : MapAt k g h w b T) (hn : (T.map g).Nodup) (hw : GWf g T) (hr : WfP r)
    (hK : wpList Try.prog ops Q rest (a.put o.dst (P2V ((lk g h T r).getD (0, 0)))) w) : wpList Try.prog ops Q (o :: rest) a w :=
  wpList_plain hg fun _ hK' => op_look M m x hop hm hx hown hn hw hr (hK' _ _ hK)
theorem st_look {K : Act → World → Prop} {E : Prop} (hg : o.guard = none) (m x : Operand) (hop : o.op = Op.lookup t m x false) (hm : a.eval m = .map (some b)) (hx : a.eval x = P2V r) (hown : MapAt k g h w b T) (hn : (T.map g).Nodup) (hw : GWf g T) (hr : WfP r)
    (hK : K (a.put o.dst (P2V ((lk g h T r).getD (0, 0)))) w) : if Region.wanted o (yielded ops a.tmps) = true then Oper.wp Try.prog o a w K Q else E := by
  rw [if_pos (by simp [Region.wanted, hg])]
  exact op_look M m x hop hm hx hown hn hw hr hK
theorem wp_store (hg : o.guard = none) (m x v : Operand) (hop : o.op = Op.mapUpdate t m x v) {f : Fd} (hm : a.eval m = .map (some b)) (hx : a.eval x = P2V (g f)) (hv : a.eval v = P2V (h f)) (hown : MapAt k g h w b T) (hl : T.length ≤ 1000000) (hw : GWf g T) (hr : WfP (g f)) (hp : T'.Perm (f :: T.filter fun f' => g f' != g f))
    (hK : ∀ w', MapAt k g h w' b T' → w.mapTurned w' b → wpList Try.prog ops Q rest (a.put o.dst undef) w') : wpList Try.prog ops Q (o :: rest) a w :=
  wpList_plain hg fun _ hK' => op_store M m x v hop hm hx hv hown hl hw hr hp fun w' h1 h2 => hK' _ _ (hK w' h1 h2)
theorem st_store {K : Act → World → Prop} {E : Prop} (hg : o.guard = none) (m x v : Operand) (hop : o.op = Op.mapUpdate t m x v) {f : Fd} (hm : a.eval m = .map (some b)) (hx : a.eval x = P2V (g f)) (hv : a.eval v = P2V (h f)) (hown : MapAt k g h w b T) (hl : T.length ≤ 1000000) (hw : GWf g T) (hr : WfP (g f)) (hp : T'.Perm (f :: T.filter fun f' => g f' != g f))
    (hK : ∀ w', MapAt k g h w' b T' → w.mapTurned w' b → K (a.put o.dst undef) w') : if Region.wanted o (yielded ops a.tmps) = true then Oper.wp Try.prog o a w K Q else E := by
  rw [if_pos (by simp [Region.wanted, hg])]
  exact op_store M m x v hop hm hx hv hown hl hw hr hp hK
theorem wp_delete (hg : o.guard = none) (m x : Operand) (hop : o.op = Op.call { callee := Callee.builtin Builtin.delete, args := #[m, x], argTypes := #[t, k] }) (hm : a.eval m = .map (some b)) (hx : a.eval x = P2V r) (hown : MapAt k g h w b T) (hw : GWf g T) (hr : WfP r)
    (hK : ∀ w', MapAt k g h w' b (T.filter fun f => g f != r) → w.mapTurned w' b → wpList Try.prog ops Q rest (a.put o.dst (.tuple #[])) w') : wpList Try.prog ops Q (o :: rest) a w :=
  wpList_plain hg fun _ hK' => op_delete M m x hop hm hx hown hw hr fun w' h1 h2 => hK' _ _ (hK w' h1 h2)
theorem st_delete {K : Act → World → Prop} {E : Prop} (hg : o.guard = none) (m x : Operand) (hop : o.op = Op.call { callee := Callee.builtin Builtin.delete, args := #[m, x], argTypes := #[t, k] }) (hm : a.eval m = .map (some b)) (hx : a.eval x = P2V r) (hown : MapAt k g h w b T) (hw : GWf g T) (hr : WfP r)
    (hK : ∀ w', MapAt k g h w' b (T.filter fun f => g f != r) → w.mapTurned w' b → K (a.put o.dst (.tuple #[])) w') : if Region.wanted o (yielded ops a.tmps) = true then Oper.wp Try.prog o a w K Q else E := by
  rw [if_pos (by simp [Region.wanted, hg])]
  exact op_delete M m x hop hm hx hown hw hr hK
theorem wp_len (hg : o.guard = none) (m : Operand) (hop : o.op = Op.call { callee := Callee.builtin Builtin.len, args := #[m], argTypes := #[t] }) (hm : a.eval m = .map (some b)) (hown : MapAt k g h w b T)
    (hK : wpList Try.prog ops Q rest (a.put o.dst (.int .i64 (T.length : Int))) w) : wpList Try.prog ops Q (o :: rest) a w :=
  wpList_plain hg fun _ hK' => op_len M m hop hm hown (hK' _ _ hK)
theorem st_len {K : Act → World → Prop} {E : Prop} (hg : o.guard = none) (m : Operand) (hop : o.op = Op.call { callee := Callee.builtin Builtin.len, args := #[m], argTypes := #[t] }) (hm : a.eval m = .map (some b)) (hown : MapAt k g h w b T)
    (hK : K (a.put o.dst (.int .i64 (T.length : Int))) w) : if Region.wanted o (yielded ops a.tmps) = true then Oper.wp Try.prog o a w K Q else E := by
  rw [if_pos (by simp [Region.wanted, hg])]
  exact op_len M m hop hm hown hK
omit M
/-- A range over it: these have come. -/
def RgS (k : TypeId) (g h : Fd → P2) (w : World) (b i : Nat) (T S : List Fd) (cnt : Nat) : Prop :=
  ∃ D left, w.ranges Try.prog k RP b i T.length D left cnt ∧ MR g h D T ∧ S.Perm (T.filter fun f => !left (klit (g f)))
theorem RgS.left {i cnt : Nat} {S : List Fd} (h1 : RgS k g h w b i T S cnt) : w.rangeLeft b i = cnt := by
  obtain ⟨D, left, h2, _⟩ := h1
  exact h2.left_eq
theorem RgS.kept {i cnt : Nat} {S : List Fd} {w' : World} {row : Option Nat} (h1 : RgS k g h w b i T S cnt) (hg : w.grownBy w' row) (hb' : some b ≠ row) (hi : some i ≠ row) : RgS k g h w' b i T S cnt := by
  obtain ⟨D, left, h2, h3⟩ := h1
  exact ⟨D, left, h2.kept hg hb' hi, h3⟩
theorem RgS.len {i cnt : Nat} {S : List Fd} (h1 : RgS k g h w b i T S cnt) : S.length ≤ T.length := by
  obtain ⟨D, left, _, _, h3⟩ := h1
  rw [h3.length_eq]
  exact List.length_filter_le _ _
theorem RgS.at {i cnt : Nat} {S : List Fd} (h1 : RgS k g h w b i T S cnt) : MapAt k g h w b T := by
  obtain ⟨D, left, h2, h3, _⟩ := h1
  exact ⟨D, h2.owns, h3⟩
theorem nodup_of_map {l : List Fd} (hn : (l.map g).Nodup) : l.Nodup := by
  rw [List.nodup_iff_pairwise_ne, List.pairwise_map] at hn
  rw [List.nodup_iff_pairwise_ne]
  exact hn.imp fun h e => h (by rw [e])
theorem seen_step {left : Lit → Bool} (hn : (T.map g).Nodup) (hw : GWf g T) {f : Fd} (hf : f ∈ T) (hl : left (klit (g f)) = true) : (f :: T.filter fun x => !left (klit (g x))).Perm (T.filter fun x => !(left (klit (g x)) && !(klit (g x)).sameKey (klit (g f)))) := by
  have hT : T.Nodup := nodup_of_map hn
  refine (List.perm_ext_iff_of_nodup ?_ (hT.filter _)).2 fun x => ?_
  · rw [List.nodup_cons]
    exact ⟨fun hx => by simp [hl] at hx, hT.filter _⟩
  · rw [List.mem_cons, List.mem_filter, List.mem_filter]
    constructor
    · rintro (rfl | ⟨hx, he⟩)
      · exact ⟨hf, by simp [(same_key _ _).2]⟩
      · exact ⟨hx, by simp at he; simp [he]⟩
    · rintro ⟨hx, he⟩
      by_cases e1 : left (klit (g x)) = true
      · have h2 : (klit (g x)).sameKey (klit (g f)) = true := by simpa [e1] using he
        have h3 := klit_inj (hw x hx) (hw f hf) ((same_key _ _).1 h2)
        exact .inl (nodup_inj hn hx hf h3)
      · exact .inr ⟨hx, by simpa using e1⟩
include M
/-- 'range m'. -/
theorem wp_range (hg : o.guard = none) (m : Operand) (hop : o.op = Op.range t m) (hm : a.eval m = .map (some b)) (hown : MapAt k g h w b T) (hw : GWf g T)
    (hK : ∀ w', RgS k g h w' b w.heap.size T [] T.length → w.grownBy w' none → w'.heap.size = w.heap.size + 1 → wpList Try.prog ops Q rest (a.put o.dst (.pointer (some ⟨w.heap.size, 0, none⟩))) w') : wpList Try.prog ops Q (o :: rest) a w := by
  obtain ⟨D, ho, hd⟩ := hown
  refine wpList_range_own w hg m t hop k e M.K M.ht RP b T.length D hm ho fun w' h1 h2 h3 => hK w' ⟨D, _, by rw [← hd.size]; exact hd.size.symm ▸ h1, hd, ?_⟩ h2 h3
  have : (T.filter fun f => !Maps.has D (klit (g f))) = [] := by
    rw [List.filter_eq_nil_iff]
    intro f hf
    rw [hd.has hw (hw f hf)]
    simp
    exact ⟨_, _, _, _, hf, rfl⟩
  rw [this]
/-- A range's step. -/
theorem wp_next (hg : o.guard = none) (it : Operand) (hop : o.op = Op.next it false) {i cnt : Nat} {S : List Fd} (hit : a.eval it = .pointer (some ⟨i, 0, none⟩)) (h1 : RgS k g h w b i T S cnt) (hn : (T.map g).Nodup) (hw : GWf g T)
    (hDone : S.Perm T → wpList Try.prog ops Q rest (a.put o.dst (.tuple #[.bool false])) w)
    (hMore : ∀ (f : Fd) (w' : World) (cnt' : Nat), f ∈ T → RgS k g h w' b i T (f :: S) cnt' → cnt' < cnt → w.grownBy w' (some i) → w'.heap.size = w.heap.size → (Instr.entry (.pointer (some ⟨i, 0, none⟩))).run Try.prog w' = .ok (.tuple #[P2V (g f), P2V (h f)]) w' →
      wpList Try.prog ops Q rest (a.put o.dst (.tuple #[.bool true, P2V (g f), P2V (h f)])) w') : wpList Try.prog ops Q (o :: rest) a w := by
  obtain ⟨D, left, h2, hd, hs⟩ := h1
  refine wpList_next_ranges w hg it hop k M.K RP P2V P2V (fun key kl hk => by obtain ⟨x, rfl, _⟩ := M.inv key kl hk; exact ⟨x, rfl⟩) (fun v y hv => by obtain ⟨c, rfl, _⟩ := rp_inv hv; exact ⟨c, rfl⟩) b i T.length D left cnt hit h2 (fun _ hl => hDone ?_) fun x c kl y w' cnt' hkey hlk hv hat hrg hlt hgr hsz hen => ?_
  · have : (T.filter fun f => !left (klit (g f))) = T := by
      rw [List.filter_eq_self]
      intro f _
      simp [hl]
    rwa [this] at hs
  · obtain ⟨x', ex, hwx⟩ := M.inv _ _ hkey
    have ex2 : x = x' := by simp at ex; exact Prod.ext ex.1 ex.2
    subst ex2
    have e2 := M.key x hwx
    rw [hkey] at e2
    cases e2
    have hh := Maps.has_true_of_atKey hat
    rw [hd.has hw hwx, List.any_eq_true] at hh
    obtain ⟨f, hf, hfx⟩ := hh
    have hgx : g f = x := by simpa using hfx
    subst hgx
    obtain ⟨c', ec, ey⟩ := rp_inv hv
    have ec2 : c = c' := by simp at ec; exact Prod.ext ec.1 ec.2
    subst ec2
    have hcc : h f = c := dat_inj (by rw [← hd.at hn hw hf (dat (0, 0)), hat, ey])
    subst hcc
    exact hMore f w' cnt' hf ⟨D, _, hrg, hd, (hs.cons f).trans (seen_step hn hw hf hlk)⟩ hlt hgr hsz hen
end
end Go.Proofs.Ytbebbnkolpgndaa
