/- awake of potsherdlaw2: the counts that every program must know: true, and nothing that was there has turned. -/
import Derived.Test.YtdoaacfonkgokaaFirst
import Derived.Test.YtdoaacfonkgokaaKeys
namespace Go.Proofs.Ytdoaacfonkgokaa
open Go.RowKit Go.Maps

/-- A law's end: true; nothing that was there when it began has turned. -/
def Holds (w : World) (e : Ending) (w' : World) : Prop := e = .returned (.bool true) ∧ Below w.heap.size w w'

def f1 : List UInt8 → Int := upd (fun _ => 0) [98] (heldN 0 2)
def f2 : List UInt8 → Int := upd f1 [97] (heldN (f1 [97]) 1)
theorem f2_a : f2 [97] = 1 := by decide
theorem f2_b : f2 [98] = 2 := by decide
theorem f2_other (k : List UInt8) (h : f2 k ≠ 0) : k = [97] ∨ k = [98] := by
  by_cases e1 : k = [97]
  · exact .inl e1
  · by_cases e2 : k = [98]
    · exact .inr e2
    · exact absurd (by simp [f2, f1, upd, e1, e2]) h
theorem pick_f2 {v0 v1 v2 : Value} (h : PickIs_least_string f2 v0 v1 v2) : v0 = .string ⟨#[97]⟩ ∧ v1 = .int .i64 1 ∧ v2 = .bool true := by
  rcases h with ⟨h, _⟩ | ⟨x, hx, hb, rfl, rfl, rfl⟩
  · have := h [97]; rw [f2_a] at this; omega
  · rcases f2_other x hx with rfl | rfl
    · exact ⟨rfl, by rw [f2_a], rfl⟩
    · have := hb [97] (by rw [f2_a]; decide)
      simp [byCount, f2_a, f2_b, ltInt] at this
theorem keys_f2 {ks : List (List UInt8)} (h1 : ks.Pairwise (· < ·)) (h2 : ∀ k, k ∈ ks ↔ f2 k ≠ 0) : ks.length = 2 := by
  have hn : ks.Nodup := h1.imp fun {a b} (h : a < b) => fun (e : a = b) => by subst e; exact List.lt_irrefl _ h
  have hp : ks.Perm [[97], [98]] := (List.perm_ext_iff_of_nodup hn (by decide)).2 fun k => by
    rw [h2 k]
    constructor
    · intro h
      rcases f2_other k h with rfl | rfl <;> simp
    · intro h
      rcases (by simpa using h : k = [97] ∨ k = [98]) with rfl | rfl
      · rw [f2_a]; decide
      · rw [f2_b]; decide
  simpa using hp.length_eq
theorem low_311 {r : Int} (h : Best ltInt [3, 1, 1] r) : r = 1 := by
  rcases h with ⟨h, _⟩ | ⟨a, ha, rfl, h1, h2⟩
  · cases h
  · match a, ha, h1, h2 with
    | 0, _, h1, _ => exact absurd (h1 1 (by simp)) (by simp [ltInt])
    | 1, _, _, _ => rfl
    | 2, _, _, h2 => exact absurd (h2 1 (by simp)) (by simp [ltInt])
theorem high_313 {r : Int} (h : Best gtInt [3, 1, 3] r) : r = 0 := by
  rcases h with ⟨h, _⟩ | ⟨a, ha, rfl, h1, h2⟩
  · cases h
  · match a, ha, h1, h2 with
    | 0, _, _, _ => rfl
    | 1, _, h1, _ => exact absurd (h1 0 (by simp)) (by simp [gtInt])
    | 2, _, _, h2 => exact absurd (h2 0 (by simp)) (by simp [gtInt])
theorem row_new3 (w : World) (x y z : Int) (t : TypeId) (cap : Nat) : Row (Value.int .i64) (w.alloc (.cells #[.int .i64 x, .int .i64 y, .int .i64 z] t)) (.slice (some ⟨w.heap.size, 0, none⟩) 3 cap) [x, y, z] :=
  .inr ⟨_, _, rfl, fun j h => by
    match j, h with
    | 0, _ => simp [Addr.add]
    | 1, _ => simp [Addr.add]
    | 2, _ => simp [Addr.add]⟩

set_option maxRecDepth 100000 in
set_option maxHeartbeats 1000000 in
theorem awake_any (w : World) : Calls Try.prog 9 #[] w (Holds w) := by
  go_enter Try.func9, Try.ntmps9
  go_wp2_with fail
  refine (new_string _).mono ?_
  rintro e w1 ⟨rfl, ht, hb1⟩
  have hs1 := ht.lt.1
  go_wp2_with fail
  refine (add_string _ none 0 _ [98] 2 _ ht (by unfold maxLen; simp) (by omega)).mono ?_
  rintro e w2 ⟨rfl, ob2, ht2, hto2, hob2⟩
  have hb2 : Below w.heap.size w w2 := hb1.trans (hto2.below (Nat.le_refl _) (fun b e => by cases e) hb1.size)
  have ho2 : ∀ b, ob2 = some b → w.heap.size ≤ b := fun b e => by
    rcases hob2 b e with h | h
    · cases h
    · have := hb1.size; omega
  go_wp2_with fail
  refine (add_string _ ob2 1 f1 [97] 1 _ ht2 (by unfold maxLen; simp) (by omega)).mono ?_
  rintro e w3 ⟨rfl, ob3, ht3, hto3, hob3⟩
  have hb3 : Below w.heap.size w w3 := hb2.trans (hto3.below (Nat.le_refl _) ho2 hb2.size)
  clear hob2 hob3 hto2 hto3 ho2 ht2 ht
  go_wp2_with fail
  refine (least_string _ ob3 2 f2 _ ht3 (by omega)).mono ?_
  rintro e w4 ⟨v0, v1, v2, rfl, hb4, hp⟩
  obtain ⟨rfl, rfl, rfl⟩ := pick_f2 hp
  clear hp
  have ht4 := ht3.below hb4
  have hb5 : Below w.heap.size w w4 := hb3.trans (hb4.mono hb3.size)
  clear hb4
  go_wp2_with fail
  refine (keys_string _ ob3 2 f2 _ ht4 (by omega)).mono ?_
  rintro e w6 ⟨sv, ks, rfl, hk1, hk2, hk3, hown, hb6⟩
  obtain ⟨p, cap, rfl⟩ := own_slice hown
  have hkl := Lib.hid (keys_f2 hk1 hk2)
  rw [hkl.out]
  have hb7 : Below w.heap.size w w6 := hb5.trans (hb6.mono hb5.size)
  clear hk1 hk2 hk3 hown hb6
  go_wp2_with fail
  have hlow := low_int_any (.slice (some ⟨w6.heap.size, 0, none⟩) 3 3) [3, 1, 1] (w6.alloc (.cells #[.int .i64 3, .int .i64 1, .int .i64 1] 3)) (row_new3 w6 3 1 1 3 3) (by simp)
  refine hlow.mono ?_
  rintro e w8 ⟨r, rfl, hr, rfl⟩
  obtain rfl := low_311 hr
  clear hlow hr
  have hrow := row_new3 (w6.alloc (.cells #[.int .i64 3, .int .i64 1, .int .i64 1] 3)) 3 1 3 3 3
  rw [World.size_alloc] at hrow
  have hhigh := high_int_any _ [3, 1, 3] _ hrow (by simp)
  clear hrow
  go_wp2_with fail
  refine hhigh.mono ?_
  rintro e w8 ⟨r, rfl, hr, rfl⟩
  obtain rfl := high_313 hr
  clear hhigh hr
  go_wp2
  go_ret
  exact ⟨rfl, (hb7.alloc hb7.size _).alloc (by have := hb7.size; simp; omega) _⟩
end Go.Proofs.Ytdoaacfonkgokaa
