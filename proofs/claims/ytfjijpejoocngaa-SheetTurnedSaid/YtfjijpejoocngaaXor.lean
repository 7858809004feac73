/- A byte that is turned is another one. -/
import Derived.Test.YtfjijpejoocngaaTorn
namespace Go.Proofs.Ytfjijpejoocngaa
open Go.RowKit

/-- A byte that is turned is another one. -/
theorem xor_all : ∀ x : Fin 256, x.val ≠ 0 → ∀ a : Fin 256, bits .xor .u8 (a.val : Int) (x.val : Int) = ((UInt8.ofNat a.val ^^^ UInt8.ofNat x.val).toNat : Int) ∧ UInt8.ofNat a.val ^^^ UInt8.ofNat x.val ≠ UInt8.ofNat a.val := by decide +kernel
theorem xor_byte (a x : UInt8) (hx : x ≠ 0) : ∃ y : UInt8, bits .xor .u8 (a.toNat : Int) (x.toNat : Int) = (y.toNat : Int) ∧ y ≠ a := by
  have h := xor_all ⟨x.toNat, x.toNat_lt⟩ (fun e => hx (UInt8.toNat.inj e)) ⟨a.toNat, a.toNat_lt⟩
  simp only [UInt8.ofNat_toNat] at h
  exact ⟨a ^^^ x, h.1, h.2⟩
end Go.Proofs.Ytfjijpejoocngaa
