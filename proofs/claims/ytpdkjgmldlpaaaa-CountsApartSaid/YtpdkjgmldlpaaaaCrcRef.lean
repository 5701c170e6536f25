/- The walks over the document's own answer, bit by bit. -/
import Derived.Test.YtpdkjgmldlpaaaaBytes
namespace Go.Proofs.Ytpdkjgmldlpaaaa.Crc
open Go.RowKit CrcMath Mem

theorem L_odd' {x : Nat} (hx : x < 4294967296) (h : ((x : Int) % 2 == 1) = true) : bits BinOp.xor IntKind.u32 (↑x / 2) 2197175160 = ((L x : Nat) : Int) := by
  have h1 : x % 2 = 1 := by simp at h; omega
  rw [show (↑x / 2 : Int) = ((x / 2 : Nat) : Int) from by omega, show (2197175160 : Int) = ((2197175160 : Nat) : Int) from rfl, u32_xor_nat _ _ (by omega) (by omega)]
  simp [L, h1]
theorem L_even' {x : Nat} (h : ((x : Int) % 2 == 1) = false) : (↑x / 2 : Int) = ((L x : Nat) : Int) := by
  have h1 : ¬ x % 2 = 1 := by simp at h; omega
  simp [L, h1]
theorem xor_u32 {x y : Nat} (hx : x < 4294967296) (hy : y < 256) : bits BinOp.xor IntKind.u32 (x : Int) (y : Int) = ((x ^^^ y : Nat) : Int) := u32_xor_nat _ _ hx (by omega)

end Go.Proofs.Ytpdkjgmldlpaaaa.Crc
