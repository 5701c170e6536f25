/- The walk over eightTimes: eight bits' steps. -/
import Derived.Test.YtpdkjgmldlpaaaaBytes
namespace Go.Proofs.Ytpdkjgmldlpaaaa.Crc
open Go.RowKit CrcMath

theorem low_and {x : Nat} (hx : x < 4294967296) : bits BinOp.and IntKind.u32 (↑x) 1 = ((x % 2 : Nat) : Int) := by
  rw [show (1 : Int) = ((1 : Nat) : Int) from rfl, u32_and_nat x 1 hx (by omega), nat_mask1]
theorem L_odd {x : Nat} (hx : x < 4294967296) (h : (bits BinOp.and IntKind.u32 (↑x) 1 == 1) = true) : bits BinOp.xor IntKind.u32 (↑x / 2) 2197175160 = ((L x : Nat) : Int) := by
  rw [low_and hx] at h
  have h1 : x % 2 = 1 := by simp at h; omega
  rw [show (↑x / 2 : Int) = ((x / 2 : Nat) : Int) from by omega, show (2197175160 : Int) = ((2197175160 : Nat) : Int) from rfl, u32_xor_nat _ _ (by omega) (by omega)]
  simp [L, h1]
theorem L_even {x : Nat} (hx : x < 4294967296) (h : (bits BinOp.and IntKind.u32 (↑x) 1 == 1) = false) : (↑x / 2 : Int) = ((L x : Nat) : Int) := by
  rw [low_and hx] at h
  have h1 : ¬ x % 2 = 1 := by simp at h; omega
  simp [L, h1]

end Go.Proofs.Ytpdkjgmldlpaaaa.Crc
