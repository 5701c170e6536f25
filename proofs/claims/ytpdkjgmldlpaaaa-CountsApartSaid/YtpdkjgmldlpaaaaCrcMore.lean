/- The walks over More and Sum. -/
import Derived.Test.YtpdkjgmldlpaaaaOnce
namespace Go.Proofs.Ytpdkjgmldlpaaaa.Crc
open Go.RowKit CrcMath Mem

/-- The table's step in the walk's own spelling. -/
theorem step_u8 {x y : Nat} (hy : y < 256) : bits BinOp.xor IntKind.u8 ((x : Int) % 256) (y : Int) = ((x % 256 ^^^ y : Nat) : Int) := by
  rw [show ((x : Int) % 256) = ((x % 256 : Nat) : Int) from by omega, u8_xor_nat _ _ (by omega) hy]
theorem step_u32 {x y : Nat} (hx : x < 4294967296) (hy : y < 256) : bits BinOp.xor IntKind.u32 ((Lk 8 (x % 256 ^^^ y) : Nat) : Int) ((x : Int) / 256) = ((B x y : Nat) : Int) := by
  rw [show ((x : Int) / 256) = ((x / 256 : Nat) : Int) from by omega, u32_xor_nat _ _ (Lk_lt (Nat.lt_trans (Nat.xor_lt_two_pow (n := 8) (by omega) hy) (by omega)) 8) (by omega), B_table]
end Go.Proofs.Ytpdkjgmldlpaaaa.Crc
