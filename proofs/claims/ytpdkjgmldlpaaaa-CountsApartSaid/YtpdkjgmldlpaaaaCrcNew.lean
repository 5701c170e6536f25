/- The walk over New. -/
import Derived.Test.YtpdkjgmldlpaaaaCrcMore
namespace Go.Proofs.Ytpdkjgmldlpaaaa.Crc
open Go.RowKit CrcMath Mem

def zeroCs : Array Value := #[.int .u32 0, .int .i32 0, .int .u32 0] ++ Array.replicate 256 (.int .u32 0)
theorem fresh_zero : FreshC zeroCs := ⟨by simp [zeroCs], by simp [zeroCs], by simp [zeroCs]⟩

end Go.Proofs.Ytpdkjgmldlpaaaa.Crc
