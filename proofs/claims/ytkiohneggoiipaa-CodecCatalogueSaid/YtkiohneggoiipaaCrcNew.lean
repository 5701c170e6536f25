/- The walk over New. -/
import Derived.Test.YtkiohneggoiipaaCrcMore
namespace Go.Proofs.Ytkiohneggoiipaa.Crc
open Go.RowKit CrcMath Mem

def zeroCs : Array Value := #[.int .u32 0, .int .i32 0, .int .u32 0] ++ Array.replicate 256 (.int .u32 0)
theorem zeroTable (w : World) : (zeroValue 104).run Try.prog w = .ok (.agg zeroCs) w := by kernel_rfl
theorem fresh_zero : FreshC zeroCs := ⟨by simp [zeroCs], by simp [zeroCs], by simp [zeroCs]⟩

set_option maxRecDepth 100000 in
set_option maxHeartbeats 800000 in
theorem new_any (w : World) :
    Calls Try.prog 14 #[] w fun e w' => e = .returned (.pointer (some ⟨w.heap.size, 0, none⟩)) ∧ w' = w.alloc (.cells zeroCs 104) := by
  have hz := zeroTable
  go_enter Try.func14, Try.ntmps14
  go_wp2
  go_ret
  exact ⟨rfl, rfl⟩

end Go.Proofs.Ytkiohneggoiipaa.Crc
