/- The walk over fill: the table's 256 numbers are laid into the object's own block, and nothing else is turned. -/
import Derived.Test.YtpdkjgmldlpaaaaCrcEight
import Derived.Test.YtpdkjgmldlpaaaaMem
import Derived.Deep.RegionWith
import Derived.StillTailTactics
namespace Go.Proofs.Ytpdkjgmldlpaaaa.Crc
open Go.RowKit CrcMath Mem

/-- The cells when the first k numbers are laid. -/
def laid (cs : Array Value) : Nat → Array Value
  | 0 => cs
  | k + 1 => (laid cs k).setIfInBounds (3 + k) (.int .u32 (Lk 8 k : Nat))
theorem laid_size (cs : Array Value) (k : Nat) : (laid cs k).size = cs.size := by
  induction k with
  | zero => rfl
  | succ k ih => simpa [laid] using ih
theorem laid_low (cs : Array Value) (k j : Nat) (h : j < 3) : (laid cs k)[j]? = cs[j]? := by
  induction k with
  | zero => rfl
  | succ k ih => rw [laid, Array.getElem?_setIfInBounds_ne (by omega)]; exact ih
theorem laid_at (cs : Array Value) (hcs : cs.size = 259) (k i : Nat) (hk : k ≤ 256) (h : i < k) : (laid cs k)[3 + i]? = some (.int .u32 (Lk 8 i : Nat)) := by
  induction k with
  | zero => omega
  | succ k ih =>
    rw [laid]
    by_cases hi : i = k
    · subst hi
      rw [Array.getElem?_setIfInBounds_self_of_lt (by rw [laid_size]; omega)]
    · rw [Array.getElem?_setIfInBounds_ne (by omega)]
      exact ih (by omega) (by omega)

end Go.Proofs.Ytpdkjgmldlpaaaa.Crc
