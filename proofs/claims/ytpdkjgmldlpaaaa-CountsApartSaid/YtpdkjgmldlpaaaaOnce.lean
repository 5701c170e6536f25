/- sync.Once in a table, one goroutine: asked for the first time it fills the table; asked again it does nothing. -/
import Derived.Test.YtpdkjgmldlpaaaaCrcFill
import Derived.Test.YtpdkjgmldlpaaaaOnceParts
namespace Go.Proofs.Ytpdkjgmldlpaaaa.Crc
open Go.RowKit CrcMath Mem
open Go.MuLone

/-- A table that nobody has asked; one whose numbers are laid. -/
def FreshC (cs : Array Value) : Prop := cs.size = 259 ∧ cs[0]? = some (.int .u32 0) ∧ cs[1]? = some (.int .i32 0)
def ReadyC (cs : Array Value) : Prop := cs.size = 259 ∧ cs[0]? = some (.int .u32 1) ∧ ∀ i, i < 256 → cs[3 + i]? = some (.int .u32 (Lk 8 i : Nat))
theorem ready_of_fresh {cs : Array Value} (h : FreshC cs) : ReadyC (((laid (cs.setIfInBounds 1 (.int .i32 1)) 256).setIfInBounds 0 (.int .u32 1)).setIfInBounds 1 (.int .i32 0)) := by
  obtain ⟨hs, _, _⟩ := h
  refine ⟨by simp [laid_size, hs], ?_, fun i hi => ?_⟩
  · rw [Array.getElem?_setIfInBounds_ne (by omega), Array.getElem?_setIfInBounds_self_of_lt (by rw [laid_size]; simp; omega)]
  · rw [Array.getElem?_setIfInBounds_ne (by omega), Array.getElem?_setIfInBounds_ne (by omega), laid_at _ (by simpa using hs) 256 i (by omega) hi]

end Go.Proofs.Ytpdkjgmldlpaaaa.Crc
