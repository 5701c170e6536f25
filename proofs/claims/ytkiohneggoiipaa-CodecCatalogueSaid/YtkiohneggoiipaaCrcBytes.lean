/- What stays of a table whose numbers are laid; all of layer 1's texts in one. -/
import Derived.Test.YtkiohneggoiipaaCrcNew
import Derived.Test.YtkiohneggoiipaaCrcRef
namespace Go.Proofs.Ytkiohneggoiipaa.Crc
open Go.RowKit CrcMath Mem
theorem Ready.keep {w w' : World} {b : Nat} {row : Option Nat} (h : Ready w b) (hg : w.grownBy w' row) (hne : some b ≠ row) : Ready w' b := by
  obtain ⟨cs, hb, hc⟩ := h
  exact ⟨cs, hb.grown hg hne, hc⟩
theorem Ready.drewN {w : World} {b : Nat} (h : Ready w b) (n : Nat) : Ready (w.drewN n) b := h
end Go.Proofs.Ytkiohneggoiipaa.Crc
