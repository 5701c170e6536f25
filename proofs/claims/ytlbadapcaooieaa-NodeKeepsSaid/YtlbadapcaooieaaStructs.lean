/- Structs in memory: a block that is written field by field; a struct that is handed back from its block. No program's function is named. -/
import Derived.Test.YtlbadapcaooieaaMem
import Derived.Laws.ResultCell
import Derived.WalkKit
namespace Go.Proofs.Ytlbadapcaooieaa.Mem
open Go.RowKit

section
variable {w : World} {g : Nat} {t : TypeId} {z0 z1 z2 z3 z4 z5 z6 a0 a1 a2 a3 a4 a5 a6 : Value}
theorem Blk.set2 (h : Blk w g t #[z0, z1]) : Blk ((w.setCell ⟨g, 0, none⟩ a0).setCell ⟨g, 1, none⟩ a1) g t #[a0, a1] := (h.set_ 0 a0).set_ 1 a1
theorem Blk.set3 (h : Blk w g t #[z0, z1, z2]) : Blk (((w.setCell ⟨g, 0, none⟩ a0).setCell ⟨g, 1, none⟩ a1).setCell ⟨g, 2, none⟩ a2) g t #[a0, a1, a2] := ((h.set_ 0 a0).set_ 1 a1).set_ 2 a2
theorem Blk.set4 (h : Blk w g t #[z0, z1, z2, z3]) : Blk ((((w.setCell ⟨g, 0, none⟩ a0).setCell ⟨g, 1, none⟩ a1).setCell ⟨g, 2, none⟩ a2).setCell ⟨g, 3, none⟩ a3) g t #[a0, a1, a2, a3] := (((h.set_ 0 a0).set_ 1 a1).set_ 2 a2).set_ 3 a3
theorem Blk.set7 (h : Blk w g t #[z0, z1, z2, z3, z4, z5, z6]) :
    Blk (((((((w.setCell ⟨g, 0, none⟩ a0).setCell ⟨g, 1, none⟩ a1).setCell ⟨g, 2, none⟩ a2).setCell ⟨g, 3, none⟩ a3).setCell ⟨g, 4, none⟩ a4).setCell ⟨g, 5, none⟩ a5).setCell ⟨g, 6, none⟩ a6) g t #[a0, a1, a2, a3, a4, a5, a6] := by
  have h0 : Blk (w.setCell ⟨g, 0, none⟩ a0) g t #[a0, z1, z2, z3, z4, z5, z6] := h.set_ 0 a0
  have h1 : Blk ((w.setCell ⟨g, 0, none⟩ a0).setCell ⟨g, 1, none⟩ a1) g t #[a0, a1, z2, z3, z4, z5, z6] := h0.set_ 1 a1
  have h2 := h1.set_ 2 a2
  have h2 : Blk _ g t #[a0, a1, a2, z3, z4, z5, z6] := h2
  have h3 : Blk _ g t #[a0, a1, a2, a3, z4, z5, z6] := h2.set_ 3 a3
  have h4 : Blk _ g t #[a0, a1, a2, a3, a4, z5, z6] := h3.set_ 4 a4
  have h5 : Blk _ g t #[a0, a1, a2, a3, a4, a5, z6] := h4.set_ 5 a5
  exact h5.set_ 6 a6
end

theorem ret_row2 {P : Program} {fn : Func} {R : Ending → World → Prop} {a : Act} {w : World} {p u : Tmp} {ty : TypeId} (h : fn.results = #[.cell p ty, .tmp u])
    (g : Nat) (t : TypeId) (cs : Array Value) (d : TypeDesc) (hp : a.tmps.getD p undef = .pointer (some ⟨g, 0, none⟩)) (hg : Blk w g t cs)
    (hu : P.underlying ty = some d) (hd : (match d with | .struct _ | .array _ _ => true | _ => false) = true) (hi : (P.info? ty).map (·.size) = some cs.size) (hdf : a.defers = [])
    (hR : R (.returned (.tuple #[.agg cs, a.tmps.getD u undef])) w) : bodyPost P fn R .ret a w := by
  refine bodyPost_ret (v := .tuple #[.agg cs, a.tmps.getD u undef]) ?_ hdf hR
  rw [results_cell_tmp h, hp]
  simp [asAddr, run_loadVar_row w g t ty cs (0, 0) d hg hu hd hi, Result.andThen]
end Go.Proofs.Ytlbadapcaooieaa.Mem
