/- A struct that is handed back from its block, third of four results. No program's function is named. -/
import Derived.Test.YtkiohneggoiipaaStructs
namespace Go.Proofs.Ytkiohneggoiipaa.Mem
open Go.RowKit
theorem ret_row4 {P : Program} {fn : Func} {R : Ending → World → Prop} {a : Act} {w : World} {p q s u : Tmp} {ty : TypeId} (h : fn.results = #[.tmp p, .tmp q, .cell s ty, .tmp u])
    (g : Nat) (t : TypeId) (cs : Array Value) (d : TypeDesc) (hp : a.tmps.getD s undef = .pointer (some ⟨g, 0, none⟩)) (hg : Blk w g t cs)
    (hu : P.underlying ty = some d) (hd : (match d with | .struct _ | .array _ _ => true | _ => false) = true) (hi : (P.info? ty).map (·.size) = some cs.size) (hdf : a.defers = [])
    (hR : R (.returned (.tuple #[a.tmps.getD p undef, a.tmps.getD q undef, .agg cs, a.tmps.getD u undef])) w) : bodyPost P fn R .ret a w := by
  have hp' : a.tmps[s]?.getD undef = .pointer (some ⟨g, 0, none⟩) := by simpa using hp
  refine bodyPost_ret (v := .tuple #[a.tmps.getD p undef, a.tmps.getD q undef, .agg cs, a.tmps.getD u undef]) ?_ hdf hR
  simp [results, h, hp', asAddr, run_loadVar_row w g t ty cs (0, 0) d hg hu hd hi, Result.andThen]
end Go.Proofs.Ytkiohneggoiipaa.Mem
