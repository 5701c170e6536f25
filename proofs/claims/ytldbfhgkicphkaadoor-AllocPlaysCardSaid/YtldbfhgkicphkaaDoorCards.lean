/-
  DERIVED. GIVEN WITH THE SEED: THE CARDS: each row of YtldbfhgkicphkaaDoorRows.lean that lists a variable, with what it lists TIED to the program's text (the seventh form; the later family's looks); each row that meets fmt, with fmt's text TOLD by the authors' own Lean function (tested against real Go, not proved from fmt's source: count such statements apart). THE CARD IS WHAT COUNTS. Prove the row's statement (the work); the ties are given (YtldbfhgkicphkaaDoorTie.lean); close each card by the builder's one call (the guide's Derived/Test/ToyasCard.lean, 'card_holds'). Laid BY PROGRAM, IN A SANDBOX (cutbox-door.mjs). By AI agents, Wed Nov 11 2026. No macro, syntax, notation, axiom, sorry.
-/
import Derived.Test.YtldbfhgkicphkaaDoorRows
import GoSem.ClaimSeven
namespace Go.Proofs.YtldbfhgkicphkaaDoor
namespace Rows

/-- THE TIED CARD OF 'polderlaw08.AllocPlays'. -/
def allocPlaysCard : Claim7 := { stood := { row := allocPlaysRow, standIns := [], harness := (true, "eaa12bb3b85576711342ae86011823c02a723958b4d73414bf9689155bbf549d"), looks := false }, kinds := [], alts := [], laidByText := true, laidKinds := [.data], laidTests := true, laidLooks := .later }
def AllocPlaysCardSaid : Prop := Claim7.holds Tryd.pinned (.plain (OpenSpec.ofChange allocPlaysSpec)) allocPlaysCard

/-- THE TIED CARD OF 'polderlaw08.AllocRuns'. -/
def allocRunsCard : Claim7 := { stood := { row := allocRunsRow, standIns := [], harness := (true, "eaa12bb3b85576711342ae86011823c02a723958b4d73414bf9689155bbf549d"), looks := false }, kinds := [], alts := [], laidByText := true, laidKinds := [.data], laidTests := true, laidLooks := .later }
def AllocRunsCardSaid : Prop := Claim7.holds Tryd.pinned (.plain (OpenSpec.ofChange allocRunsSpec)) allocRunsCard

/-- THE TIED CARD OF 'polderlaw08.AllocUndo'. -/
def allocUndoCard : Claim7 := { stood := { row := allocUndoRow, standIns := [], harness := (true, "eaa12bb3b85576711342ae86011823c02a723958b4d73414bf9689155bbf549d"), looks := false }, kinds := [], alts := [], laidByText := true, laidKinds := [.data], laidTests := true, laidLooks := .later }
def AllocUndoCardSaid : Prop := Claim7.holds Tryd.pinned (.plain (OpenSpec.ofChange allocUndoSpec)) allocUndoCard

/-- THE TIED CARD OF 'polderlaw08.AllocFill'. -/
def allocFillCard : Claim7 := { stood := { row := allocFillRow, standIns := [], harness := (true, "eaa12bb3b85576711342ae86011823c02a723958b4d73414bf9689155bbf549d"), looks := false }, kinds := [], alts := [], laidByText := true, laidKinds := [.data], laidTests := true, laidLooks := .later }
def AllocFillCardSaid : Prop := Claim7.holds Tryd.pinned (.plain (OpenSpec.ofChange allocFillSpec)) allocFillCard

/-- THE SECOND FORM's CARD OF 'polderlaw08.AllocPlays'. -/
def allocPlaysUptoCard : Claim7 := { stood := { row := allocPlaysUptoRow, standIns := [], harness := (true, "eaa12bb3b85576711342ae86011823c02a723958b4d73414bf9689155bbf549d"), looks := false }, kinds := [], alts := [], laidByText := true, laidKinds := [.data], laidTests := true, laidLooks := .later }
def AllocPlaysUptoCardSaid : Prop := Claim7.holds Tryd.pinned (.plain (OpenSpec.upto allocPlaysSpec)) allocPlaysUptoCard

/-- THE SECOND FORM's CARD OF 'polderlaw08.AllocRuns'. -/
def allocRunsUptoCard : Claim7 := { stood := { row := allocRunsUptoRow, standIns := [], harness := (true, "eaa12bb3b85576711342ae86011823c02a723958b4d73414bf9689155bbf549d"), looks := false }, kinds := [], alts := [], laidByText := true, laidKinds := [.data], laidTests := true, laidLooks := .later }
def AllocRunsUptoCardSaid : Prop := Claim7.holds Tryd.pinned (.plain (OpenSpec.upto allocRunsSpec)) allocRunsUptoCard

/-- THE SECOND FORM's CARD OF 'polderlaw08.AllocUndo'. -/
def allocUndoUptoCard : Claim7 := { stood := { row := allocUndoUptoRow, standIns := [], harness := (true, "eaa12bb3b85576711342ae86011823c02a723958b4d73414bf9689155bbf549d"), looks := false }, kinds := [], alts := [], laidByText := true, laidKinds := [.data], laidTests := true, laidLooks := .later }
def AllocUndoUptoCardSaid : Prop := Claim7.holds Tryd.pinned (.plain (OpenSpec.upto allocUndoSpec)) allocUndoUptoCard

/-- THE SECOND FORM's CARD OF 'polderlaw08.AllocFill'. -/
def allocFillUptoCard : Claim7 := { stood := { row := allocFillUptoRow, standIns := [], harness := (true, "eaa12bb3b85576711342ae86011823c02a723958b4d73414bf9689155bbf549d"), looks := false }, kinds := [], alts := [], laidByText := true, laidKinds := [.data], laidTests := true, laidLooks := .later }
def AllocFillUptoCardSaid : Prop := Claim7.holds Tryd.pinned (.plain (OpenSpec.upto allocFillSpec)) allocFillUptoCard
end Rows
end Go.Proofs.YtldbfhgkicphkaaDoor
