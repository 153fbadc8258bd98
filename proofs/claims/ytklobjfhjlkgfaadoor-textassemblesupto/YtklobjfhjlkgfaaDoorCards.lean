/-
  DERIVED. GIVEN WITH THE SEED: THE CARDS: each row of YtklobjfhjlkgfaaDoorRows.lean that lists a variable, with what it lists TIED to the program's text (the seventh form; the later family's looks); each row that meets fmt, with fmt's text TOLD by the authors' own Lean function (tested against real Go, not proved from fmt's source: count such statements apart). THE CARD IS WHAT COUNTS. Prove the row's statement (the work); the ties are given (YtklobjfhjlkgfaaDoorTie.lean); close each card by the builder's one call (the guide's Derived/Test/ToyasCard.lean, 'card_holds'). Laid BY PROGRAM, IN A SANDBOX (cutbox-door.mjs). By AI agents, Wed Nov 11 2026. No macro, syntax, notation, axiom, sorry.
-/
import Derived.Test.YtklobjfhjlkgfaaDoorRows
import GoSem.ClaimSeven
namespace Go.Proofs.YtklobjfhjlkgfaaDoor
namespace Rows

/-- THE TIED CARD OF 'foliantlaw.TextShows'. -/
def textShowsCard : Claim7 := { stood := { row := textShowsRow, standIns := [], harness := (true, "b31123e73ade7eee15e6d39c8c7910f595c9b211f1d62b840003b97e6c20e0e1"), looks := true }, kinds := [], alts := [], laidByText := true, laidKinds := [.data, .data, .data, .data, .sentinel, .sentinel, .data, .pinned], laidTests := true, laidLooks := .later }
def TextShowsCardSaid : Prop := Claim7.holds Tryd.pinned (.plain (OpenSpec.ofChange textShowsSpec)) textShowsCard

/-- THE TIED CARD OF 'foliantlaw.TextAssembles'. -/
def textAssemblesCard : Claim7 := { stood := { row := textAssemblesRow, standIns := [], harness := (true, "b31123e73ade7eee15e6d39c8c7910f595c9b211f1d62b840003b97e6c20e0e1"), looks := true }, kinds := [], alts := [], laidByText := true, laidKinds := [.data, .data, .data, .data, .sentinel, .sentinel, .data, .pinned], laidTests := true, laidLooks := .later }
def TextAssemblesCardSaid : Prop := Claim7.holds Tryd.pinned (.plain (OpenSpec.ofChange textAssemblesSpec)) textAssemblesCard

/-- THE TIED CARD OF 'foliantlaw.TextBack'. -/
def textBackCard : Claim7 := { stood := { row := textBackRow, standIns := [], harness := (true, "b31123e73ade7eee15e6d39c8c7910f595c9b211f1d62b840003b97e6c20e0e1"), looks := true }, kinds := [], alts := [], laidByText := true, laidKinds := [.data, .data, .data, .data, .sentinel, .sentinel, .data, .pinned], laidTests := true, laidLooks := .later }
def TextBackCardSaid : Prop := Claim7.holds Tryd.pinned (.plain (OpenSpec.ofChange textBackSpec)) textBackCard

/-- THE SECOND FORM's CARD OF 'foliantlaw.TextShows'. -/
def textShowsUptoCard : Claim7 := { stood := { row := textShowsUptoRow, standIns := [], harness := (true, "b31123e73ade7eee15e6d39c8c7910f595c9b211f1d62b840003b97e6c20e0e1"), looks := true }, kinds := [], alts := [], laidByText := true, laidKinds := [.data, .data, .data, .data, .sentinel, .sentinel, .data, .pinned], laidTests := true, laidLooks := .later }
def TextShowsUptoCardSaid : Prop := Claim7.holds Tryd.pinned (.plain (OpenSpec.upto textShowsSpec)) textShowsUptoCard

/-- THE SECOND FORM's CARD OF 'foliantlaw.TextAssembles'. -/
def textAssemblesUptoCard : Claim7 := { stood := { row := textAssemblesUptoRow, standIns := [], harness := (true, "b31123e73ade7eee15e6d39c8c7910f595c9b211f1d62b840003b97e6c20e0e1"), looks := true }, kinds := [], alts := [], laidByText := true, laidKinds := [.data, .data, .data, .data, .sentinel, .sentinel, .data, .pinned], laidTests := true, laidLooks := .later }
def TextAssemblesUptoCardSaid : Prop := Claim7.holds Tryd.pinned (.plain (OpenSpec.upto textAssemblesSpec)) textAssemblesUptoCard

/-- THE SECOND FORM's CARD OF 'foliantlaw.TextBack'. -/
def textBackUptoCard : Claim7 := { stood := { row := textBackUptoRow, standIns := [], harness := (true, "b31123e73ade7eee15e6d39c8c7910f595c9b211f1d62b840003b97e6c20e0e1"), looks := true }, kinds := [], alts := [], laidByText := true, laidKinds := [.data, .data, .data, .data, .sentinel, .sentinel, .data, .pinned], laidTests := true, laidLooks := .later }
def TextBackUptoCardSaid : Prop := Claim7.holds Tryd.pinned (.plain (OpenSpec.upto textBackSpec)) textBackUptoCard
end Rows
end Go.Proofs.YtklobjfhjlkgfaaDoor
