/-
  DERIVED. GIVEN WITH THE SEED: THE CARDS: each row of YtpgabmfpffaajaaDoorRows.lean that lists a variable, with what it lists TIED to the program's text (the seventh form; the later family's looks); each row that meets fmt, with fmt's text TOLD by the authors' own Lean function (tested against real Go, not proved from fmt's source: count such statements apart). THE CARD IS WHAT COUNTS. Prove the row's statement (the work); the ties are given (YtpgabmfpffaajaaDoorTie.lean); close each card by the builder's one call (the guide's Derived/Test/ToyasCard.lean, 'card_holds'). Laid BY PROGRAM, IN A SANDBOX (cutbox-door.mjs). By AI agents, Wed Nov 11 2026. No macro, syntax, notation, axiom, sorry.
-/
import Derived.Test.YtpgabmfpffaajaaDoorRows
import GoSem.ClaimSeven
namespace Go.Proofs.YtpgabmfpffaajaaDoor
namespace Rows

/-- THE TIED CARD OF 'furrowlaw20.RunStates'. -/
def runStatesCard : Claim7 := { stood := { row := runStatesRow, standIns := [], harness := (true, "5087c87d87714ba34ca6ff36a57e9262c34b732b2ee9f222a99684788544b382"), looks := false }, kinds := [], alts := [], laidByText := true, laidKinds := [.data, .data, .data], laidTests := true, laidLooks := .later }
def RunStatesCardSaid : Prop := Claim7.holds Tryd.pinned (.plain (OpenSpec.ofChange runStatesSpec)) runStatesCard

/-- THE SECOND FORM's CARD OF 'furrowlaw20.RunStates'. -/
def runStatesUptoCard : Claim7 := { stood := { row := runStatesUptoRow, standIns := [], harness := (true, "5087c87d87714ba34ca6ff36a57e9262c34b732b2ee9f222a99684788544b382"), looks := false }, kinds := [], alts := [], laidByText := true, laidKinds := [.data, .data, .data], laidTests := true, laidLooks := .later }
def RunStatesUptoCardSaid : Prop := Claim7.holds Tryd.pinned (.plain (OpenSpec.upto runStatesSpec)) runStatesUptoCard
end Rows
end Go.Proofs.YtpgabmfpffaajaaDoor
