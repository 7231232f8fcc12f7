/-
  DERIVED. GIVEN WITH THE SEED: THE CARDS: each row of YtngoifbflpeapaaDoorRows.lean that lists a variable, with what it lists TIED to the program's text (the seventh form; the later family's looks); each row that meets fmt, with fmt's text TOLD by the authors' own Lean function (tested against real Go, not proved from fmt's source: count such statements apart). THE CARD IS WHAT COUNTS. Prove the row's statement (the work); the ties are given (YtngoifbflpeapaaDoorTie.lean); close each card by the builder's one call (the guide's Derived/Test/ToyasCard.lean, 'card_holds'). Laid BY PROGRAM, IN A SANDBOX (cutbox-door.mjs). By AI agents, Wed Nov 11 2026. No macro, syntax, notation, axiom, sorry.
-/
import Derived.Test.YtngoifbflpeapaaDoorRows
import GoSem.ClaimSeven
namespace Go.Proofs.YtngoifbflpeapaaDoor
namespace Rows

/-- THE TIED CARD OF 'furrowlaw19.ScriptUnlike'. -/
def scriptUnlikeCard : Claim7 := { stood := { row := scriptUnlikeRow, standIns := [], harness := (true, "229176fbc357bfad37942710e795a8538dc4eb4072f3a138c54110fcb0255b67"), looks := true }, kinds := [], alts := [], laidByText := true, laidKinds := [.data, .data, .data, .sentinel, .sentinel], laidTests := true, laidLooks := .later }
def ScriptUnlikeCardSaid : Prop := Claim7.holds Tryd.pinned (.plain (OpenSpec.ofChange scriptUnlikeSpec)) scriptUnlikeCard

/-- THE TIED CARD OF 'furrowlaw19.ScriptFields'. -/
def scriptFieldsCard : Claim7 := { stood := { row := scriptFieldsRow, standIns := [], harness := (true, "229176fbc357bfad37942710e795a8538dc4eb4072f3a138c54110fcb0255b67"), looks := true }, kinds := [], alts := [], laidByText := true, laidKinds := [.data, .data, .data, .sentinel, .sentinel], laidTests := true, laidLooks := .later }
def ScriptFieldsCardSaid : Prop := Claim7.holds Tryd.pinned (.plain (OpenSpec.ofChange scriptFieldsSpec)) scriptFieldsCard

/-- THE SECOND FORM's CARD OF 'furrowlaw19.ScriptUnlike'. -/
def scriptUnlikeUptoCard : Claim7 := { stood := { row := scriptUnlikeUptoRow, standIns := [], harness := (true, "229176fbc357bfad37942710e795a8538dc4eb4072f3a138c54110fcb0255b67"), looks := true }, kinds := [], alts := [], laidByText := true, laidKinds := [.data, .data, .data, .sentinel, .sentinel], laidTests := true, laidLooks := .later }
def ScriptUnlikeUptoCardSaid : Prop := Claim7.holds Tryd.pinned (.plain (OpenSpec.upto scriptUnlikeSpec)) scriptUnlikeUptoCard

/-- THE SECOND FORM's CARD OF 'furrowlaw19.ScriptFields'. -/
def scriptFieldsUptoCard : Claim7 := { stood := { row := scriptFieldsUptoRow, standIns := [], harness := (true, "229176fbc357bfad37942710e795a8538dc4eb4072f3a138c54110fcb0255b67"), looks := true }, kinds := [], alts := [], laidByText := true, laidKinds := [.data, .data, .data, .sentinel, .sentinel], laidTests := true, laidLooks := .later }
def ScriptFieldsUptoCardSaid : Prop := Claim7.holds Tryd.pinned (.plain (OpenSpec.upto scriptFieldsSpec)) scriptFieldsUptoCard
end Rows
end Go.Proofs.YtngoifbflpeapaaDoor
