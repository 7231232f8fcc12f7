/-
  DERIVED. GIVEN WITH THE SEED: THE CARDS: each row of YtngoifbflpeapacGreatDoorRows.lean that lists a variable, with what it lists TIED to the program's text (the seventh form; the later family's looks); each row that meets fmt, with fmt's text TOLD by the authors' own Lean function (tested against real Go, not proved from fmt's source: count such statements apart). THE CARD IS WHAT COUNTS. Prove the row's statement (the work); the ties are given (YtngoifbflpeapacGreatDoorTie.lean); close each card by the builder's one call (the guide's Derived/Test/ToyasCard.lean, 'card_holds'). Laid BY PROGRAM, IN A SANDBOX (cutbox-door.mjs). By AI agents, Wed Nov 11 2026. No macro, syntax, notation, axiom, sorry.
-/
import Derived.Test.YtngoifbflpeapacGreatDoorRows
import GoSem.ClaimSeven
namespace Go.Proofs.YtngoifbflpeapacGreatDoor
namespace Rows

/-- THE TIED CARD OF 'furrowlaw19.ScriptWritten'. -/
def scriptWrittenCard : Claim7 := { stood := { row := scriptWrittenRow, standIns := [], harness := (true, "e3432ec03d1c7f37ab433fc9f1f3e13ae4a80be2879f5f7e55105145de6a2af0"), looks := true }, kinds := [], alts := [], laidByText := true, laidKinds := [.data, .data, .data, .data, .sentinel, .sentinel, .pinned], laidTests := true, laidLooks := .later }
def ScriptWrittenCardSaid : Prop := Claim7.holds Tryz.pinned (.plain (OpenSpec.ofChange scriptWrittenSpec)) scriptWrittenCard

/-- THE TIED CARD OF 'furrowlaw19.ScriptApart'. -/
def scriptApartCard : Claim7 := { stood := { row := scriptApartRow, standIns := [], harness := (true, "e3432ec03d1c7f37ab433fc9f1f3e13ae4a80be2879f5f7e55105145de6a2af0"), looks := true }, kinds := [], alts := [], laidByText := true, laidKinds := [.data, .data, .data, .data, .sentinel, .sentinel, .pinned], laidTests := true, laidLooks := .later }
def ScriptApartCardSaid : Prop := Claim7.holds Tryz.pinned (.plain (OpenSpec.ofChange scriptApartSpec)) scriptApartCard

/-- THE TIED CARD OF 'furrowlaw19.ScriptParses'. -/
def scriptParsesCard : Claim7 := { stood := { row := scriptParsesRow, standIns := [], harness := (true, "e3432ec03d1c7f37ab433fc9f1f3e13ae4a80be2879f5f7e55105145de6a2af0"), looks := true }, kinds := [], alts := [], laidByText := true, laidKinds := [.data, .data, .data, .data, .sentinel, .sentinel, .data, .pinned], laidTests := true, laidLooks := .later }
def ScriptParsesCardSaid : Prop := Claim7.holds Tryz.pinned (.plain (OpenSpec.ofChange scriptParsesSpec)) scriptParsesCard

/-- THE SECOND FORM's CARD OF 'furrowlaw19.ScriptWritten'. -/
def scriptWrittenUptoCard : Claim7 := { stood := { row := scriptWrittenUptoRow, standIns := [], harness := (true, "e3432ec03d1c7f37ab433fc9f1f3e13ae4a80be2879f5f7e55105145de6a2af0"), looks := true }, kinds := [], alts := [], laidByText := true, laidKinds := [.data, .data, .data, .data, .sentinel, .sentinel, .pinned], laidTests := true, laidLooks := .later }
def ScriptWrittenUptoCardSaid : Prop := Claim7.holds Tryz.pinned (.plain (OpenSpec.upto scriptWrittenSpec)) scriptWrittenUptoCard

/-- THE SECOND FORM's CARD OF 'furrowlaw19.ScriptApart'. -/
def scriptApartUptoCard : Claim7 := { stood := { row := scriptApartUptoRow, standIns := [], harness := (true, "e3432ec03d1c7f37ab433fc9f1f3e13ae4a80be2879f5f7e55105145de6a2af0"), looks := true }, kinds := [], alts := [], laidByText := true, laidKinds := [.data, .data, .data, .data, .sentinel, .sentinel, .pinned], laidTests := true, laidLooks := .later }
def ScriptApartUptoCardSaid : Prop := Claim7.holds Tryz.pinned (.plain (OpenSpec.upto scriptApartSpec)) scriptApartUptoCard

/-- THE SECOND FORM's CARD OF 'furrowlaw19.ScriptParses'. -/
def scriptParsesUptoCard : Claim7 := { stood := { row := scriptParsesUptoRow, standIns := [], harness := (true, "e3432ec03d1c7f37ab433fc9f1f3e13ae4a80be2879f5f7e55105145de6a2af0"), looks := true }, kinds := [], alts := [], laidByText := true, laidKinds := [.data, .data, .data, .data, .sentinel, .sentinel, .data, .pinned], laidTests := true, laidLooks := .later }
def ScriptParsesUptoCardSaid : Prop := Claim7.holds Tryz.pinned (.plain (OpenSpec.upto scriptParsesSpec)) scriptParsesUptoCard
end Rows
end Go.Proofs.YtngoifbflpeapacGreatDoor
