/-
  No cell of these rows narrows 'for every input' (looked for: loops, veiled, ifaces, maps, wideKeys, modest, calm, conditions, laid).
  DERIVED. THE GIVEN ROWS OF THIS SEAT. 3 by the template 'for every input the law returns true; each argument reads behind the call as it read before'; 0 by the template 'total and deterministic' (their statements: YtfiekdgpdboolacTotals.lean).
  GIVEN WITH THE SEED: the statements are not yours to turn. If you find one false, say at which input.
  Laid BY PROGRAM, IN A SANDBOX (cutbox-rows.mjs): the forced cells as the released guide's own fill.sh prints them over the translation 2d8290042e4f1b41… (all of the seat's roots in one cut). By AI agents, Wed Nov 11 2026. No macro, syntax, notation, axiom, sorry.
-/
import Derived.Test.YtfiekdgpdboolacChecked
import GoSem.Claim
import GoSem.ClaimJoined
import GoSem.ClaimMapViews
import Derived.JoinedTies
import Derived.KernelRfl
namespace Go.Proofs.Ytfiekdgpdboolac
/- THE CELL 'sum', in the pinned program and in every row, IS THE sha256 OF THE DUMP (.gsa) THAT YtfiekdgpdboolacProg.lean LOADS. Nothing in Lean hashes anything: it is a label: what it is worth is what the hold of that sum in a sandbox is worth. -/
noncomputable def Try.pinned : Pinned := { name := "ytfiekdgpdboolac", sum := "2d8290042e4f1b41dbc189a7e5204563dc82cbe75772e7af47abef13d21be8ee", checked := Try.checked }
namespace Rows
def none {H : Type} : Left H := { results := [], args := [] }

/-- 'furrowlaw01.PmemCrashes': WHATEVER THE INPUT: true; the input reads as it did. -/
def pmemCrashesSpec : ChangeSpec := { name := "pmemCrashes", fn := fun _ => fun
  | [d] => { results := [.lit (.bool true)], args := [d] }
  | _ => none }
def pmemCrashesRow : OpenClaim := { program := "ytfiekdgpdboolac", sum := "2d8290042e4f1b41dbc189a7e5204563dc82cbe75772e7af47abef13d21be8ee", func := "furrow/furrowlaw01.PmemCrashes", spec := "pmemCrashes", unfollowed := true, recurses := true, apart := false }
def PmemCrashesSaid : Prop := pmemCrashesRow.holds Try.pinned (OpenSpec.ofChange pmemCrashesSpec)

/-- ITS FALSE NEIGHBOUR: 'it returns false'. Refute it at one input. -/
def pmemCrashesWrong : ChangeSpec := { name := "pmemCrashes", fn := fun _ => fun
  | [d] => { results := [.lit (.bool false)], args := [d] }
  | _ => none }
def PmemCrashesWrongFalsely : Prop := pmemCrashesRow.holds Try.pinned (OpenSpec.ofChange pmemCrashesWrong)

/-- 'furrowlaw01.PmemViews': WHATEVER THE INPUT: true; the input reads as it did. -/
def pmemViewsSpec : ChangeSpec := { name := "pmemViews", fn := fun _ => fun
  | [d] => { results := [.lit (.bool true)], args := [d] }
  | _ => none }
def pmemViewsRow : OpenClaim := { program := "ytfiekdgpdboolac", sum := "2d8290042e4f1b41dbc189a7e5204563dc82cbe75772e7af47abef13d21be8ee", func := "furrow/furrowlaw01.PmemViews", spec := "pmemViews", unfollowed := true, recurses := true, apart := false }
def PmemViewsSaid : Prop := pmemViewsRow.holds Try.pinned (OpenSpec.ofChange pmemViewsSpec)

/-- ITS FALSE NEIGHBOUR: 'it returns false'. Refute it at one input. -/
def pmemViewsWrong : ChangeSpec := { name := "pmemViews", fn := fun _ => fun
  | [d] => { results := [.lit (.bool false)], args := [d] }
  | _ => none }
def PmemViewsWrongFalsely : Prop := pmemViewsRow.holds Try.pinned (OpenSpec.ofChange pmemViewsWrong)

/-- 'furrowlaw01.PmemAll': WHATEVER THE INPUT: true; the input reads as it did. -/
def pmemAllSpec : ChangeSpec := { name := "pmemAll", fn := fun _ => fun
  | [d] => { results := [.lit (.bool true)], args := [d] }
  | _ => none }
def pmemAllRow : OpenClaim := { program := "ytfiekdgpdboolac", sum := "2d8290042e4f1b41dbc189a7e5204563dc82cbe75772e7af47abef13d21be8ee", func := "furrow/furrowlaw01.PmemAll", spec := "pmemAll", unfollowed := true, recurses := true, apart := false }
def PmemAllSaid : Prop := pmemAllRow.holds Try.pinned (OpenSpec.ofChange pmemAllSpec)

/-- ITS FALSE NEIGHBOUR: 'it returns false'. Refute it at one input. -/
def pmemAllWrong : ChangeSpec := { name := "pmemAll", fn := fun _ => fun
  | [d] => { results := [.lit (.bool false)], args := [d] }
  | _ => none }
def PmemAllWrongFalsely : Prop := pmemAllRow.holds Try.pinned (OpenSpec.ofChange pmemAllWrong)

/- THE SECOND FORM. 'bulk': how many values and letters a reading holds, each counted each time it is reached (what is shared counts as often as it is met; a slice's spare places count too). A statement '..UptoSaid' is the law's where the arguments, and the package variables that the reading takes, are together of bulk at most 1048576: NARROWER than '..Said'. Prove '..Said' where nothing that the law and all that it calls make is longer than what came in: it says more and counts as full. Else prove '..UptoSaid'. A law counts once. -/
mutual
def uptoBulk {H : Type} : DataW H → Nat
  | .lit (.string bytes) => bytes.length + 1
  | .lit _ => 1
  | .nil => 1
  | .ptr d => uptoBulk d + 1
  | .slice elems spare => uptoBulkAll elems + uptoBulkAll spare + 1
  | .agg parts => uptoBulkAll parts + 1
  | .iface _ d => uptoBulk d + 1
  | .map entries => uptoBulkEntries entries + 1
  | .held _ => 1
def uptoBulkAll {H : Type} : List (DataW H) → Nat
  | [] => 0
  | d :: r => uptoBulk d + uptoBulkAll r
def uptoBulkEntries {H : Type} : List (Lit × DataW H) → Nat
  | [] => 0
  | x :: r => uptoBulkEntry x + uptoBulkEntries r
def uptoBulkEntry {H : Type} : Lit × DataW H → Nat
  | (.string bytes, d) => bytes.length + uptoBulk d + 1
  | (_, d) => uptoBulk d + 1
 end
def uptoSmall : (H : Type) → List (DataW H) → Bool := fun _ ds => decide (uptoBulkAll ds ≤ 1048576)
def OpenSpec.upto (s : _root_.Go.ChangeSpec) : _root_.Go.OpenSpec := { _root_.Go.OpenSpec.ofChange s with cond := some uptoSmall }

/-- 'furrowlaw01.PmemCrashes', WHERE WHAT IT READS IS OF BULK AT MOST 1048576: true; the input reads as it did. -/
def pmemCrashesUptoRow : OpenClaim := { program := "ytfiekdgpdboolac", sum := "2d8290042e4f1b41dbc189a7e5204563dc82cbe75772e7af47abef13d21be8ee", func := "furrow/furrowlaw01.PmemCrashes", spec := "pmemCrashes", unfollowed := true, recurses := true, apart := false, narrowed := true }
def PmemCrashesUptoSaid : Prop := pmemCrashesUptoRow.holds Try.pinned (OpenSpec.upto pmemCrashesSpec)

/-- 'furrowlaw01.PmemViews', WHERE WHAT IT READS IS OF BULK AT MOST 1048576: true; the input reads as it did. -/
def pmemViewsUptoRow : OpenClaim := { program := "ytfiekdgpdboolac", sum := "2d8290042e4f1b41dbc189a7e5204563dc82cbe75772e7af47abef13d21be8ee", func := "furrow/furrowlaw01.PmemViews", spec := "pmemViews", unfollowed := true, recurses := true, apart := false, narrowed := true }
def PmemViewsUptoSaid : Prop := pmemViewsUptoRow.holds Try.pinned (OpenSpec.upto pmemViewsSpec)

/-- 'furrowlaw01.PmemAll', WHERE WHAT IT READS IS OF BULK AT MOST 1048576: true; the input reads as it did. -/
def pmemAllUptoRow : OpenClaim := { program := "ytfiekdgpdboolac", sum := "2d8290042e4f1b41dbc189a7e5204563dc82cbe75772e7af47abef13d21be8ee", func := "furrow/furrowlaw01.PmemAll", spec := "pmemAll", unfollowed := true, recurses := true, apart := false, narrowed := true }
def PmemAllUptoSaid : Prop := pmemAllUptoRow.holds Try.pinned (OpenSpec.upto pmemAllSpec)

end Rows
end Go.Proofs.Ytfiekdgpdboolac
