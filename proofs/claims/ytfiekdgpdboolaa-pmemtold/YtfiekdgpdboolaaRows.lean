/-
  No cell of these rows narrows 'for every input' (looked for: loops, veiled, ifaces, maps, wideKeys, modest, calm, conditions, laid).
  DERIVED. THE GIVEN ROWS OF THIS SEAT. 6 by the template 'for every input the law returns true; each argument reads behind the call as it read before'; 0 by the template 'total and deterministic' (their statements: YtfiekdgpdboolaaTotals.lean).
  GIVEN WITH THE SEED: the statements are not yours to turn. If you find one false, say at which input.
  Laid BY PROGRAM, IN A SANDBOX (cutbox-rows.mjs): the forced cells as the released guide's own fill.sh prints them over the translation 7a1f68766a70a003… (all of the seat's roots in one cut). By AI agents, Wed Nov 11 2026. No macro, syntax, notation, axiom, sorry.
-/
import Derived.Test.YtfiekdgpdboolaaChecked
import GoSem.Claim
import GoSem.ClaimJoined
import GoSem.ClaimMapViews
import Derived.JoinedTies
import Derived.KernelRfl
namespace Go.Proofs.Ytfiekdgpdboolaa
/- THE CELL 'sum', in the pinned program and in every row, IS THE sha256 OF THE DUMP (.gsa) THAT YtfiekdgpdboolaaProg.lean LOADS. Nothing in Lean hashes anything: it is a label: what it is worth is what the hold of that sum in a sandbox is worth. -/
noncomputable def Try.pinned : Pinned := { name := "ytfiekdgpdboolaa", sum := "7a1f68766a70a0032ca29b6a5374bd310f12b921e54c2c2c7e58a2815d1d7910", checked := Try.checked }
namespace Rows
def none {H : Type} : Left H := { results := [], args := [] }

/-- 'furrowlaw01.PmemWhole': WHATEVER THE INPUT: true; the input reads as it did. -/
def pmemWholeSpec : ChangeSpec := { name := "pmemWhole", fn := fun _ => fun
  | [d1, d2, d3] => { results := [.lit (.bool true)], args := [d1, d2, d3] }
  | _ => none }
def pmemWholeRow : OpenClaim := { program := "ytfiekdgpdboolaa", sum := "7a1f68766a70a0032ca29b6a5374bd310f12b921e54c2c2c7e58a2815d1d7910", func := "furrow/furrowlaw01.PmemWhole", spec := "pmemWhole", unfollowed := true, recurses := true, apart := false }
def PmemWholeSaid : Prop := pmemWholeRow.holds Try.pinned (OpenSpec.ofChange pmemWholeSpec)

/-- ITS FALSE NEIGHBOUR: 'it returns false'. Refute it at one input. -/
def pmemWholeWrong : ChangeSpec := { name := "pmemWhole", fn := fun _ => fun
  | [d1, d2, d3] => { results := [.lit (.bool false)], args := [d1, d2, d3] }
  | _ => none }
def PmemWholeWrongFalsely : Prop := pmemWholeRow.holds Try.pinned (OpenSpec.ofChange pmemWholeWrong)

/-- 'furrowlaw01.PmemFenced': WHATEVER THE INPUT: true; the input reads as it did. -/
def pmemFencedSpec : ChangeSpec := { name := "pmemFenced", fn := fun _ => fun
  | [d] => { results := [.lit (.bool true)], args := [d] }
  | _ => none }
def pmemFencedRow : OpenClaim := { program := "ytfiekdgpdboolaa", sum := "7a1f68766a70a0032ca29b6a5374bd310f12b921e54c2c2c7e58a2815d1d7910", func := "furrow/furrowlaw01.PmemFenced", spec := "pmemFenced", unfollowed := true, recurses := true, apart := false }
def PmemFencedSaid : Prop := pmemFencedRow.holds Try.pinned (OpenSpec.ofChange pmemFencedSpec)

/-- ITS FALSE NEIGHBOUR: 'it returns false'. Refute it at one input. -/
def pmemFencedWrong : ChangeSpec := { name := "pmemFenced", fn := fun _ => fun
  | [d] => { results := [.lit (.bool false)], args := [d] }
  | _ => none }
def PmemFencedWrongFalsely : Prop := pmemFencedRow.holds Try.pinned (OpenSpec.ofChange pmemFencedWrong)

/-- 'furrowlaw01.PmemCalm': WHATEVER THE INPUT: true; the input reads as it did. -/
def pmemCalmSpec : ChangeSpec := { name := "pmemCalm", fn := fun _ => fun
  | [d1, d2, d3] => { results := [.lit (.bool true)], args := [d1, d2, d3] }
  | _ => none }
def pmemCalmRow : OpenClaim := { program := "ytfiekdgpdboolaa", sum := "7a1f68766a70a0032ca29b6a5374bd310f12b921e54c2c2c7e58a2815d1d7910", func := "furrow/furrowlaw01.PmemCalm", spec := "pmemCalm", unfollowed := true, recurses := true, apart := false }
def PmemCalmSaid : Prop := pmemCalmRow.holds Try.pinned (OpenSpec.ofChange pmemCalmSpec)

/-- ITS FALSE NEIGHBOUR: 'it returns false'. Refute it at one input. -/
def pmemCalmWrong : ChangeSpec := { name := "pmemCalm", fn := fun _ => fun
  | [d1, d2, d3] => { results := [.lit (.bool false)], args := [d1, d2, d3] }
  | _ => none }
def PmemCalmWrongFalsely : Prop := pmemCalmRow.holds Try.pinned (OpenSpec.ofChange pmemCalmWrong)

/-- 'furrowlaw01.PmemFuse': WHATEVER THE INPUT: true; the input reads as it did. -/
def pmemFuseSpec : ChangeSpec := { name := "pmemFuse", fn := fun _ => fun
  | [d1, d2, d3] => { results := [.lit (.bool true)], args := [d1, d2, d3] }
  | _ => none }
def pmemFuseRow : OpenClaim := { program := "ytfiekdgpdboolaa", sum := "7a1f68766a70a0032ca29b6a5374bd310f12b921e54c2c2c7e58a2815d1d7910", func := "furrow/furrowlaw01.PmemFuse", spec := "pmemFuse", unfollowed := true, recurses := true, apart := false }
def PmemFuseSaid : Prop := pmemFuseRow.holds Try.pinned (OpenSpec.ofChange pmemFuseSpec)

/-- ITS FALSE NEIGHBOUR: 'it returns false'. Refute it at one input. -/
def pmemFuseWrong : ChangeSpec := { name := "pmemFuse", fn := fun _ => fun
  | [d1, d2, d3] => { results := [.lit (.bool false)], args := [d1, d2, d3] }
  | _ => none }
def PmemFuseWrongFalsely : Prop := pmemFuseRow.holds Try.pinned (OpenSpec.ofChange pmemFuseWrong)

/-- 'furrowlaw01.PmemTold': WHATEVER THE INPUT: true; the input reads as it did. -/
def pmemToldSpec : ChangeSpec := { name := "pmemTold", fn := fun _ => fun
  | [d1, d2, d3] => { results := [.lit (.bool true)], args := [d1, d2, d3] }
  | _ => none }
def pmemToldRow : OpenClaim := { program := "ytfiekdgpdboolaa", sum := "7a1f68766a70a0032ca29b6a5374bd310f12b921e54c2c2c7e58a2815d1d7910", func := "furrow/furrowlaw01.PmemTold", spec := "pmemTold", unfollowed := true, recurses := true, apart := false }
def PmemToldSaid : Prop := pmemToldRow.holds Try.pinned (OpenSpec.ofChange pmemToldSpec)

/-- ITS FALSE NEIGHBOUR: 'it returns false'. Refute it at one input. -/
def pmemToldWrong : ChangeSpec := { name := "pmemTold", fn := fun _ => fun
  | [d1, d2, d3] => { results := [.lit (.bool false)], args := [d1, d2, d3] }
  | _ => none }
def PmemToldWrongFalsely : Prop := pmemToldRow.holds Try.pinned (OpenSpec.ofChange pmemToldWrong)

/-- 'furrowlaw01.PmemReload': WHATEVER THE INPUT: true; the input reads as it did. -/
def pmemReloadSpec : ChangeSpec := { name := "pmemReload", fn := fun _ => fun
  | [d] => { results := [.lit (.bool true)], args := [d] }
  | _ => none }
def pmemReloadRow : OpenClaim := { program := "ytfiekdgpdboolaa", sum := "7a1f68766a70a0032ca29b6a5374bd310f12b921e54c2c2c7e58a2815d1d7910", func := "furrow/furrowlaw01.PmemReload", spec := "pmemReload", unfollowed := true, recurses := true, apart := false }
def PmemReloadSaid : Prop := pmemReloadRow.holds Try.pinned (OpenSpec.ofChange pmemReloadSpec)

/-- ITS FALSE NEIGHBOUR: 'it returns false'. Refute it at one input. -/
def pmemReloadWrong : ChangeSpec := { name := "pmemReload", fn := fun _ => fun
  | [d] => { results := [.lit (.bool false)], args := [d] }
  | _ => none }
def PmemReloadWrongFalsely : Prop := pmemReloadRow.holds Try.pinned (OpenSpec.ofChange pmemReloadWrong)

/- THE SECOND FORM. 'bulk': how many values and letters a reading holds, each counted each time it is reached (what is shared counts as often as it is met; a slice's spare places count too). A statement '..UptoSaid' is the law's where the arguments, and the package variables that the reading takes, are together of bulk at most 1048576: NARROWER than '..Said'. Prove '..Said' where nothing that the law and all that it calls make is longer than what came in: it says more and counts as full. Else prove '..UptoSaid'. A law counts once. -/
mutual
def uptoBulk {H : Type} : DataW H → Nat
  | .lit (.string bytes) => bytes.length + 1
  | .lit _ => 1
  | .nil => 1
  | .ptr d => uptoBulk d + 1
  | .slice elems spare => uptoBulkAll elems + uptoBulkAll spare + 1
  | .agg parts => uptoBulkAll parts + 1
  | .iface _ d => uptoBulk d + 1
  | .map entries => uptoBulkEntries entries + 1
  | .held _ => 1
def uptoBulkAll {H : Type} : List (DataW H) → Nat
  | [] => 0
  | d :: r => uptoBulk d + uptoBulkAll r
def uptoBulkEntries {H : Type} : List (Lit × DataW H) → Nat
  | [] => 0
  | x :: r => uptoBulkEntry x + uptoBulkEntries r
def uptoBulkEntry {H : Type} : Lit × DataW H → Nat
  | (.string bytes, d) => bytes.length + uptoBulk d + 1
  | (_, d) => uptoBulk d + 1
 end
def uptoSmall : (H : Type) → List (DataW H) → Bool := fun _ ds => decide (uptoBulkAll ds ≤ 1048576)
def OpenSpec.upto (s : _root_.Go.ChangeSpec) : _root_.Go.OpenSpec := { _root_.Go.OpenSpec.ofChange s with cond := some uptoSmall }

/-- 'furrowlaw01.PmemWhole', WHERE WHAT IT READS IS OF BULK AT MOST 1048576: true; the input reads as it did. -/
def pmemWholeUptoRow : OpenClaim := { program := "ytfiekdgpdboolaa", sum := "7a1f68766a70a0032ca29b6a5374bd310f12b921e54c2c2c7e58a2815d1d7910", func := "furrow/furrowlaw01.PmemWhole", spec := "pmemWhole", unfollowed := true, recurses := true, apart := false, narrowed := true }
def PmemWholeUptoSaid : Prop := pmemWholeUptoRow.holds Try.pinned (OpenSpec.upto pmemWholeSpec)

/-- 'furrowlaw01.PmemFenced', WHERE WHAT IT READS IS OF BULK AT MOST 1048576: true; the input reads as it did. -/
def pmemFencedUptoRow : OpenClaim := { program := "ytfiekdgpdboolaa", sum := "7a1f68766a70a0032ca29b6a5374bd310f12b921e54c2c2c7e58a2815d1d7910", func := "furrow/furrowlaw01.PmemFenced", spec := "pmemFenced", unfollowed := true, recurses := true, apart := false, narrowed := true }
def PmemFencedUptoSaid : Prop := pmemFencedUptoRow.holds Try.pinned (OpenSpec.upto pmemFencedSpec)

/-- 'furrowlaw01.PmemCalm', WHERE WHAT IT READS IS OF BULK AT MOST 1048576: true; the input reads as it did. -/
def pmemCalmUptoRow : OpenClaim := { program := "ytfiekdgpdboolaa", sum := "7a1f68766a70a0032ca29b6a5374bd310f12b921e54c2c2c7e58a2815d1d7910", func := "furrow/furrowlaw01.PmemCalm", spec := "pmemCalm", unfollowed := true, recurses := true, apart := false, narrowed := true }
def PmemCalmUptoSaid : Prop := pmemCalmUptoRow.holds Try.pinned (OpenSpec.upto pmemCalmSpec)

/-- 'furrowlaw01.PmemFuse', WHERE WHAT IT READS IS OF BULK AT MOST 1048576: true; the input reads as it did. -/
def pmemFuseUptoRow : OpenClaim := { program := "ytfiekdgpdboolaa", sum := "7a1f68766a70a0032ca29b6a5374bd310f12b921e54c2c2c7e58a2815d1d7910", func := "furrow/furrowlaw01.PmemFuse", spec := "pmemFuse", unfollowed := true, recurses := true, apart := false, narrowed := true }
def PmemFuseUptoSaid : Prop := pmemFuseUptoRow.holds Try.pinned (OpenSpec.upto pmemFuseSpec)

/-- 'furrowlaw01.PmemTold', WHERE WHAT IT READS IS OF BULK AT MOST 1048576: true; the input reads as it did. -/
def pmemToldUptoRow : OpenClaim := { program := "ytfiekdgpdboolaa", sum := "7a1f68766a70a0032ca29b6a5374bd310f12b921e54c2c2c7e58a2815d1d7910", func := "furrow/furrowlaw01.PmemTold", spec := "pmemTold", unfollowed := true, recurses := true, apart := false, narrowed := true }
def PmemToldUptoSaid : Prop := pmemToldUptoRow.holds Try.pinned (OpenSpec.upto pmemToldSpec)

/-- 'furrowlaw01.PmemReload', WHERE WHAT IT READS IS OF BULK AT MOST 1048576: true; the input reads as it did. -/
def pmemReloadUptoRow : OpenClaim := { program := "ytfiekdgpdboolaa", sum := "7a1f68766a70a0032ca29b6a5374bd310f12b921e54c2c2c7e58a2815d1d7910", func := "furrow/furrowlaw01.PmemReload", spec := "pmemReload", unfollowed := true, recurses := true, apart := false, narrowed := true }
def PmemReloadUptoSaid : Prop := pmemReloadUptoRow.holds Try.pinned (OpenSpec.upto pmemReloadSpec)

end Rows
end Go.Proofs.Ytfiekdgpdboolaa
