/-
  No cell of these rows narrows 'for every input' (looked for: loops, veiled, ifaces, maps, wideKeys, modest, calm, conditions, laid).
  DERIVED. THE GIVEN ROWS OF THIS SEAT. 6 by the template 'for every input the law returns true; each argument reads behind the call as it read before'; 0 by the template 'total and deterministic' (their statements: YtnafocbgapianabTotals.lean).
  GIVEN WITH THE SEED: the statements are not yours to turn. If you find one false, say at which input.
  Laid BY PROGRAM, IN A SANDBOX (cutbox-rows.mjs): the forced cells as the released guide's own fill.sh prints them over the translation cfb7caa2ce2c0de1… (all of the seat's roots in one cut). By AI agents, Wed Nov 11 2026. No macro, syntax, notation, axiom, sorry.
-/
import Derived.Test.YtnafocbgapianabChecked
import GoSem.Claim
import GoSem.ClaimJoined
import GoSem.ClaimMapViews
import Derived.JoinedTies
import Derived.KernelRfl
namespace Go.Proofs.Ytnafocbgapianab
/- THE CELL 'sum', in the pinned program and in every row, IS THE sha256 OF THE DUMP (.gsa) THAT YtnafocbgapianabProg.lean LOADS. Nothing in Lean hashes anything: it is a label: what it is worth is what the hold of that sum in a sandbox is worth. -/
noncomputable def Try.pinned : Pinned := { name := "ytnafocbgapianab", sum := "cfb7caa2ce2c0de1c7b6dddb7d91fdb43ffa42076bfbb456c5d08998d0091657", checked := Try.checked }
namespace Rows
def none {H : Type} : Left H := { results := [], args := [] }

/-- 'furrowlaw05.ExtentsForgets': WHATEVER THE INPUT: true; the input reads as it did. -/
def extentsForgetsSpec : ChangeSpec := { name := "extentsForgets", fn := fun _ => fun
  | [d1, d2, d3, d4, d5] => { results := [.lit (.bool true)], args := [d1, d2, d3, d4, d5] }
  | _ => none }
def extentsForgetsRow : OpenClaim := { program := "ytnafocbgapianab", sum := "cfb7caa2ce2c0de1c7b6dddb7d91fdb43ffa42076bfbb456c5d08998d0091657", func := "furrow/furrowlaw05.ExtentsForgets", spec := "extentsForgets", apart := false }
def ExtentsForgetsSaid : Prop := extentsForgetsRow.holds Try.pinned (OpenSpec.ofChange extentsForgetsSpec)

/-- ITS FALSE NEIGHBOUR: 'it returns false'. Refute it at one input. -/
def extentsForgetsWrong : ChangeSpec := { name := "extentsForgets", fn := fun _ => fun
  | [d1, d2, d3, d4, d5] => { results := [.lit (.bool false)], args := [d1, d2, d3, d4, d5] }
  | _ => none }
def ExtentsForgetsWrongFalsely : Prop := extentsForgetsRow.holds Try.pinned (OpenSpec.ofChange extentsForgetsWrong)

/-- 'furrowlaw05.ExtentsUnion': WHATEVER THE INPUT: true; the input reads as it did. -/
def extentsUnionSpec : ChangeSpec := { name := "extentsUnion", fn := fun _ => fun
  | [d1, d2, d3] => { results := [.lit (.bool true)], args := [d1, d2, d3] }
  | _ => none }
def extentsUnionRow : OpenClaim := { program := "ytnafocbgapianab", sum := "cfb7caa2ce2c0de1c7b6dddb7d91fdb43ffa42076bfbb456c5d08998d0091657", func := "furrow/furrowlaw05.ExtentsUnion", spec := "extentsUnion", apart := false }
def ExtentsUnionSaid : Prop := extentsUnionRow.holds Try.pinned (OpenSpec.ofChange extentsUnionSpec)

/-- ITS FALSE NEIGHBOUR: 'it returns false'. Refute it at one input. -/
def extentsUnionWrong : ChangeSpec := { name := "extentsUnion", fn := fun _ => fun
  | [d1, d2, d3] => { results := [.lit (.bool false)], args := [d1, d2, d3] }
  | _ => none }
def ExtentsUnionWrongFalsely : Prop := extentsUnionRow.holds Try.pinned (OpenSpec.ofChange extentsUnionWrong)

/-- 'furrowlaw05.ExtentsApart': WHATEVER THE INPUT: true; the input reads as it did. -/
def extentsApartSpec : ChangeSpec := { name := "extentsApart", fn := fun _ => fun
  | [d1, d2, d3, d4] => { results := [.lit (.bool true)], args := [d1, d2, d3, d4] }
  | _ => none }
def extentsApartRow : OpenClaim := { program := "ytnafocbgapianab", sum := "cfb7caa2ce2c0de1c7b6dddb7d91fdb43ffa42076bfbb456c5d08998d0091657", func := "furrow/furrowlaw05.ExtentsApart", spec := "extentsApart", apart := false }
def ExtentsApartSaid : Prop := extentsApartRow.holds Try.pinned (OpenSpec.ofChange extentsApartSpec)

/-- ITS FALSE NEIGHBOUR: 'it returns false'. Refute it at one input. -/
def extentsApartWrong : ChangeSpec := { name := "extentsApart", fn := fun _ => fun
  | [d1, d2, d3, d4] => { results := [.lit (.bool false)], args := [d1, d2, d3, d4] }
  | _ => none }
def ExtentsApartWrongFalsely : Prop := extentsApartRow.holds Try.pinned (OpenSpec.ofChange extentsApartWrong)

/-- 'furrowlaw05.ExtentsMarks': WHATEVER THE INPUT: true; the input reads as it did. -/
def extentsMarksSpec : ChangeSpec := { name := "extentsMarks", fn := fun _ => fun
  | [d] => { results := [.lit (.bool true)], args := [d] }
  | _ => none }
def extentsMarksRow : OpenClaim := { program := "ytnafocbgapianab", sum := "cfb7caa2ce2c0de1c7b6dddb7d91fdb43ffa42076bfbb456c5d08998d0091657", func := "furrow/furrowlaw05.ExtentsMarks", spec := "extentsMarks", apart := false }
def ExtentsMarksSaid : Prop := extentsMarksRow.holds Try.pinned (OpenSpec.ofChange extentsMarksSpec)

/-- ITS FALSE NEIGHBOUR: 'it returns false'. Refute it at one input. -/
def extentsMarksWrong : ChangeSpec := { name := "extentsMarks", fn := fun _ => fun
  | [d] => { results := [.lit (.bool false)], args := [d] }
  | _ => none }
def ExtentsMarksWrongFalsely : Prop := extentsMarksRow.holds Try.pinned (OpenSpec.ofChange extentsMarksWrong)

/-- 'furrowlaw05.ExtentsFresh': WHATEVER THE INPUT: true; the input reads as it did. -/
def extentsFreshSpec : ChangeSpec := { name := "extentsFresh", fn := fun _ => fun
  | [d1, d2, d3, d4, d5] => { results := [.lit (.bool true)], args := [d1, d2, d3, d4, d5] }
  | _ => none }
def extentsFreshRow : OpenClaim := { program := "ytnafocbgapianab", sum := "cfb7caa2ce2c0de1c7b6dddb7d91fdb43ffa42076bfbb456c5d08998d0091657", func := "furrow/furrowlaw05.ExtentsFresh", spec := "extentsFresh", apart := false }
def ExtentsFreshSaid : Prop := extentsFreshRow.holds Try.pinned (OpenSpec.ofChange extentsFreshSpec)

/-- ITS FALSE NEIGHBOUR: 'it returns false'. Refute it at one input. -/
def extentsFreshWrong : ChangeSpec := { name := "extentsFresh", fn := fun _ => fun
  | [d1, d2, d3, d4, d5] => { results := [.lit (.bool false)], args := [d1, d2, d3, d4, d5] }
  | _ => none }
def ExtentsFreshWrongFalsely : Prop := extentsFreshRow.holds Try.pinned (OpenSpec.ofChange extentsFreshWrong)

/-- 'furrowlaw05.ExtentsPools': WHATEVER THE INPUT: true; the input reads as it did. -/
def extentsPoolsSpec : ChangeSpec := { name := "extentsPools", fn := fun _ => fun
  | [d] => { results := [.lit (.bool true)], args := [d] }
  | _ => none }
def extentsPoolsRow : OpenClaim := { program := "ytnafocbgapianab", sum := "cfb7caa2ce2c0de1c7b6dddb7d91fdb43ffa42076bfbb456c5d08998d0091657", func := "furrow/furrowlaw05.ExtentsPools", spec := "extentsPools", apart := false }
def ExtentsPoolsSaid : Prop := extentsPoolsRow.holds Try.pinned (OpenSpec.ofChange extentsPoolsSpec)

/-- ITS FALSE NEIGHBOUR: 'it returns false'. Refute it at one input. -/
def extentsPoolsWrong : ChangeSpec := { name := "extentsPools", fn := fun _ => fun
  | [d] => { results := [.lit (.bool false)], args := [d] }
  | _ => none }
def ExtentsPoolsWrongFalsely : Prop := extentsPoolsRow.holds Try.pinned (OpenSpec.ofChange extentsPoolsWrong)

/- THE SECOND FORM. 'bulk': how many values and letters a reading holds, each counted each time it is reached (what is shared counts as often as it is met; a slice's spare places count too). A statement '..UptoSaid' is the law's where the arguments, and the package variables that the reading takes, are together of bulk at most 1048576: NARROWER than '..Said'. Prove '..Said' where nothing that the law and all that it calls make is longer than what came in: it says more and counts as full. Else prove '..UptoSaid'. A law counts once. -/
mutual
def uptoBulk {H : Type} : DataW H → Nat
  | .lit (.string bytes) => bytes.length + 1
  | .lit _ => 1
  | .nil => 1
  | .ptr d => uptoBulk d + 1
  | .slice elems spare => uptoBulkAll elems + uptoBulkAll spare + 1
  | .agg parts => uptoBulkAll parts + 1
  | .iface _ d => uptoBulk d + 1
  | .map entries => uptoBulkEntries entries + 1
  | .held _ => 1
def uptoBulkAll {H : Type} : List (DataW H) → Nat
  | [] => 0
  | d :: r => uptoBulk d + uptoBulkAll r
def uptoBulkEntries {H : Type} : List (Lit × DataW H) → Nat
  | [] => 0
  | x :: r => uptoBulkEntry x + uptoBulkEntries r
def uptoBulkEntry {H : Type} : Lit × DataW H → Nat
  | (.string bytes, d) => bytes.length + uptoBulk d + 1
  | (_, d) => uptoBulk d + 1
 end
def uptoSmall : (H : Type) → List (DataW H) → Bool := fun _ ds => decide (uptoBulkAll ds ≤ 1048576)
def OpenSpec.upto (s : _root_.Go.ChangeSpec) : _root_.Go.OpenSpec := { _root_.Go.OpenSpec.ofChange s with cond := some uptoSmall }

/-- 'furrowlaw05.ExtentsForgets', WHERE WHAT IT READS IS OF BULK AT MOST 1048576: true; the input reads as it did. -/
def extentsForgetsUptoRow : OpenClaim := { program := "ytnafocbgapianab", sum := "cfb7caa2ce2c0de1c7b6dddb7d91fdb43ffa42076bfbb456c5d08998d0091657", func := "furrow/furrowlaw05.ExtentsForgets", spec := "extentsForgets", apart := false, narrowed := true }
def ExtentsForgetsUptoSaid : Prop := extentsForgetsUptoRow.holds Try.pinned (OpenSpec.upto extentsForgetsSpec)

/-- 'furrowlaw05.ExtentsUnion', WHERE WHAT IT READS IS OF BULK AT MOST 1048576: true; the input reads as it did. -/
def extentsUnionUptoRow : OpenClaim := { program := "ytnafocbgapianab", sum := "cfb7caa2ce2c0de1c7b6dddb7d91fdb43ffa42076bfbb456c5d08998d0091657", func := "furrow/furrowlaw05.ExtentsUnion", spec := "extentsUnion", apart := false, narrowed := true }
def ExtentsUnionUptoSaid : Prop := extentsUnionUptoRow.holds Try.pinned (OpenSpec.upto extentsUnionSpec)

/-- 'furrowlaw05.ExtentsApart', WHERE WHAT IT READS IS OF BULK AT MOST 1048576: true; the input reads as it did. -/
def extentsApartUptoRow : OpenClaim := { program := "ytnafocbgapianab", sum := "cfb7caa2ce2c0de1c7b6dddb7d91fdb43ffa42076bfbb456c5d08998d0091657", func := "furrow/furrowlaw05.ExtentsApart", spec := "extentsApart", apart := false, narrowed := true }
def ExtentsApartUptoSaid : Prop := extentsApartUptoRow.holds Try.pinned (OpenSpec.upto extentsApartSpec)

/-- 'furrowlaw05.ExtentsMarks', WHERE WHAT IT READS IS OF BULK AT MOST 1048576: true; the input reads as it did. -/
def extentsMarksUptoRow : OpenClaim := { program := "ytnafocbgapianab", sum := "cfb7caa2ce2c0de1c7b6dddb7d91fdb43ffa42076bfbb456c5d08998d0091657", func := "furrow/furrowlaw05.ExtentsMarks", spec := "extentsMarks", apart := false, narrowed := true }
def ExtentsMarksUptoSaid : Prop := extentsMarksUptoRow.holds Try.pinned (OpenSpec.upto extentsMarksSpec)

/-- 'furrowlaw05.ExtentsFresh', WHERE WHAT IT READS IS OF BULK AT MOST 1048576: true; the input reads as it did. -/
def extentsFreshUptoRow : OpenClaim := { program := "ytnafocbgapianab", sum := "cfb7caa2ce2c0de1c7b6dddb7d91fdb43ffa42076bfbb456c5d08998d0091657", func := "furrow/furrowlaw05.ExtentsFresh", spec := "extentsFresh", apart := false, narrowed := true }
def ExtentsFreshUptoSaid : Prop := extentsFreshUptoRow.holds Try.pinned (OpenSpec.upto extentsFreshSpec)

/-- 'furrowlaw05.ExtentsPools', WHERE WHAT IT READS IS OF BULK AT MOST 1048576: true; the input reads as it did. -/
def extentsPoolsUptoRow : OpenClaim := { program := "ytnafocbgapianab", sum := "cfb7caa2ce2c0de1c7b6dddb7d91fdb43ffa42076bfbb456c5d08998d0091657", func := "furrow/furrowlaw05.ExtentsPools", spec := "extentsPools", apart := false, narrowed := true }
def ExtentsPoolsUptoSaid : Prop := extentsPoolsUptoRow.holds Try.pinned (OpenSpec.upto extentsPoolsSpec)

end Rows
end Go.Proofs.Ytnafocbgapianab
