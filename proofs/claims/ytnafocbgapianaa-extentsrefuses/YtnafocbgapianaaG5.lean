import Derived.Test.YtnafocbgapianaaG1
import Derived.Test.YtnafocbgapianaaG2
import Derived.Test.YtnafocbgapianaaG3
import Derived.Test.YtnafocbgapianaaG4
namespace Go.Proofs.Ytnafocbgapianaa
open Go.RowKit

theorem refuses_walk (w : World) (pages cores bad at_ : Int) (p : Option Addr) (cap : Nat) (l : List (Bool × Int × Int)) (hl : MvIn w p l) (hll : l.length ≤ maxLen) (hpb : -9223372036854775808 ≤ pages ∧ pages ≤ 9223372036854775807) :
    Calls Try.prog 5 #[.int .i64 pages, .int .i64 cores, .slice p l.length cap, .int .i64 bad, .int .i64 at_] w fun e w' => e = .returned (.bool true) ∧ Keeps (fun k => w.heap.size ≤ k) w w' := by
  have h4 := plc_lt bad (show 1 ≤ 4 by omega)
  rcases (show plc bad 4 = 0 ∨ plc bad 4 = 1 ∨ plc bad 4 = 2 ∨ plc bad 4 = 3 by omega) with h | h | h | h
  · exact refuses_walk0 w pages cores bad at_ p cap l hl hll h hpb
  · exact refuses_walk1 w pages cores bad at_ p cap l hl hll h hpb
  · exact refuses_walk2 w pages cores bad at_ p cap l hl hll h hpb
  · exact refuses_walk3 w pages cores bad at_ p cap l hl hll h hpb

end Go.Proofs.Ytnafocbgapianaa
