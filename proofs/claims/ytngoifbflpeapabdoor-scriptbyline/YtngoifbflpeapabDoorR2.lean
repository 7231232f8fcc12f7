import Derived.Test.YtngoifbflpeapabDoorR1
import Derived.Test.YtngoifbflpeapabDoorV2
import Derived.Shelf.Vars
namespace Go.Proofs.YtngoifbflpeapabDoor
open Go.ChangeShapes Go.WideShapes Go.ChangeAt Go.RowKit Go.Deep Go.Joins

/-- The library's MaxLen holds some int in every world that a row speaks of. -/
theorem max_of {W : World} (h : W.ShapedOpen Tryd.prog) : MaxAt W := cell_of_shapedOpen_int (t := 3) (zero := #[.int .i64 0]) h (by decide) (by kernel_rfl) (by kernel_rfl) (by kernel_rfl) (by kernel_rfl) (by kernel_rfl)
end Go.Proofs.YtngoifbflpeapabDoor

