import Derived.Test.YtdlhdompemkjfaaGreatDoorK33
import Derived.Test.YtdlhdompemkjfaaGreatDoorK36
import Derived.Shelf.Vars
namespace Go.Proofs.YtdlhdompemkjfaaGreatDoor
open Go.ChangeShapes Go.WideShapes Go.ChangeAt Go.RowKit Go.Deep Go.Joins

/-- The library's MaxLen holds some int in every world that a row speaks of. -/
theorem max_cell {W : World} (h : W.ShapedOpen Tryz.prog) : ∃ m, W.cell? ⟨1, 0, none⟩ = some (.int .i64 m) := cell_of_shapedOpen_int (t := 3) (zero := #[.int .i64 0]) h (by decide) (by kernel_rfl) (by kernel_rfl) (by kernel_rfl) (by kernel_rfl) (by kernel_rfl)
end Go.Proofs.YtdlhdompemkjfaaGreatDoor
