import Derived.Test.YtngoifbflpeapacGreatDoorR0
namespace Go.Proofs.YtngoifbflpeapacGreatDoor
open Go.ChangeShapes Go.WideShapes Go.ChangeAt Go.RowKit Go.Deep Go.Joins

/-! What the rows' lists give: the library's table and its two errors. -/
theorem laid_iface {P : Program} {n nm : String} {d : DataW Unit} {r : List (String × DataW Unit)} {W : World} {g : Nat} {ti : TypeId} {ms : Array (String × TypeId)} (h : laidMet P ((n, .iface nm d) :: r) W)
    (hg : P.globalNamed n = some g) (ht : (P.globals[g]?).map (·.type) = some ti) (hi : P.underlying ti = some (.interface ms)) : ∃ te pe, W.cell? ⟨g, 0, none⟩ = some (.iface te pe) := by
  obtain ⟨ps, ⟨g0, t0, cs0, f0, p0, q0, hg0, ht0, hv0, hd0, _, e0⟩, _, hrows⟩ := h
  obtain rfl := Option.some.inj (hg.symm.trans hg0)
  obtain rfl := Option.some.inj (ht.symm.trans ht0)
  obtain ⟨f1, u, v, hcs, hn, h1⟩ := iface_of_trod hi hd0
  have := World.var?_cell hg0 hv0 0
  obtain ⟨l0⟩ := cs0
  obtain rfl : l0 = [.iface u v] := hcs
  exact ⟨u, v, by simpa using this⟩
theorem Tryz.gTab : Tryz.prog.globalNamed "internal/strconv.uint64pow10" = some 6 := by kernel_rfl
theorem Tryz.gRng : Tryz.prog.globalNamed "strconv.ErrRange" = some 5 := by kernel_rfl
theorem Tryz.gSyn : Tryz.prog.globalNamed "strconv.ErrSyntax" = some 4 := by kernel_rfl
theorem Tryz.gTabT : (Tryz.prog.globals[6]?).map (·.type) = some 155 := by kernel_rfl
theorem Tryz.gRngT : (Tryz.prog.globals[5]?).map (·.type) = some 44 := by kernel_rfl
theorem Tryz.gSynT : (Tryz.prog.globals[4]?).map (·.type) = some 44 := by kernel_rfl
theorem vars_of {W : World} {r1 r2 r3 : List (String × DataW Unit)} (h1 : laidMet Tryz.prog (("internal/strconv.uint64pow10", Rows.laid_internal_strconv_uint64pow10) :: r1) W) (h2 : laidMet Tryz.prog (("strconv.ErrRange", Rows.laid_strconv_ErrRange) :: r2) W) (h3 : laidMet Tryz.prog (("strconv.ErrSyntax", Rows.laid_strconv_ErrSyntax) :: r3) W) : Vars W :=
  ⟨Lib.tabIs_of_head (k := .u64) (zs := Lib.pow10Tab) Tryz.gTab Tryz.gTabT Tryz.underlying155 Tryz.underlying139 (by kernel_rfl) (by kernel_rfl) h1, laid_iface h3 Tryz.gSyn Tryz.gSynT Tryz.underlying44, laid_iface h2 Tryz.gRng Tryz.gRngT Tryz.underlying44⟩
end Go.Proofs.YtngoifbflpeapacGreatDoor

