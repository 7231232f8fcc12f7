import Derived.Test.YtngoifbflpeapabDoorR0
namespace Go.Proofs.YtngoifbflpeapabDoor
open Go.ChangeShapes Go.WideShapes Go.ChangeAt Go.RowKit Go.Deep Go.Joins

/-! What the rows' lists give: the library's table and its two errors. -/
theorem laid_iface {P : Program} {n nm : String} {d : DataW Unit} {r : List (String × DataW Unit)} {W : World} {g : Nat} {ti : TypeId} {ms : Array (String × TypeId)} (h : laidMet P ((n, .iface nm d) :: r) W)
    (hg : P.globalNamed n = some g) (ht : (P.globals[g]?).map (·.type) = some ti) (hi : P.underlying ti = some (.interface ms)) : ∃ te pe, W.cell? ⟨g, 0, none⟩ = some (.iface te pe) := by
  obtain ⟨ps, ⟨g0, t0, cs0, f0, p0, q0, hg0, ht0, hv0, hd0, _, e0⟩, _, hrows⟩ := h
  obtain rfl := Option.some.inj (hg.symm.trans hg0)
  obtain rfl := Option.some.inj (ht.symm.trans ht0)
  obtain ⟨f1, u, v, hcs, hn, h1⟩ := iface_of_trod hi hd0
  have := World.var?_cell hg0 hv0 0
  obtain ⟨l0⟩ := cs0
  obtain rfl : l0 = [.iface u v] := hcs
  exact ⟨u, v, by simpa using this⟩
theorem Tryd.gTab : Tryd.prog.globalNamed "internal/strconv.uint64pow10" = some 6 := by kernel_rfl
theorem Tryd.gRng : Tryd.prog.globalNamed "strconv.ErrRange" = some 5 := by kernel_rfl
theorem Tryd.gSyn : Tryd.prog.globalNamed "strconv.ErrSyntax" = some 4 := by kernel_rfl
theorem Tryd.gTabT : (Tryd.prog.globals[6]?).map (·.type) = some 156 := by kernel_rfl
theorem Tryd.gRngT : (Tryd.prog.globals[5]?).map (·.type) = some 95 := by kernel_rfl
theorem Tryd.gSynT : (Tryd.prog.globals[4]?).map (·.type) = some 95 := by kernel_rfl
theorem vars_of {W : World} {r1 r2 r3 : List (String × DataW Unit)} (h1 : laidMet Tryd.prog (("internal/strconv.uint64pow10", Rows.laid_internal_strconv_uint64pow10) :: r1) W) (h2 : laidMet Tryd.prog (("strconv.ErrRange", Rows.laid_strconv_ErrRange) :: r2) W) (h3 : laidMet Tryd.prog (("strconv.ErrSyntax", Rows.laid_strconv_ErrSyntax) :: r3) W) : Vars W :=
  ⟨Lib.tabIs_of_head (k := .u64) (zs := Lib.pow10Tab) Tryd.gTab Tryd.gTabT Tryd.underlying156 Tryd.underlying140 (by kernel_rfl) (by kernel_rfl) h1, laid_iface h3 Tryd.gSyn Tryd.gSynT Tryd.underlying95, laid_iface h2 Tryd.gRng Tryd.gRngT Tryd.underlying95⟩
end Go.Proofs.YtngoifbflpeapabDoor

