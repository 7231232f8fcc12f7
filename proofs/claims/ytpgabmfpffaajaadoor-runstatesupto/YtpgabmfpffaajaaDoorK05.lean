import Derived.Test.YtpgabmfpffaajaaDoorK04
namespace Go.Proofs.YtpgabmfpffaajaaDoor
open Go.RowKit Go.Maps
set_option maxRecDepth 100000

theorem ret_string {a b : ByteArray} (h : a = b) : Ending.returned (.string a) = .returned (.string b) := by rw [h]
theorem heap_last (w : World) (o : Obj) : (w.alloc o).heap[w.heap.size]? = some o := by
  show (w.heap.push o)[w.heap.size]? = some o
  simp
/-- A list of bytes that is new. -/
theorem row_new (W : World) (l : Bs) (n : Nat) (hn : n = l.length) : Row (W.alloc (.cells (vals l).toArray 5)) (.slice (some ⟨W.heap.size, 0, none⟩) n n) l.length (vals l) := by
  subst hn
  refine ⟨_, _, rfl, Nat.le_refl _, fun _ => ⟨_, _, rfl, by rw [World.size_alloc]; omega, fun j u hj => ?_⟩⟩
  have h := heap_last W (.cells (vals l).toArray 5)
  simp only [World.cell?, h, Nat.zero_add, List.getElem?_toArray]
  exact hj
theorem conv_new (W : World) (l : Bs) (n : Nat) (hn : n = l.length) : (convert 57 9 (.slice (some ⟨W.heap.size, 0, none⟩) n n)).run Tryd.prog (W.alloc (.cells (vals l).toArray 5)) = .ok (.string (mkB l)) (W.alloc (.cells (vals l).toArray 5)) :=
  conv_row _ _ l (row_new W l n hn)
theorem digit_int (w : World) (n : Nat) (hn : n < 16) (a : Int) (ha : a = (n : Int)) : Calls Tryd.prog 39 #[.int .i64 a] w fun e w' => e = .returned (.int .u8 ((dg n).toNat : Int)) ∧ w' = w := by
  rw [ha]; exact digit_any w n hn

end Go.Proofs.YtpgabmfpffaajaaDoor
