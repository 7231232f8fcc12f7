import Derived.Test.YtngoifbflpeapabDoorB2
import Derived.Great.BuildSlice
import Derived.Great.Walk
import Derived.Deep.WholeRow
import Derived.Laws.Rows
import Derived.Laws.Tables
namespace Go.Proofs.YtngoifbflpeapabDoor
open Go.RowKit Go.Maps
set_option maxRecDepth 100000

/-- What stands behind a kind's word: the two texts, the three numbers, the list. -/
inductive Ar where
  | A
  | B
  | N
  | M
  | K
  | L
def Ar.quo : Ar → Bool
  | .A => true
  | .B => true
  | _ => false
def Ar.lst : Ar → Bool
  | .L => true
  | _ => false
def Ar.rd : Ar → FuncId
  | .A => 63
  | .B => 66
  | .N => 68
  | .M => 72
  | .K => 74
  | .L => 76
def Ar.tl : Ar → FuncId
  | .A => 64
  | .B => 67
  | .N => 70
  | .M => 73
  | .K => 75
  | .L => 77
def acell (a : Ar) : Array Value := #[.bool a.quo, .bool a.lst, .func (.func a.rd) #[] #[], .func (.func a.tl) #[] #[]]
def azero : Array Value := #[.bool false, .bool false, .nilFunc, .nilFunc]
theorem info76 : (Tryd.prog.info? 76).map (fun i => (i.zero, i.size, i.bytes)) = some (some (.agg azero), 4, 24) := by kernel_rfl
theorem size76 : (Tryd.prog.info? 76).map (·.size) = some 4 := by kernel_rfl
theorem wpList_alloc_a {ops : Array Oper} {rest : List Oper} {o : Oper} {a : Act} {w : World} {Q : Exit → Act → World → Prop} (hg : o.guard = none) (ho : o.op = .alloc 76)
    (h : wpList Tryd.prog ops Q rest (a.put o.dst (.pointer (some ⟨w.heap.size, 0, none⟩))) (w.alloc (.cells azero 76))) : wpList Tryd.prog ops Q (o :: rest) a w := by
  refine wpList_plain hg fun K hK => ?_
  have hz := (zero_of_info (P := Tryd.prog) (t := 76) (v := .agg azero) (n := 4) (by kernel_rfl)).1
  unfold Oper.wp execOp
  simp [ho, Instr.alloc, hz, newVar, newRow, Value.cells, Result.andThen]
  exact hK _ _ h
theorem acell_one (a : Ar) : (acell a).all (·.oneCell') = true := by simp [acell, Value.oneCell']
set_option maxHeartbeats 1000000 in
theorem argA_any (w : World) : Calls Tryd.prog 43 #[] w fun e w' => e = .returned (.agg (acell .A)) ∧ Keeps (fun _ => False) w w' := by
  go_enter Tryd.func43, Tryd.ntmps43
  go_wp2_with (first
    | (refine wpList_alloc_a rfl rfl ?_)
    | (refine wpList_buildTo rfl 76 _ rfl _ rfl (acell .A) (by kernel_rfl) ?_)
    | (refine wpList_store_row rfl 76 _ _ rfl _ (acell .A) rfl rfl 76 azero (heap_last w _) size76 rfl (acell_one _) ?_; rw [World.setRow_alloc_new]))
  exact bodyPost_ret (results_cell_row rfl _ _ w.heap.size 76 (acell .A) (0, 0) _ rfl (heap_last w _) Tryd.underlying76 rfl size76) rfl ⟨rfl, (Keeps.refl _ w).alloc _⟩
set_option maxHeartbeats 1000000 in
theorem argB_any (w : World) : Calls Tryd.prog 44 #[] w fun e w' => e = .returned (.agg (acell .B)) ∧ Keeps (fun _ => False) w w' := by
  go_enter Tryd.func44, Tryd.ntmps44
  go_wp2_with (first
    | (refine wpList_alloc_a rfl rfl ?_)
    | (refine wpList_buildTo rfl 76 _ rfl _ rfl (acell .B) (by kernel_rfl) ?_)
    | (refine wpList_store_row rfl 76 _ _ rfl _ (acell .B) rfl rfl 76 azero (heap_last w _) size76 rfl (acell_one _) ?_; rw [World.setRow_alloc_new]))
  exact bodyPost_ret (results_cell_row rfl _ _ w.heap.size 76 (acell .B) (0, 0) _ rfl (heap_last w _) Tryd.underlying76 rfl size76) rfl ⟨rfl, (Keeps.refl _ w).alloc _⟩
set_option maxHeartbeats 1000000 in
theorem argN_any (w : World) : Calls Tryd.prog 45 #[] w fun e w' => e = .returned (.agg (acell .N)) ∧ Keeps (fun _ => False) w w' := by
  go_enter Tryd.func45, Tryd.ntmps45
  go_wp2_with (first
    | (refine wpList_alloc_a rfl rfl ?_)
    | (refine wpList_buildTo rfl 76 _ rfl _ rfl (acell .N) (by kernel_rfl) ?_)
    | (refine wpList_store_row rfl 76 _ _ rfl _ (acell .N) rfl rfl 76 azero (heap_last w _) size76 rfl (acell_one _) ?_; rw [World.setRow_alloc_new]))
  exact bodyPost_ret (results_cell_row rfl _ _ w.heap.size 76 (acell .N) (0, 0) _ rfl (heap_last w _) Tryd.underlying76 rfl size76) rfl ⟨rfl, (Keeps.refl _ w).alloc _⟩
set_option maxHeartbeats 1000000 in
theorem argM_any (w : World) : Calls Tryd.prog 46 #[] w fun e w' => e = .returned (.agg (acell .M)) ∧ Keeps (fun _ => False) w w' := by
  go_enter Tryd.func46, Tryd.ntmps46
  go_wp2_with (first
    | (refine wpList_alloc_a rfl rfl ?_)
    | (refine wpList_buildTo rfl 76 _ rfl _ rfl (acell .M) (by kernel_rfl) ?_)
    | (refine wpList_store_row rfl 76 _ _ rfl _ (acell .M) rfl rfl 76 azero (heap_last w _) size76 rfl (acell_one _) ?_; rw [World.setRow_alloc_new]))
  exact bodyPost_ret (results_cell_row rfl _ _ w.heap.size 76 (acell .M) (0, 0) _ rfl (heap_last w _) Tryd.underlying76 rfl size76) rfl ⟨rfl, (Keeps.refl _ w).alloc _⟩
set_option maxHeartbeats 1000000 in
theorem argK_any (w : World) : Calls Tryd.prog 47 #[] w fun e w' => e = .returned (.agg (acell .K)) ∧ Keeps (fun _ => False) w w' := by
  go_enter Tryd.func47, Tryd.ntmps47
  go_wp2_with (first
    | (refine wpList_alloc_a rfl rfl ?_)
    | (refine wpList_buildTo rfl 76 _ rfl _ rfl (acell .K) (by kernel_rfl) ?_)
    | (refine wpList_store_row rfl 76 _ _ rfl _ (acell .K) rfl rfl 76 azero (heap_last w _) size76 rfl (acell_one _) ?_; rw [World.setRow_alloc_new]))
  exact bodyPost_ret (results_cell_row rfl _ _ w.heap.size 76 (acell .K) (0, 0) _ rfl (heap_last w _) Tryd.underlying76 rfl size76) rfl ⟨rfl, (Keeps.refl _ w).alloc _⟩
set_option maxHeartbeats 1000000 in
theorem argL_any (w : World) : Calls Tryd.prog 48 #[] w fun e w' => e = .returned (.agg (acell .L)) ∧ Keeps (fun _ => False) w w' := by
  go_enter Tryd.func48, Tryd.ntmps48
  go_wp2_with (first
    | (refine wpList_alloc_a rfl rfl ?_)
    | (refine wpList_buildTo rfl 76 _ rfl _ rfl (acell .L) (by kernel_rfl) ?_)
    | (refine wpList_store_row rfl 76 _ _ rfl _ (acell .L) rfl rfl 76 azero (heap_last w _) size76 rfl (acell_one _) ?_; rw [World.setRow_alloc_new]))
  exact bodyPost_ret (results_cell_row rfl _ _ w.heap.size 76 (acell .L) (0, 0) _ rfl (heap_last w _) Tryd.underlying76 rfl size76) rfl ⟨rfl, (Keeps.refl _ w).alloc _⟩
end Go.Proofs.YtngoifbflpeapabDoor

