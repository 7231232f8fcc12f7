import Derived.Test.YtngoifbflpeapacGreatDoorB2
import Derived.Great.BuildSlice
import Derived.Great.Walk
import Derived.Deep.WholeRow
import Derived.Laws.Rows
import Derived.Laws.Tables
namespace Go.Proofs.YtngoifbflpeapacGreatDoor
open Go.RowKit Go.Maps
set_option maxRecDepth 100000

/-- What stands behind a kind's word: the two texts, the three numbers, the list. -/
inductive Ar where
  | A
  | B
  | N
  | M
  | K
  | L
def Ar.quo : Ar → Bool
  | .A => true
  | .B => true
  | _ => false
def Ar.lst : Ar → Bool
  | .L => true
  | _ => false
def Ar.rd : Ar → FuncId
  | .A => 68
  | .B => 71
  | .N => 73
  | .M => 77
  | .K => 79
  | .L => 81
def Ar.tl : Ar → FuncId
  | .A => 69
  | .B => 72
  | .N => 75
  | .M => 78
  | .K => 80
  | .L => 82
def acell (a : Ar) : Array Value := #[.bool a.quo, .bool a.lst, .func (.func a.rd) #[] #[], .func (.func a.tl) #[] #[]]
def azero : Array Value := #[.bool false, .bool false, .nilFunc, .nilFunc]
theorem info69 : (Tryz.prog.info? 69).map (fun i => (i.zero, i.size, i.bytes)) = some (some (.agg azero), 4, 24) := by kernel_rfl
theorem size69 : (Tryz.prog.info? 69).map (·.size) = some 4 := by kernel_rfl
theorem wpList_alloc_a {ops : Array Oper} {rest : List Oper} {o : Oper} {a : Act} {w : World} {Q : Exit → Act → World → Prop} (hg : o.guard = none) (ho : o.op = .alloc 69)
    (h : wpList Tryz.prog ops Q rest (a.put o.dst (.pointer (some ⟨w.heap.size, 0, none⟩))) (w.alloc (.cells azero 69))) : wpList Tryz.prog ops Q (o :: rest) a w := by
  refine wpList_plain hg fun K hK => ?_
  have hz := (zero_of_info (P := Tryz.prog) (t := 69) (v := .agg azero) (n := 4) (by kernel_rfl)).1
  unfold Oper.wp execOp
  simp [ho, Instr.alloc, hz, newVar, newRow, Value.cells, Result.andThen]
  exact hK _ _ h
theorem acell_one (a : Ar) : (acell a).all (·.oneCell') = true := by simp [acell, Value.oneCell']
set_option maxHeartbeats 1000000 in
theorem argA_any (w : World) : Calls Tryz.prog 51 #[] w fun e w' => e = .returned (.agg (acell .A)) ∧ Keeps (fun _ => False) w w' := by
  go_enter Tryz.func51, Tryz.ntmps51
  go_wp2_with (first
    | (refine wpList_alloc_a rfl rfl ?_)
    | (refine wpList_buildTo rfl 69 _ rfl _ rfl (acell .A) (by kernel_rfl) ?_)
    | (refine wpList_store_row rfl 69 _ _ rfl _ (acell .A) rfl rfl 69 azero (heap_last w _) size69 rfl (acell_one _) ?_; rw [World.setRow_alloc_new]))
  exact bodyPost_ret (results_cell_row rfl _ _ w.heap.size 69 (acell .A) (0, 0) _ rfl (heap_last w _) Tryz.underlying69 rfl size69) rfl ⟨rfl, (Keeps.refl _ w).alloc _⟩
set_option maxHeartbeats 1000000 in
theorem argB_any (w : World) : Calls Tryz.prog 52 #[] w fun e w' => e = .returned (.agg (acell .B)) ∧ Keeps (fun _ => False) w w' := by
  go_enter Tryz.func52, Tryz.ntmps52
  go_wp2_with (first
    | (refine wpList_alloc_a rfl rfl ?_)
    | (refine wpList_buildTo rfl 69 _ rfl _ rfl (acell .B) (by kernel_rfl) ?_)
    | (refine wpList_store_row rfl 69 _ _ rfl _ (acell .B) rfl rfl 69 azero (heap_last w _) size69 rfl (acell_one _) ?_; rw [World.setRow_alloc_new]))
  exact bodyPost_ret (results_cell_row rfl _ _ w.heap.size 69 (acell .B) (0, 0) _ rfl (heap_last w _) Tryz.underlying69 rfl size69) rfl ⟨rfl, (Keeps.refl _ w).alloc _⟩
set_option maxHeartbeats 1000000 in
theorem argN_any (w : World) : Calls Tryz.prog 53 #[] w fun e w' => e = .returned (.agg (acell .N)) ∧ Keeps (fun _ => False) w w' := by
  go_enter Tryz.func53, Tryz.ntmps53
  go_wp2_with (first
    | (refine wpList_alloc_a rfl rfl ?_)
    | (refine wpList_buildTo rfl 69 _ rfl _ rfl (acell .N) (by kernel_rfl) ?_)
    | (refine wpList_store_row rfl 69 _ _ rfl _ (acell .N) rfl rfl 69 azero (heap_last w _) size69 rfl (acell_one _) ?_; rw [World.setRow_alloc_new]))
  exact bodyPost_ret (results_cell_row rfl _ _ w.heap.size 69 (acell .N) (0, 0) _ rfl (heap_last w _) Tryz.underlying69 rfl size69) rfl ⟨rfl, (Keeps.refl _ w).alloc _⟩
set_option maxHeartbeats 1000000 in
theorem argM_any (w : World) : Calls Tryz.prog 54 #[] w fun e w' => e = .returned (.agg (acell .M)) ∧ Keeps (fun _ => False) w w' := by
  go_enter Tryz.func54, Tryz.ntmps54
  go_wp2_with (first
    | (refine wpList_alloc_a rfl rfl ?_)
    | (refine wpList_buildTo rfl 69 _ rfl _ rfl (acell .M) (by kernel_rfl) ?_)
    | (refine wpList_store_row rfl 69 _ _ rfl _ (acell .M) rfl rfl 69 azero (heap_last w _) size69 rfl (acell_one _) ?_; rw [World.setRow_alloc_new]))
  exact bodyPost_ret (results_cell_row rfl _ _ w.heap.size 69 (acell .M) (0, 0) _ rfl (heap_last w _) Tryz.underlying69 rfl size69) rfl ⟨rfl, (Keeps.refl _ w).alloc _⟩
set_option maxHeartbeats 1000000 in
theorem argK_any (w : World) : Calls Tryz.prog 55 #[] w fun e w' => e = .returned (.agg (acell .K)) ∧ Keeps (fun _ => False) w w' := by
  go_enter Tryz.func55, Tryz.ntmps55
  go_wp2_with (first
    | (refine wpList_alloc_a rfl rfl ?_)
    | (refine wpList_buildTo rfl 69 _ rfl _ rfl (acell .K) (by kernel_rfl) ?_)
    | (refine wpList_store_row rfl 69 _ _ rfl _ (acell .K) rfl rfl 69 azero (heap_last w _) size69 rfl (acell_one _) ?_; rw [World.setRow_alloc_new]))
  exact bodyPost_ret (results_cell_row rfl _ _ w.heap.size 69 (acell .K) (0, 0) _ rfl (heap_last w _) Tryz.underlying69 rfl size69) rfl ⟨rfl, (Keeps.refl _ w).alloc _⟩
set_option maxHeartbeats 1000000 in
theorem argL_any (w : World) : Calls Tryz.prog 56 #[] w fun e w' => e = .returned (.agg (acell .L)) ∧ Keeps (fun _ => False) w w' := by
  go_enter Tryz.func56, Tryz.ntmps56
  go_wp2_with (first
    | (refine wpList_alloc_a rfl rfl ?_)
    | (refine wpList_buildTo rfl 69 _ rfl _ rfl (acell .L) (by kernel_rfl) ?_)
    | (refine wpList_store_row rfl 69 _ _ rfl _ (acell .L) rfl rfl 69 azero (heap_last w _) size69 rfl (acell_one _) ?_; rw [World.setRow_alloc_new]))
  exact bodyPost_ret (results_cell_row rfl _ _ w.heap.size 69 (acell .L) (0, 0) _ rfl (heap_last w _) Tryz.underlying69 rfl size69) rfl ⟨rfl, (Keeps.refl _ w).alloc _⟩
end Go.Proofs.YtngoifbflpeapacGreatDoor

