import Derived.Test.YtngoifbflpeapaaDoorB2
import Derived.Great.BuildSlice
import Derived.Great.Walk
import Derived.Deep.WholeRow
import Derived.Laws.Rows
import Derived.Laws.Tables
namespace Go.Proofs.YtngoifbflpeapaaDoor
open Go.RowKit Go.Maps
set_option maxRecDepth 100000

/-- What stands behind a kind's word: the two texts, the three numbers, the list. -/
inductive Ar where
  | A
  | B
  | N
  | M
  | K
  | L
def Ar.quo : Ar → Bool
  | .A => true
  | .B => true
  | _ => false
def Ar.lst : Ar → Bool
  | .L => true
  | _ => false
def Ar.rd : Ar → FuncId
  | .A => 32
  | .B => 35
  | .N => 37
  | .M => 41
  | .K => 43
  | .L => 45
def Ar.tl : Ar → FuncId
  | .A => 33
  | .B => 36
  | .N => 39
  | .M => 42
  | .K => 44
  | .L => 46
def acell (a : Ar) : Array Value := #[.bool a.quo, .bool a.lst, .func (.func a.rd) #[] #[], .func (.func a.tl) #[] #[]]
def azero : Array Value := #[.bool false, .bool false, .nilFunc, .nilFunc]
theorem info41 : (Tryd.prog.info? 41).map (fun i => (i.zero, i.size, i.bytes)) = some (some (.agg azero), 4, 24) := by kernel_rfl
theorem size41 : (Tryd.prog.info? 41).map (·.size) = some 4 := by kernel_rfl
theorem wpList_alloc_a {ops : Array Oper} {rest : List Oper} {o : Oper} {a : Act} {w : World} {Q : Exit → Act → World → Prop} (hg : o.guard = none) (ho : o.op = .alloc 41)
    (h : wpList Tryd.prog ops Q rest (a.put o.dst (.pointer (some ⟨w.heap.size, 0, none⟩))) (w.alloc (.cells azero 41))) : wpList Tryd.prog ops Q (o :: rest) a w := by
  refine wpList_plain hg fun K hK => ?_
  have hz := (zero_of_info (P := Tryd.prog) (t := 41) (v := .agg azero) (n := 4) (by kernel_rfl)).1
  unfold Oper.wp execOp
  simp [ho, Instr.alloc, hz, newVar, newRow, Value.cells, Result.andThen]
  exact hK _ _ h
theorem acell_one (a : Ar) : (acell a).all (·.oneCell') = true := by simp [acell, Value.oneCell']
set_option maxHeartbeats 1000000 in
theorem argA_any (w : World) : Calls Tryd.prog 20 #[] w fun e w' => e = .returned (.agg (acell .A)) ∧ Keeps (fun _ => False) w w' := by
  go_enter Tryd.func20, Tryd.ntmps20
  go_wp2_with (first
    | (refine wpList_alloc_a rfl rfl ?_)
    | (refine wpList_buildTo rfl 41 _ rfl _ rfl (acell .A) (by kernel_rfl) ?_)
    | (refine wpList_store_row rfl 41 _ _ rfl _ (acell .A) rfl rfl 41 azero (heap_last w _) size41 rfl (acell_one _) ?_; rw [World.setRow_alloc_new]))
  exact bodyPost_ret (results_cell_row rfl _ _ w.heap.size 41 (acell .A) (0, 0) _ rfl (heap_last w _) Tryd.underlying41 rfl size41) rfl ⟨rfl, (Keeps.refl _ w).alloc _⟩
set_option maxHeartbeats 1000000 in
theorem argB_any (w : World) : Calls Tryd.prog 21 #[] w fun e w' => e = .returned (.agg (acell .B)) ∧ Keeps (fun _ => False) w w' := by
  go_enter Tryd.func21, Tryd.ntmps21
  go_wp2_with (first
    | (refine wpList_alloc_a rfl rfl ?_)
    | (refine wpList_buildTo rfl 41 _ rfl _ rfl (acell .B) (by kernel_rfl) ?_)
    | (refine wpList_store_row rfl 41 _ _ rfl _ (acell .B) rfl rfl 41 azero (heap_last w _) size41 rfl (acell_one _) ?_; rw [World.setRow_alloc_new]))
  exact bodyPost_ret (results_cell_row rfl _ _ w.heap.size 41 (acell .B) (0, 0) _ rfl (heap_last w _) Tryd.underlying41 rfl size41) rfl ⟨rfl, (Keeps.refl _ w).alloc _⟩
set_option maxHeartbeats 1000000 in
theorem argN_any (w : World) : Calls Tryd.prog 22 #[] w fun e w' => e = .returned (.agg (acell .N)) ∧ Keeps (fun _ => False) w w' := by
  go_enter Tryd.func22, Tryd.ntmps22
  go_wp2_with (first
    | (refine wpList_alloc_a rfl rfl ?_)
    | (refine wpList_buildTo rfl 41 _ rfl _ rfl (acell .N) (by kernel_rfl) ?_)
    | (refine wpList_store_row rfl 41 _ _ rfl _ (acell .N) rfl rfl 41 azero (heap_last w _) size41 rfl (acell_one _) ?_; rw [World.setRow_alloc_new]))
  exact bodyPost_ret (results_cell_row rfl _ _ w.heap.size 41 (acell .N) (0, 0) _ rfl (heap_last w _) Tryd.underlying41 rfl size41) rfl ⟨rfl, (Keeps.refl _ w).alloc _⟩
set_option maxHeartbeats 1000000 in
theorem argM_any (w : World) : Calls Tryd.prog 23 #[] w fun e w' => e = .returned (.agg (acell .M)) ∧ Keeps (fun _ => False) w w' := by
  go_enter Tryd.func23, Tryd.ntmps23
  go_wp2_with (first
    | (refine wpList_alloc_a rfl rfl ?_)
    | (refine wpList_buildTo rfl 41 _ rfl _ rfl (acell .M) (by kernel_rfl) ?_)
    | (refine wpList_store_row rfl 41 _ _ rfl _ (acell .M) rfl rfl 41 azero (heap_last w _) size41 rfl (acell_one _) ?_; rw [World.setRow_alloc_new]))
  exact bodyPost_ret (results_cell_row rfl _ _ w.heap.size 41 (acell .M) (0, 0) _ rfl (heap_last w _) Tryd.underlying41 rfl size41) rfl ⟨rfl, (Keeps.refl _ w).alloc _⟩
set_option maxHeartbeats 1000000 in
theorem argK_any (w : World) : Calls Tryd.prog 24 #[] w fun e w' => e = .returned (.agg (acell .K)) ∧ Keeps (fun _ => False) w w' := by
  go_enter Tryd.func24, Tryd.ntmps24
  go_wp2_with (first
    | (refine wpList_alloc_a rfl rfl ?_)
    | (refine wpList_buildTo rfl 41 _ rfl _ rfl (acell .K) (by kernel_rfl) ?_)
    | (refine wpList_store_row rfl 41 _ _ rfl _ (acell .K) rfl rfl 41 azero (heap_last w _) size41 rfl (acell_one _) ?_; rw [World.setRow_alloc_new]))
  exact bodyPost_ret (results_cell_row rfl _ _ w.heap.size 41 (acell .K) (0, 0) _ rfl (heap_last w _) Tryd.underlying41 rfl size41) rfl ⟨rfl, (Keeps.refl _ w).alloc _⟩
set_option maxHeartbeats 1000000 in
theorem argL_any (w : World) : Calls Tryd.prog 25 #[] w fun e w' => e = .returned (.agg (acell .L)) ∧ Keeps (fun _ => False) w w' := by
  go_enter Tryd.func25, Tryd.ntmps25
  go_wp2_with (first
    | (refine wpList_alloc_a rfl rfl ?_)
    | (refine wpList_buildTo rfl 41 _ rfl _ rfl (acell .L) (by kernel_rfl) ?_)
    | (refine wpList_store_row rfl 41 _ _ rfl _ (acell .L) rfl rfl 41 azero (heap_last w _) size41 rfl (acell_one _) ?_; rw [World.setRow_alloc_new]))
  exact bodyPost_ret (results_cell_row rfl _ _ w.heap.size 41 (acell .L) (0, 0) _ rfl (heap_last w _) Tryd.underlying41 rfl size41) rfl ⟨rfl, (Keeps.refl _ w).alloc _⟩
end Go.Proofs.YtngoifbflpeapaaDoor

