import Derived.Test.YtndojlacdggfcaaA1
import Derived.Laws.StructEq
namespace Go.Proofs.Ytndojlacdggfcaa
open Go.RowKit

def zslot : Array Value := #[.pointer none, .int .i64 0]
def znode : Array Value := ncells (fun _ => none) (fun _ => 0)

set_option maxHeartbeats 400000 in
theorem slot_eql (d : Nat) (p : Option Addr) (v : Int) (w : World) : (Op.equalIn (d + 2) 71 (.agg #[.pointer p, .int .i64 v]) (.agg #[.pointer none, .int .i64 0])).run Try.prog w = .ok (p.isNone && v == 0) w := by
  rw [run_equalIn_agg w (d + 1) 71 _ _ (by kernel_rfl) (by kernel_rfl)]
  simp only [Program.fieldsOf, Try.underlying71]
  simp [Op.eqFields, part, isAgg, run_underlying Try.underlying69, run_underlying Try.underlying3]
  cases p with
  | none =>
    simp [Op.equalIn, run_underlying Try.underlying69, run_underlying Try.underlying3]
    by_cases hv : v = 0 <;> simp [hv]
  | some a => simp [Op.equalIn, run_underlying Try.underlying69]

set_option maxHeartbeats 400000 in
theorem part_node (q : Nat → Option Addr) (u : Nat → Int) (w : World) (i : Nat) (hi : i < 8) : (part 71 (ncells q u) (i * 2)).run Try.prog w = .ok (.agg #[.pointer (q i), .int .i64 (u i)]) w := by
  have hz : ∀ w, (sizeOf 71).run Try.prog w = .ok 2 w := fun w => by kernel_rfl
  have : i = 0 ∨ i = 1 ∨ i = 2 ∨ i = 3 ∨ i = 4 ∨ i = 5 ∨ i = 6 ∨ i = 7 := by omega
  rcases this with rfl | rfl | rfl | rfl | rfl | rfl | rfl | rfl <;> simp [part, isAgg, run_underlying Try.underlying71, hz, ncells]

set_option maxHeartbeats 400000 in
theorem node_eql (q : Nat → Option Addr) (u : Nat → Int) : ∃ r, (∀ w, (Op.equalIn 10000 102 (.agg (ncells q u)) (.agg znode)).run Try.prog w = .ok r w) ∧ (r = true → ∀ i, i < 8 → q i = none ∧ u i = 0) := by
  refine ⟨(List.range' 0 8 1).all fun i => (q i).isNone && u i == 0, fun w => ?_, fun h i hi => ?_⟩
  · have hz : ∀ w, (sizeOf 71).run Try.prog w = .ok 2 w := fun w => by kernel_rfl
    rw [show (10000 : Nat) = 9999 + 1 from rfl, Op.equalIn]
    simp only [Sem.run_bind, run_underlying Try.underlying102, Result.andThen_ok, hz, Std.Legacy.Range.forIn_eq_forIn_range', Std.Legacy.Range.size, Nat.sub_zero, Nat.add_sub_cancel, Nat.div_one]
    have hl : ∀ i ∈ List.range' 0 8 1, i < 8 := fun i hi => by simpa using (List.mem_range'_1.1 hi).2
    generalize List.range' 0 8 1 = l at hl ⊢
    induction l with
    | nil => simp
    | cons i l ih =>
      have hi : i < 8 := hl i (by simp)
      simp only [List.forIn_cons, Sem.run_bind, part_node q u w i hi, znode, part_node (fun _ => none) (fun _ => 0) w i hi, slot_eql 9997 (q i) (u i) w, Result.andThen_ok, List.all_cons]
      cases hb : ((q i).isNone && u i == 0)
      · simp
      · simp only [Bool.not_true, Bool.false_eq_true, if_false, Sem.run_pure, Result.andThen_ok, Bool.true_and]
        exact ih fun j hj => hl j (by simp [hj])
  · have := List.all_eq_true.1 h i (List.mem_range'_1.2 (by omega))
    simpa using this

theorem size102 (q : Nat → Option Addr) (u : Nat → Int) : (Try.prog.info? 102).map (·.size) = some (ncells q u).size := (by kernel_rfl : (Try.prog.info? 102).map (·.size) = some 16)

set_option maxRecDepth 100000 in
set_option maxHeartbeats 400000 in
theorem over_any (q : Nat → Option Addr) (u : Nat → Int) (w : World) : Calls Try.prog 47 #[.agg (ncells q u)] w fun e w' => ∃ p, e = .returned (.agg #[.pointer p, .int .i64 0]) ∧ Keeps (fun _ => False) w w' ∧
    ((p = none ∧ ∀ i, i < 8 → q i = none ∧ u i = 0) ∨ ∃ b, p = some ⟨b, 0, none⟩ ∧ w.heap.size ≤ b ∧ NodeAt w' b q u) := by
  obtain ⟨r, hr0, hz⟩ := node_eql q u
  have hr : ∀ w, (Op.equalIn 10000 102 (.agg (ncells q u)) (.agg #[.pointer none, .int .i64 0, .pointer none, .int .i64 0, .pointer none, .int .i64 0, .pointer none, .int .i64 0, .pointer none, .int .i64 0, .pointer none, .int .i64 0, .pointer none, .int .i64 0, .pointer none, .int .i64 0])).run Try.prog w = .ok r w := hr0
  clear hr0
  have HZ := Hid.mk' hz
  clear hz
  have hblk : ((w.alloc (.cells (ncells q u) 102)).alloc (.cells #[.pointer none, .int .i64 0] 71)).heap[w.heap.size]? = some (.cells (ncells q u) 102 (0, 0)) :=
    heap_alloc2_old w _ _
  have hK : Keeps (fun _ => False) w ((w.alloc (.cells (ncells q u) 102)).alloc (.cells #[.pointer none, .int .i64 0] 71)) :=
    (Keeps.of (World.grownBy_alloc w _ none) (by simp)).step (World.grownBy_alloc _ _ none) (by simp)
  cases r with
  | true =>
    go_enter Try.func47, Try.ntmps47
    go_wp2_with (refine wpList_load_row rfl 102 _ rfl _ rfl 102 _ (0, 0) _ hblk Try.underlying102 rfl (size102 q u) ?_)
    refine bodyPost_ret (results_cell_row rfl _ _ (w.heap.size + 1) 71 _ (0, 0) _ rfl (heap_alloc2_new w _ _) Try.underlying71 rfl (by kernel_rfl)) rfl ?_
    exact ⟨none, rfl, hK, .inl ⟨rfl, (HZ : _ → _) trivial⟩⟩
  | false =>
    go_enter Try.func47, Try.ntmps47
    go_wp2_with (refine wpList_load_row rfl 102 _ rfl _ rfl 102 _ (0, 0) _ hblk Try.underlying102 rfl (size102 q u) ?_)
    refine bodyPost_ret (results_cell_row rfl _ _ (w.heap.size + 1) 71 _ (0, 0) _ rfl (heap_alloc2_new w _ _) Try.underlying71 rfl (by kernel_rfl)) rfl ?_
    exact ⟨some ⟨w.heap.size, 0, none⟩, rfl, (Keeps.of (World.grownBy_alloc w _ none) (by simp)).step (World.grownBy_alloc _ _ none) (by simp), .inr ⟨_, rfl, Nat.le_refl _, heap_alloc2_old w _ _⟩⟩

end Go.Proofs.Ytndojlacdggfcaa
