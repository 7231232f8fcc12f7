import Derived.Test.YtndojlacdggfcaaW1
import Derived.Laws.StructEq
namespace Go.Proofs.Ytndojlacdggfcaa
open Go.RowKit

def zslotP : Array Value := #[.pointer none, .int .i64 0, .int .i64 0]
def znodeP : Array Value := ncellsP (fun _ => none) (fun _ => (0, 0))

set_option maxHeartbeats 400000 in
theorem span_eqlP (d : Nat) (v x : Sp) (w : World) : (Op.equalIn (d + 2) 42 (.agg #[.int .i64 v.1, .int .i64 v.2]) (.agg #[.int .i64 x.1, .int .i64 x.2])).run Try.prog w = .ok (v.1 == x.1 && v.2 == x.2) w := by
  rw [run_equalIn_agg w (d + 1) 42 _ _ (by kernel_rfl) (by kernel_rfl)]
  simp only [Program.fieldsOf, Try.underlying42]
  simp [Op.eqFields, part, isAgg, run_underlying Try.underlying3, Op.equalIn]
  by_cases h1 : v.1 = x.1 <;> by_cases h2 : v.2 = x.2 <;> simp [h1, h2]

set_option maxHeartbeats 400000 in
theorem slot_eqlP (d : Nat) (p : Option Addr) (v : Sp) (w : World) : (Op.equalIn (d + 3) 79 (.agg #[.pointer p, .int .i64 v.1, .int .i64 v.2]) (.agg #[.pointer none, .int .i64 0, .int .i64 0])).run Try.prog w = .ok (p.isNone && (v.1 == 0 && v.2 == 0)) w := by
  have hs : (Op.equalIn (d + 2) 42 (.agg #[.int .i64 v.1, .int .i64 v.2]) (.agg #[.int .i64 0, .int .i64 0])).run Try.prog w = .ok (v.1 == 0 && v.2 == 0) w := span_eqlP d v (0, 0) w
  have hp : (Op.equalIn (d + 2) 77 (.pointer p) (.pointer none)).run Try.prog w = .ok p.isNone w := by cases p <;> simp [Op.equalIn, run_underlying Try.underlying77]
  rw [run_equalIn_agg w (d + 2) 79 _ _ (by kernel_rfl) (by kernel_rfl)]
  simp only [Program.fieldsOf, Try.underlying79]
  simp [Op.eqFields, part, isAgg, run_underlying Try.underlying77, run_underlying Try.underlying42, hp, hs]
  cases p <;> by_cases h1 : v.1 = 0 <;> by_cases h2 : v.2 = 0 <;> simp [h1, h2]

set_option maxHeartbeats 400000 in
theorem part_nodeP (q : Nat → Option Addr) (u : Nat → Sp) (w : World) (i : Nat) (hi : i < 8) : (part 79 (ncellsP q u) (i * 3)).run Try.prog w = .ok (.agg #[.pointer (q i), .int .i64 (u i).1, .int .i64 (u i).2]) w := by
  have hz : ∀ w, (sizeOf 79).run Try.prog w = .ok 3 w := fun w => by kernel_rfl
  have : i = 0 ∨ i = 1 ∨ i = 2 ∨ i = 3 ∨ i = 4 ∨ i = 5 ∨ i = 6 ∨ i = 7 := by omega
  rcases this with rfl | rfl | rfl | rfl | rfl | rfl | rfl | rfl <;> simp [part, isAgg, run_underlying Try.underlying79, hz, ncellsP]

set_option maxHeartbeats 400000 in
theorem node_eqlP (q : Nat → Option Addr) (u : Nat → Sp) : ∃ r, (∀ w, (Op.equalIn 10000 105 (.agg (ncellsP q u)) (.agg znodeP)).run Try.prog w = .ok r w) ∧ (r = true → ∀ i, i < 8 → q i = none ∧ u i = (0, 0)) := by
  refine ⟨(List.range' 0 8 1).all fun i => (q i).isNone && ((u i).1 == 0 && (u i).2 == 0), fun w => ?_, fun h i hi => ?_⟩
  · have hz : ∀ w, (sizeOf 79).run Try.prog w = .ok 3 w := fun w => by kernel_rfl
    rw [show (10000 : Nat) = 9999 + 1 from rfl, Op.equalIn]
    simp only [Sem.run_bind, run_underlying Try.underlying105, Result.andThen_ok, hz, Std.Legacy.Range.forIn_eq_forIn_range', Std.Legacy.Range.size, Nat.sub_zero, Nat.add_sub_cancel, Nat.div_one]
    have hl : ∀ i ∈ List.range' 0 8 1, i < 8 := fun i hi => by simpa using (List.mem_range'_1.1 hi).2
    generalize List.range' 0 8 1 = l at hl ⊢
    induction l with
    | nil => simp
    | cons i l ih =>
      have hi : i < 8 := hl i (by simp)
      simp only [List.forIn_cons, Sem.run_bind, part_nodeP q u w i hi, znodeP, part_nodeP (fun _ => none) (fun _ => (0, 0)) w i hi, slot_eqlP 9996 (q i) (u i) w, Result.andThen_ok, List.all_cons]
      cases hb : ((q i).isNone && ((u i).1 == 0 && (u i).2 == 0))
      · simp
      · simp only [Bool.not_true, Bool.false_eq_true, if_false, Sem.run_pure, Result.andThen_ok, Bool.true_and]
        exact ih fun j hj => hl j (by simp [hj])
  · have := List.all_eq_true.1 h i (List.mem_range'_1.2 (by omega))
    have t2 : q i = none ∧ (u i).1 = 0 ∧ (u i).2 = 0 := by simpa using this
    exact ⟨t2.1, Prod.ext t2.2.1 t2.2.2⟩

theorem size102P (q : Nat → Option Addr) (u : Nat → Sp) : (Try.prog.info? 105).map (·.size) = some (ncellsP q u).size := (by kernel_rfl : (Try.prog.info? 105).map (·.size) = some 24)

set_option maxRecDepth 100000 in
set_option maxHeartbeats 400000 in
theorem over_anyP (q : Nat → Option Addr) (u : Nat → Sp) (w : World) : Calls Try.prog 48 #[.agg (ncellsP q u)] w fun e w' => ∃ p, e = .returned (.agg #[.pointer p, .int .i64 0, .int .i64 0]) ∧ Keeps (fun _ => False) w w' ∧
    ((p = none ∧ ∀ i, i < 8 → q i = none ∧ u i = (0, 0)) ∨ ∃ b, p = some ⟨b, 0, none⟩ ∧ w.heap.size ≤ b ∧ NodeAtP w' b q u) := by
  obtain ⟨r, hr0, hz⟩ := node_eqlP q u
  have hr : ∀ w, (Op.equalIn 10000 105 (.agg (ncellsP q u)) (.agg #[.pointer none, .int .i64 0, .int .i64 0, .pointer none, .int .i64 0, .int .i64 0, .pointer none, .int .i64 0, .int .i64 0, .pointer none, .int .i64 0, .int .i64 0, .pointer none, .int .i64 0, .int .i64 0, .pointer none, .int .i64 0, .int .i64 0, .pointer none, .int .i64 0, .int .i64 0, .pointer none, .int .i64 0, .int .i64 0])).run Try.prog w = .ok r w := hr0
  clear hr0
  have HZ := Hid.mk' hz
  clear hz
  have hblk : ((w.alloc (.cells (ncellsP q u) 105)).alloc (.cells #[.pointer none, .int .i64 0, .int .i64 0] 79)).heap[w.heap.size]? = some (.cells (ncellsP q u) 105 (0, 0)) :=
    heap_alloc2_old w _ _
  have hK : Keeps (fun _ => False) w ((w.alloc (.cells (ncellsP q u) 105)).alloc (.cells #[.pointer none, .int .i64 0, .int .i64 0] 79)) :=
    (Keeps.of (World.grownBy_alloc w _ none) (by simp)).step (World.grownBy_alloc _ _ none) (by simp)
  cases r with
  | true =>
    go_enter Try.func48, Try.ntmps48
    go_wp2_with (refine wpList_load_row rfl 105 _ rfl _ rfl 105 _ (0, 0) _ hblk Try.underlying105 rfl (size102P q u) ?_)
    refine bodyPost_ret (results_cell_row rfl _ _ (w.heap.size + 1) 79 _ (0, 0) _ rfl (heap_alloc2_new w _ _) Try.underlying79 rfl (by kernel_rfl)) rfl ?_
    exact ⟨none, rfl, hK, .inl ⟨rfl, (HZ : _ → _) trivial⟩⟩
  | false =>
    go_enter Try.func48, Try.ntmps48
    go_wp2_with (refine wpList_load_row rfl 105 _ rfl _ rfl 105 _ (0, 0) _ hblk Try.underlying105 rfl (size102P q u) ?_)
    refine bodyPost_ret (results_cell_row rfl _ _ (w.heap.size + 1) 79 _ (0, 0) _ rfl (heap_alloc2_new w _ _) Try.underlying79 rfl (by kernel_rfl)) rfl ?_
    exact ⟨some ⟨w.heap.size, 0, none⟩, rfl, (Keeps.of (World.grownBy_alloc w _ none) (by simp)).step (World.grownBy_alloc _ _ none) (by simp), .inr ⟨_, rfl, Nat.le_refl _, heap_alloc2_old w _ _⟩⟩

end Go.Proofs.Ytndojlacdggfcaa
