import Derived.Test.YtndojlacdggfcaaU1
import Derived.Laws.StructEq
namespace Go.Proofs.Ytndojlacdggfcaa
open Go.RowKit

def zslotS : Array Value := #[.pointer none, .string ⟨#[]⟩]
def znodeS : Array Value := ncellsS (fun _ => none) (fun _ => ⟨#[]⟩)

set_option maxHeartbeats 400000 in
theorem slot_eqlS (d : Nat) (p : Option Addr) (v : ByteArray) (w : World) : (Op.equalIn (d + 2) 90 (.agg #[.pointer p, .string v]) (.agg #[.pointer none, .string ⟨#[]⟩])).run Try.prog w = .ok (p.isNone && v == (⟨#[]⟩ : ByteArray)) w := by
  rw [run_equalIn_agg w (d + 1) 90 _ _ (by kernel_rfl) (by kernel_rfl)]
  simp only [Program.fieldsOf, Try.underlying90]
  simp [Op.eqFields, part, isAgg, run_underlying Try.underlying88, run_underlying Try.underlying9]
  cases p with
  | none =>
    simp [Op.equalIn, run_underlying Try.underlying88, run_underlying Try.underlying9]
    cases hb : (v == (⟨#[]⟩ : ByteArray)) <;> simp
  | some a => simp [Op.equalIn, run_underlying Try.underlying88]

set_option maxHeartbeats 400000 in
theorem part_nodeS (q : Nat → Option Addr) (u : Nat → ByteArray) (w : World) (i : Nat) (hi : i < 8) : (part 90 (ncellsS q u) (i * 2)).run Try.prog w = .ok (.agg #[.pointer (q i), .string (u i)]) w := by
  have hz : ∀ w, (sizeOf 90).run Try.prog w = .ok 2 w := fun w => by kernel_rfl
  have : i = 0 ∨ i = 1 ∨ i = 2 ∨ i = 3 ∨ i = 4 ∨ i = 5 ∨ i = 6 ∨ i = 7 := by omega
  rcases this with rfl | rfl | rfl | rfl | rfl | rfl | rfl | rfl <;> simp [part, isAgg, run_underlying Try.underlying90, hz, ncellsS]

set_option maxHeartbeats 400000 in
theorem node_eqlS (q : Nat → Option Addr) (u : Nat → ByteArray) : ∃ r, (∀ w, (Op.equalIn 10000 110 (.agg (ncellsS q u)) (.agg znodeS)).run Try.prog w = .ok r w) ∧ (r = true → ∀ i, i < 8 → q i = none ∧ u i = ⟨#[]⟩) := by
  refine ⟨(List.range' 0 8 1).all fun i => (q i).isNone && u i == (⟨#[]⟩ : ByteArray), fun w => ?_, fun h i hi => ?_⟩
  · have hz : ∀ w, (sizeOf 90).run Try.prog w = .ok 2 w := fun w => by kernel_rfl
    rw [show (10000 : Nat) = 9999 + 1 from rfl, Op.equalIn]
    simp only [Sem.run_bind, run_underlying Try.underlying110, Result.andThen_ok, hz, Std.Legacy.Range.forIn_eq_forIn_range', Std.Legacy.Range.size, Nat.sub_zero, Nat.add_sub_cancel, Nat.div_one]
    have hl : ∀ i ∈ List.range' 0 8 1, i < 8 := fun i hi => by simpa using (List.mem_range'_1.1 hi).2
    generalize List.range' 0 8 1 = l at hl ⊢
    induction l with
    | nil => simp
    | cons i l ih =>
      have hi : i < 8 := hl i (by simp)
      simp only [List.forIn_cons, Sem.run_bind, part_nodeS q u w i hi, znodeS, part_nodeS (fun _ => none) (fun _ => ⟨#[]⟩) w i hi, slot_eqlS 9997 (q i) (u i) w, Result.andThen_ok, List.all_cons]
      cases hb : ((q i).isNone && u i == (⟨#[]⟩ : ByteArray))
      · simp
      · simp only [Bool.not_true, Bool.false_eq_true, if_false, Sem.run_pure, Result.andThen_ok, Bool.true_and]
        exact ih fun j hj => hl j (by simp [hj])
  · have := List.all_eq_true.1 h i (List.mem_range'_1.2 (by omega))
    have t2 : q i = none ∧ (u i == (⟨#[]⟩ : ByteArray)) = true := by simpa using this
    exact ⟨t2.1, (Go.MapKept.bytes_beq _ _).1 t2.2⟩

theorem size102S (q : Nat → Option Addr) (u : Nat → ByteArray) : (Try.prog.info? 110).map (·.size) = some (ncellsS q u).size := (by kernel_rfl : (Try.prog.info? 110).map (·.size) = some 16)

set_option maxRecDepth 100000 in
set_option maxHeartbeats 400000 in
theorem over_anyS (q : Nat → Option Addr) (u : Nat → ByteArray) (w : World) : Calls Try.prog 51 #[.agg (ncellsS q u)] w fun e w' => ∃ p, e = .returned (.agg #[.pointer p, .string ⟨#[]⟩]) ∧ Keeps (fun _ => False) w w' ∧
    ((p = none ∧ ∀ i, i < 8 → q i = none ∧ u i = ⟨#[]⟩) ∨ ∃ b, p = some ⟨b, 0, none⟩ ∧ w.heap.size ≤ b ∧ NodeAtS w' b q u) := by
  obtain ⟨r, hr0, hz⟩ := node_eqlS q u
  have hr : ∀ w, (Op.equalIn 10000 110 (.agg (ncellsS q u)) (.agg #[.pointer none, .string ⟨#[]⟩, .pointer none, .string ⟨#[]⟩, .pointer none, .string ⟨#[]⟩, .pointer none, .string ⟨#[]⟩, .pointer none, .string ⟨#[]⟩, .pointer none, .string ⟨#[]⟩, .pointer none, .string ⟨#[]⟩, .pointer none, .string ⟨#[]⟩])).run Try.prog w = .ok r w := hr0
  clear hr0
  have HZ := Hid.mk' hz
  clear hz
  have hblk : ((w.alloc (.cells (ncellsS q u) 110)).alloc (.cells #[.pointer none, .string ⟨#[]⟩] 90)).heap[w.heap.size]? = some (.cells (ncellsS q u) 110 (0, 0)) :=
    heap_alloc2_old w _ _
  have hK : Keeps (fun _ => False) w ((w.alloc (.cells (ncellsS q u) 110)).alloc (.cells #[.pointer none, .string ⟨#[]⟩] 90)) :=
    (Keeps.of (World.grownBy_alloc w _ none) (by simp)).step (World.grownBy_alloc _ _ none) (by simp)
  cases r with
  | true =>
    go_enter Try.func51, Try.ntmps51
    go_wp2_with (refine wpList_load_row rfl 110 _ rfl _ rfl 110 _ (0, 0) _ hblk Try.underlying110 rfl (size102S q u) ?_)
    refine bodyPost_ret (results_cell_row rfl _ _ (w.heap.size + 1) 90 _ (0, 0) _ rfl (heap_alloc2_new w _ _) Try.underlying90 rfl (by kernel_rfl)) rfl ?_
    exact ⟨none, rfl, hK, .inl ⟨rfl, (HZ : _ → _) trivial⟩⟩
  | false =>
    go_enter Try.func51, Try.ntmps51
    go_wp2_with (refine wpList_load_row rfl 110 _ rfl _ rfl 110 _ (0, 0) _ hblk Try.underlying110 rfl (size102S q u) ?_)
    refine bodyPost_ret (results_cell_row rfl _ _ (w.heap.size + 1) 90 _ (0, 0) _ rfl (heap_alloc2_new w _ _) Try.underlying90 rfl (by kernel_rfl)) rfl ?_
    exact ⟨some ⟨w.heap.size, 0, none⟩, rfl, (Keeps.of (World.grownBy_alloc w _ none) (by simp)).step (World.grownBy_alloc _ _ none) (by simp), .inr ⟨_, rfl, Nat.le_refl _, heap_alloc2_old w _ _⟩⟩

end Go.Proofs.Ytndojlacdggfcaa
