import Derived.Test.YtndojlacdggfcabH2
import Derived.Great.FillDense
namespace Go.Proofs.Ytndojlacdggfcab
open Go.RowKit

theorem ownsRow_slice {W : World} {base : Nat} {e : TypeId} {size : Nat} {v : Value} {n : Nat} {xs : List Value} (h : W.ownsRow base e size v n xs) : ∃ a cap, v = .slice a n cap := by
  rcases h.2 with ⟨rfl, rfl⟩ | ⟨g, cap, _, rfl, _⟩
  · exact ⟨none, 0, rfl⟩
  · exact ⟨_, cap, rfl⟩

set_option maxRecDepth 100000 in
set_option maxHeartbeats 1000000 in
theorem ref_len (w : World) (b : Nat) (f : Nat → Int) (h : RefAt w b f) : Calls Try.prog 44 #[.pointer (some ⟨b, 0, none⟩)] w fun e w' => e = .returned (.int .i64 ((els f 0 0 512).length : Int)) ∧ Hid (Keeps (fun _ => False) w w') := by
  have hf := (ref_from w b f 0 h).mono (R' := fun e w' => ∃ a cap, e = .returned (.slice a (els f 0 0 512).length cap) ∧ Hid (Keeps (fun _ => False) w w')) (fun e w' ⟨s, he, hs⟩ => by
    obtain ⟨a, cap, rfl⟩ := ownsRow_slice hs.out.2
    exact ⟨a, cap, he, hs.out.1⟩)
  have hl := els_len f 0 0 512
  go_enter Try.func44, Try.ntmps44
  go_wp2_with (first | (go_at_call 49; refine hf.mono ?_; rintro e w1 ⟨a, cap, rfl, H1⟩))
  go_ret
  exact ⟨rfl, H1⟩

theorem refCells_zero_size : (refCells (fun _ => 0)).size = 512 := refCells_size _
theorem agg_size (f : Nat → Int) : (Value.agg (refCells f)).cells.size = 512 := by
  simp only [Value.cells]
  exact refCells_size f
set_option maxRecDepth 100000 in
theorem ref_built (f : Nat → Int) : Try.prog.built 83 [(0, .agg (refCells f))] = some (refCells f) := by
  have h := Go.Great.fill_whole (s := 512) (by decide) [.agg (refCells f)] (refCells (fun _ => 0)) (by intro v hv; rw [List.mem_singleton.1 hv]; exact agg_size f) (by rw [refCells_size]; rfl)
  have hi : (Try.prog.info? 83).map (fun i => i.zero) = some (some (.agg (refCells (fun _ => 0)))) := by kernel_rfl
  have hp : (Try.prog.fieldsOf 83).toList.mapM (fun f => (Try.prog.info? f.type).map fun i => (f.offset, i.size)) = some [(0, 512)] := by kernel_rfl
  cases hq : Try.prog.info? 83 with
  | none => rw [hq] at hi; cases hi
  | some it =>
    rw [hq] at hi
    have hz : it.zero = some (.agg (refCells (fun _ => 0))) := by simpa using hi
    simp only [Program.fieldsOf, Try.underlying83] at hp
    simp only [Program.built, hq, Try.underlying83, hz, hp]
    simpa [Instr.fill, Value.cells] using h

theorem wpList_build_one {P : Program} {ops : Array Oper} {rest : List Oper} {o : Oper} {a : Act} {w : World} {Q : Exit → Act → World → Prop} (hg : o.guard = none) (t : TypeId) (i : Nat) (x : Operand) (ho : o.op = .build t #[(i, x)])
    (v : Value) (cells : Array Value) (hx : a.eval x = v) (hb : P.built t [(i, v)] = some cells) (h : wpList P ops Q rest (a.put o.dst (.agg cells)) w) : wpList P ops Q (o :: rest) a w :=
  wpList_build hg t _ ho (by simp [hx, hb]) (by simpa [hx, hb] using h)

set_option maxRecDepth 100000 in
set_option maxHeartbeats 1000000 in
theorem ref_copy (w : World) (b : Nat) (f : Nat → Int) (h : RefAt w b f) : Calls Try.prog 48 #[.pointer (some ⟨b, 0, none⟩)] w fun e w' => ∃ c, e = .returned (.pointer (some ⟨c, 0, none⟩)) ∧ Hid (c = w.heap.size ∧ Keeps (fun _ => False) w w' ∧ RefAt w' c f) := by
  have hsz : (Try.prog.info? 81).map (·.size) = some (refCells f).size := by rw [refCells_size]; kernel_rfl
  have h' : w.heap[b]? = some (.cells (refCells f) 83 (0, 0)) := h
  go_enter Try.func48, Try.ntmps48
  go_wp2_with (first
    | (refine wpList_load_row rfl 81 _ rfl _ rfl 83 _ (0, 0) _ h' Try.underlying81 rfl hsz ?_)
    | (refine wpList_build_one rfl 83 0 _ rfl _ _ rfl (ref_built f) ?_))
  go_ret
  exact ⟨w.heap.size, rfl, rfl, Keeps.new w _, (MapKept.heap_alloc w _).1⟩

end Go.Proofs.Ytndojlacdggfcab
