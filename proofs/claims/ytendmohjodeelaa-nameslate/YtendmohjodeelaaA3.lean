import Derived.Test.YtendmohjodeelaaA2
import Derived.Lib.BufferWrite
import Derived.Deep.WholeRow
import Derived.Great.BuildSlice
namespace Go.Proofs.Ytendmohjodeelaa
open Go.RowKit Go.Maps Go.Great

/-- The zero of a key. -/
def kzero : Array Value := kcells 0 ByteArray.empty

theorem info55 : (Try.prog.info? 55).map (fun i => (i.zero, i.size)) = some (some (.agg kzero), 30) := by kernel_rfl
theorem size55 : (Try.prog.info? 55).map (·.size) = some 30 := by kernel_rfl
theorem size55' (d : Int) (s : ByteArray) : (Try.prog.info? 55).map (·.size) = some (kcells d s).size := by rw [size_kcells]; exact size55
theorem size_kzero : kzero.size = 30 := size_kcells _ _
theorem built0 : Try.prog.built 55 [] = some kzero := by kernel_rfl
/-- A key with its size and no name yet. -/
def khead (d n : Int) : Array Value := (Value.int .i64 d :: .int .i64 n :: zpad ByteArray.empty).toArray
theorem size_khead (d n : Int) : (khead d n).size = 30 := by simp [khead, length_zpad]
theorem khead_one (d n : Int) : (khead d n).all (·.oneCell') = true := by simp [khead, zpad, Value.oneCell']

theorem built2 (d n : Int) : Try.prog.built 55 [(0, .int .i64 d), (1, .int .i64 n)] = some (khead d n) := by kernel_rfl

theorem wpList_alloc_k {ops : Array Oper} {rest : List Oper} {o : Oper} {a : Act} {w : World} {Q : Exit → Act → World → Prop} (hg : o.guard = none) (ho : o.op = .alloc 55)
    (h : wpList Try.prog ops Q rest (a.put o.dst (.pointer (some ⟨w.heap.size, 0, none⟩))) (w.alloc (.cells kzero 55))) : wpList Try.prog ops Q (o :: rest) a w := by
  refine wpList_plain hg fun K hK => ?_
  have hz := (zero_of_info info55).1
  unfold Oper.wp execOp
  simp [ho, Instr.alloc, hz, newVar, newRow, Value.cells, Result.andThen]
  exact hK _ _ h

theorem Keeps.setRow {X : Nat → Prop} {a b : World} (h : Keeps X a b) (g : Nat) (cs : Array Value) (hg : a.heap.size ≤ g ∨ X g) : Keeps X a (b.setRow g cs) :=
  ⟨h.os, h.tape, h.output, by simp [h.size], fun k hk hx => by
    rw [setRow_other _ _ _ _ (by rintro rfl; rcases hg with hg | hg; omega; exact hx hg)]; exact h.block k hk hx⟩
theorem Keeps.alloc {X : Nat → Prop} {a b : World} (h : Keeps X a b) (o : Obj) : Keeps X a (b.alloc o) := h.step (World.grownBy_alloc b o none) (by simp)

theorem results_cell_slot {P : Program} {fn : Func} {p q : Tmp} {ty : TypeId} (h : fn.results = #[.cell p ty, .tmp q]) (tmps : Array Value) (w : World) (g : Nat) (t : TypeId) (cs : Array Value) (fr : Nat × Nat) (d : TypeDesc)
    (hp : tmps.getD p undef = .pointer (some ⟨g, 0, none⟩)) (hg : w.heap[g]? = some (.cells cs t fr))
    (hu : P.underlying ty = some d) (hd : (match d with | .struct _ | .array _ _ => true | _ => false) = true) (hi : (P.info? ty).map (·.size) = some cs.size) :
    (results fn tmps).run P w = .ok (.tuple #[.agg cs, tmps.getD q undef]) w := by
  have hp' : tmps[p]?.getD undef = .pointer (some ⟨g, 0, none⟩) := by simpa using hp
  simp [results, h, hp', asAddr, run_loadVar_row w g t ty cs fr d hg hu hd hi]

set_option maxHeartbeats 1000000 in
theorem keyOf_none (d : Int) (s : ByteArray) (w : World) (hv : valid s = false) :
    Calls Try.prog 29 #[.int .i64 d, .string s] w fun e w' => e = .returned (.tuple #[.agg kzero, .bool false]) ∧ Keeps (fun _ => False) w w' := by
  have h35 := prog_valid s
  rw [hv] at h35
  go_enter Try.func29, Try.ntmps29
  go_wp2_with (first
    | (go_at_call 35; refine (h35 _).mono ?_; rintro e w1 ⟨rfl, rfl⟩)
    | (refine wpList_alloc_k rfl rfl ?_)
    | (refine wpList_buildTo rfl 55 _ rfl _ rfl kzero (by simp [built0]) ?_)
    | (refine wpList_store_row rfl 55 _ _ rfl _ kzero rfl rfl 55 kzero (heap_alloc_last w _) (by rw [size_kzero]; exact size55) rfl (kcells_one _ _) ?_; rw [World.setRow_alloc_new]))
  exact bodyPost_ret (results_cell_slot rfl _ _ w.heap.size 55 kzero (0, 0) _ rfl (heap_alloc_last w _) Try.underlying55 rfl (by rw [size_kzero]; exact size55)) rfl ⟨rfl, (Keeps.refl _ w).alloc _⟩

theorem copied (d : Int) (s : ByteArray) (hs : s.size ≤ 28) :
    ((khead d s.size).toList.take 2 ++ Lib.byteCells s.data.toList ++ (khead d s.size).toList.drop (2 + s.size)).toArray = kcells d s := by
  have h1 : (khead d s.size).toList.take 2 = [Value.int .i64 d, .int .i64 s.size] := rfl
  have h2 : (khead d s.size).toList.drop (2 + s.size) = (zpad ByteArray.empty).drop s.size := by
    rw [Nat.add_comm]; rfl
  rw [h1, h2]
  unfold kcells
  congr 1
  simp only [List.cons_append, List.nil_append]
  congr 2
  have hl : (Lib.byteCells s.data.toList).length = s.size := by rw [Lib.byteCells_length, ← Lib.size_eq]
  apply List.ext_getElem?
  intro i
  by_cases hi : i < s.size
  · rw [List.getElem?_append_left (by omega)]
    have hi' : i < s.data.toList.length := by simpa using hi
    simp only [zpad, Lib.byteCells, List.getElem?_map]
    rw [List.getElem?_range (by omega), List.getElem?_eq_getElem hi']
    simp only [Option.map_some, Option.some.injEq]
    rw [List.getD_eq_getElem?_getD, List.getElem?_eq_getElem hi']
    rfl
  · rw [List.getElem?_append_right (by omega), hl, List.getElem?_drop]
    simp only [zpad, List.getElem?_map]
    have e : s.size + (i - s.size) = i := by omega
    rw [e]
    by_cases h28 : i < 28
    · rw [List.getElem?_range h28]
      have : s.data.toList.length ≤ i := by simp; omega
      simp only [Option.map_some, Option.some.injEq]
      rw [List.getD_eq_getElem?_getD, List.getD_eq_getElem?_getD, List.getElem?_eq_none this]
      rfl
    · rw [List.getElem?_eq_none (by simp; omega)]; rfl

set_option maxHeartbeats 1000000 in
theorem keyOf_some (d : Int) (s : ByteArray) (w : World) (hv : valid s = true) (hs : s.size ≤ 28) :
    Calls Try.prog 29 #[.int .i64 d, .string s] w fun e w' => e = .returned (.tuple #[.agg (kcells d s), .bool true]) ∧ Keeps (fun _ => False) w w' := by
  have h35 := prog_valid s
  rw [hv] at h35
  have hb := built2 d s.size
  have HC : ∀ (wx : World) (ty : TypeId), Hid ((Builtin.copy_ #[65, 9] ty #[.slice (some ⟨wx.heap.size, 2, none⟩) 28 28, .string s]).run Try.prog (wx.alloc (.cells (khead d s.size) 55)) = .ok (goInt s.size) (wx.alloc (.cells (kcells d s) 55))) := by
    intro wx ty
    have h := Lib.run_copy_row_string (P := Try.prog) (wx.alloc (.cells (khead d s.size) 55)) 65 9 ty 5 wx.heap.size 2 28 28 s (khead d s.size) 55 Try.underlying65 (by kernel_rfl) (heap_alloc_last _ _) hs (by rw [size_khead]; omega)
    rw [copied d s hs, World.setRow_alloc_new] at h
    exact h
  have hcp := (HC (w.alloc (.cells kzero 55)) 3).out
  simp only [World.size_alloc] at hcp
  have hl1 : ((w.alloc (.cells kzero 55)).alloc (.cells kzero 55)).heap[w.heap.size + 1]? = some (.cells kzero 55 (0, 0)) := by
    have := heap_alloc_last (w.alloc (.cells kzero 55)) (.cells kzero 55); rwa [World.size_alloc] at this
  have hs1 : ((w.alloc (.cells kzero 55)).alloc (.cells kzero 55)).setRow (w.heap.size + 1) (khead d s.size) = (w.alloc (.cells kzero 55)).alloc (.cells (khead d s.size) 55) := by
    have := World.setRow_alloc_new (w.alloc (.cells kzero 55)) kzero (khead d s.size) 55; rwa [World.size_alloc] at this
  have hl2 : ((w.alloc (.cells kzero 55)).alloc (.cells (kcells d s) 55)).heap[w.heap.size + 1]? = some (.cells (kcells d s) 55 (0, 0)) := by
    have := heap_alloc_last (w.alloc (.cells kzero 55)) (.cells (kcells d s) 55); rwa [World.size_alloc] at this
  have hl3 : ((w.alloc (.cells kzero 55)).alloc (.cells (kcells d s) 55)).heap[w.heap.size]? = some (.cells kzero 55 (0, 0)) := by
    rw [(MapKept.heap_alloc _ _).2 _ (by simp)]; exact heap_alloc_last _ _
  clear HC
  go_enter Try.func29, Try.ntmps29
  go_wp2_with (first
    | (go_at_call 35; refine (h35 _).mono ?_; rintro e w1 ⟨rfl, rfl⟩)
    | (refine wpList_alloc_k rfl rfl ?_)
    | (refine wpList_buildTo rfl 55 _ rfl _ rfl (khead d s.size) (by simpa using hb) ?_)
    | (refine wpList_store_row rfl 55 _ _ rfl _ (khead d s.size) rfl rfl 55 kzero hl1 (by rw [size_khead]; exact size55) (by rw [size_khead]; exact size_kzero) (khead_one _ _) ?_; rw [hs1]; clear hs1 hl1)
    | (refine wpList_store_row rfl 55 _ _ rfl _ (khead d s.size) rfl rfl 55 kzero (heap_alloc_last (w.alloc (.cells kzero 55)) _) (by rw [size_khead]; exact size55) (by rw [size_khead]; exact size_kzero) (khead_one _ _) ?_; rw [World.setRow_alloc_new]; clear hs1 hl1)
    | (refine wpList_load_row rfl 55 _ rfl _ rfl 55 (kcells d s) (0, 0) _ hl2 Try.underlying55 rfl (size55' _ _) ?_)
    | (refine wpList_store_row rfl 55 _ _ rfl _ (kcells d s) rfl rfl 55 kzero hl3 (size55' _ _) (by rw [size_kcells]; exact size_kzero) (kcells_one _ _) ?_))
  exact bodyPost_ret (results_cell_slot rfl _ _ w.heap.size 55 (kcells d s) (0, 0) _ rfl (setRow_heap _ _ _ _ _ _ hl3) Try.underlying55 rfl (size55' _ _)) rfl ⟨rfl, (((Keeps.refl _ w).alloc _).alloc _).setRow _ _ (Or.inl (Nat.le_refl _))⟩

theorem bytes_text (s : ByteArray) : strOfNums (s.data.toList.map fun b => (b.toNat : Int)) = s := by
  obtain ⟨⟨l⟩⟩ := s
  simp only [strOfNums, List.map_map]
  congr 1
  congr 1
  induction l with
  | nil => rfl
  | cons b l ih => simp at ih ⊢; exact ih

theorem key_cell (d : Int) (s : ByteArray) (i : Nat) (hi : i < s.size) (hs : s.size ≤ 28) : (kcells d s)[2 + i]? = some (Value.int .u8 ((s.data.toList.map fun b => (b.toNat : Int)).getD i 0)) := by
  have hi' : i < s.data.toList.length := by simpa using hi
  have e : (kcells d s)[2 + i]? = (zpad s)[i]? := by
    unfold kcells
    rw [List.getElem?_toArray, Nat.add_comm]
    rfl
  rw [e]
  simp only [zpad, List.getElem?_map]
  rw [List.getElem?_range (by omega)]
  simp only [Option.map_some, Option.some.injEq]
  rw [List.getD_eq_getElem?_getD, List.getD_eq_getElem?_getD, List.getElem?_map, List.getElem?_eq_getElem hi']
  rfl

theorem size_elem53 (w : World) : (Go.sizeOf (Try.prog.elem 53)).run Try.prog w = .ok 1 w := by kernel_rfl

set_option maxHeartbeats 1000000 in
theorem text_any (d : Int) (s : ByteArray) (w : World) (hs : s.size ≤ 28) :
    Calls Try.prog 25 #[.agg (kcells d s)] w fun e w' => e = .returned (.string s) ∧ w' = w.alloc (.cells (kcells d s) 55) := by
  have hb := heap_alloc_last w (.cells (kcells d s) 55)
  have c1 : (w.alloc (.cells (kcells d s) 55)).cell? ⟨w.heap.size, 1, none⟩ = some (.int .i64 s.size) := by
    rw [cell_of_row _ _ 1 _ 55 (0, 0) hb]; rfl
  have hcv : (convert 65 9 (.slice (some ⟨w.heap.size, 2, none⟩) s.size 28)).run Try.prog (w.alloc (.cells (kcells d s) 55)) = .ok (.string s) (w.alloc (.cells (kcells d s) 55)) := by
    have h := run_convert_bytes_arg (P := Try.prog) (w.alloc (.cells (kcells d s) 55)) 65 5 Try.underlying65 Try.underlying5 w.heap.size 2 s.size 28 (s.data.toList.map fun b => (b.toNat : Int)) (by simp) (fun i hi => by
      rw [cell_of_row _ _ _ _ 55 (0, 0) hb, key_cell d s i hi hs]) 9 Try.underlying9
    rwa [bytes_text] at h
  have hsl : (Instr.sliceAt 53 (.pointer (some ⟨w.heap.size, 2, none⟩)) none (some (.int .i64 (s.size : Int))) none).run Try.prog (w.alloc (.cells (kcells d s) 55)) = .ok (.slice (some ⟨w.heap.size, 2, none⟩) s.size 28) (w.alloc (.cells (kcells d s) 55)) := by
    have h28 : Try.prog.arrayLen 53 = 28 := by kernel_rfl
    have h := run_sliceAt_array_h (P := Try.prog) (w := w.alloc (.cells (kcells d s) 55)) (t := 53) (a := ⟨w.heap.size, 2, none⟩) (by rw [h28]; exact Try.underlying53) .i64 (s.size : Int) (by omega) (by rw [h28]; omega)
    rw [h28, size_elem53] at h
    simpa [slicedAt, Result.andThen, Addr.add] using h
  clear hb hs
  go_enter Try.func25, Try.ntmps25
  go_wp2
  go_ret
  exact ⟨rfl, rfl⟩

end Go.Proofs.Ytendmohjodeelaa
