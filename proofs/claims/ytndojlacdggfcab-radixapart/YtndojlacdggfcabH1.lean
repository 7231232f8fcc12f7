import Derived.Test.YtndojlacdggfcabG4
import Derived.Deep.WholeRow
namespace Go.Proofs.Ytndojlacdggfcab
open Go.RowKit

/-- The document's tree: all 512 offsets in a row. -/
def rcN (f : Nat → Int) (n : Nat) : Array Value := ((List.range n).map fun o => Value.int .i64 (f o)).toArray
def refCells (f : Nat → Int) : Array Value := rcN f 512
theorem rcN_size (f : Nat → Int) (n : Nat) : (rcN f n).size = n := by simp [rcN]
theorem rcN_get (f : Nat → Int) (n o : Nat) (ho : o < n) : (rcN f n)[o]? = some (.int .i64 (f o)) := by simp [rcN, ho]
theorem rcN_set (f : Nat → Int) (n o : Nat) (v : Int) : (rcN f n).setIfInBounds o (.int .i64 v) = rcN (upd f o v) n := by
  apply Array.ext
  · simp [rcN]
  · intro i hi1 hi2
    simp only [rcN, List.setIfInBounds_toArray, List.getElem_toArray, List.getElem_set, List.getElem_map, List.getElem_range, upd]
    by_cases h : o = i
    · simp [h]
    · rw [if_neg h, if_neg (fun e => h e.symm)]
theorem rcN_congr {f g : Nat → Int} {n : Nat} (e : ∀ o, o < n → f o = g o) : rcN f n = rcN g n := by
  unfold rcN
  congr 1
  apply List.map_congr_left
  intro o ho
  rw [e o (by simpa using ho)]
def RefAt (W : World) (b : Nat) (f : Nat → Int) : Prop := W.heap[b]? = some (.cells (refCells f) 83 (0, 0))

theorem refCells_size (f : Nat → Int) : (refCells f).size = 512 := rcN_size f 512
theorem ref_cell {W : World} {b : Nat} {f : Nat → Int} (h : RefAt W b f) (o : Nat) (ho : o < 512) : W.cell? ⟨b, o, none⟩ = some (.int .i64 (f o)) := by
  have h' : W.heap[b]? = some (.cells (refCells f) 83 (0, 0)) := h
  simp only [World.cell?, h', refCells]
  exact rcN_get f 512 o ho
theorem ref_frozen {W : World} {b : Nat} {f : Nat → Int} (h : RefAt W b f) (o : Nat) : W.frozen? ⟨b, o, none⟩ = false := by
  have h' : W.heap[b]? = some (.cells (refCells f) 83 (0, 0)) := h
  simp [World.frozen?, h']
theorem ref_set {W : World} {b : Nat} {f : Nat → Int} (h : RefAt W b f) (o : Nat) (v : Int) : RefAt (W.setCell ⟨b, o, none⟩ (.int .i64 v)) b (upd f o v) := by
  have h1 := setCell_block (a := ⟨b, o, none⟩) (v := .int .i64 v) h rfl
  refine h1.trans ?_
  have e : (refCells f).setIfInBounds o (.int .i64 v) = refCells (upd f o v) := rcN_set f 512 o v
  rw [e]
theorem RefAt.congr {W : World} {b : Nat} {f g : Nat → Int} (h : RefAt W b f) (e : ∀ o, o < 512 → f o = g o) : RefAt W b g := by
  have : refCells f = refCells g := rcN_congr e
  unfold RefAt
  rw [← this]
  exact h

theorem ref_zero (w : World) : (zeroValue 83).run Try.prog w = .ok (.agg (refCells (fun _ => 0))) w := (zero_of_info (P := Try.prog) (t := 83) (n := 512) (by kernel_rfl)).1 w

set_option maxRecDepth 100000 in
set_option maxHeartbeats 1000000 in
theorem ref_new (w : World) : Calls Try.prog 38 #[] w fun e w' => e = .returned (.pointer (some ⟨w.heap.size, 0, none⟩)) ∧ w' = w.alloc (.cells (refCells (fun _ => 0)) 83) := by
  have hz := ref_zero
  go_enter Try.func38, Try.ntmps38
  go_wp2
  go_ret
  exact ⟨rfl, rfl⟩

set_option maxRecDepth 100000 in
set_option maxHeartbeats 1000000 in
theorem ref_get (w : World) (b : Nat) (f : Nat → Int) (x : Int) (h : RefAt w b f) : Calls Try.prog 43 #[.pointer (some ⟨b, 0, none⟩), .int .i64 x] w fun e w' => e = .returned (.int .i64 (getF f x)) ∧ w' = w := by
  by_cases h0 : 0 ≤ x
  · by_cases h1 : x < 512
    · obtain ⟨o, rfl⟩ := Int.eq_ofNat_of_zero_le h0
      have hc := ref_cell h o (by omega)
      go_enter Try.func43, Try.ntmps43
      go_wp2
      go_ret
      exact ⟨ret_int (by simp [getF, isOff_of (show o < 512 by omega)]), rfl⟩
    · have h1' : 512 ≤ x := by omega
      go_enter Try.func43, Try.ntmps43
      go_wp2
      go_ret
      exact ⟨ret_int (by rw [getF, if_neg]; simp [isOff]; omega), rfl⟩
  · have h0' : x < 0 := by omega
    go_enter Try.func43, Try.ntmps43
    go_wp2
    go_ret
    exact ⟨ret_int (by rw [getF, if_neg]; simp [isOff]; omega), rfl⟩

set_option maxRecDepth 100000 in
set_option maxHeartbeats 1000000 in
theorem ref_set_any (w : World) (b : Nat) (f : Nat → Int) (x y : Int) (h : RefAt w b f) : Calls Try.prog 42 #[.pointer (some ⟨b, 0, none⟩), .int .i64 x, .int .i64 y] w fun e w' =>
    e = .returned (.tuple #[.int .i64 (getF f x), .int .i64 (errF x)]) ∧ Keeps (fun c => c = b) w w' ∧ RefAt w' b (setF f x y) := by
  by_cases h0 : 0 ≤ x
  · by_cases h1 : x < 512
    · obtain ⟨o, rfl⟩ := Int.eq_ofNat_of_zero_le h0
      have hol : o < 512 := by omega
      have hc := ref_cell h o hol
      have hf := ref_frozen h o
      go_enter Try.func42, Try.ntmps42
      go_wp2
      go_ret2
      rw [getF, errF, setF, isOff_of hol]
      exact ⟨by simp, Keeps.of (grownBy_setCell w ⟨b, o, none⟩ _) (by rintro k hk; cases hk; exact .inl rfl), ref_set h o y⟩
    · have h1' : 512 ≤ x := by omega
      have hi : isOff x = false := by simp [isOff]; omega
      go_enter Try.func42, Try.ntmps42
      go_wp2
      go_ret2
      rw [getF, errF, setF, hi]
      exact ⟨by simp, Keeps.refl _ _, h⟩
  · have h0' : x < 0 := by omega
    have hi : isOff x = false := by simp [isOff]; omega
    go_enter Try.func42, Try.ntmps42
    go_wp2
    go_ret2
    rw [getF, errF, setF, hi]
    exact ⟨by simp, Keeps.refl _ _, h⟩

end Go.Proofs.Ytndojlacdggfcab
