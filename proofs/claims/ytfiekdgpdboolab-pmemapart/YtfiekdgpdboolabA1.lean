import Derived.Test.YtfiekdgpdboolabRows
import Derived.WalkKit
import Derived.WalkSpells
import Derived.WalkLawsBesides
namespace Go.Proofs.Ytfiekdgpdboolab
open Go.RowKit

theorem ret_int {k : IntKind} {a b : Int} (h : a = b) : Ending.returned (.int k a) = .returned (.int k b) := by rw [h]
theorem ret_bool {a b : Bool} (h : a = b) : Ending.returned (.bool a) = .returned (.bool b) := by rw [h]

set_option maxHeartbeats 400000 in
theorem goodSize_yes (n : Int) (w : World) (h1 : 512 ≤ n) (h2 : n ≤ 524288) (h3 : n % 512 = 0) :
    Calls Try.prog 55 #[.int .i64 n] w fun e w' => e = .returned (.bool true) ∧ w' = w := by
  go_enter Try.func55, Try.ntmps55
  go_wp2
  go_ret
  exact ⟨ret_bool (by simp), rfl⟩

set_option maxHeartbeats 400000 in
theorem goodSize_no (n : Int) (w : World) (h : ¬ (512 ≤ n ∧ n ≤ 524288 ∧ n % 512 = 0)) :
    Calls Try.prog 55 #[.int .i64 n] w fun e w' => e = .returned (.bool false) ∧ w' = w := by
  go_enter Try.func55, Try.ntmps55
  by_cases h1 : 512 ≤ n
  · by_cases h2 : n ≤ 524288
    · have h3 : (n % 512 == 0) = false := by simp; omega
      clear h
      go_wp2
      go_ret
      exact ⟨rfl, rfl⟩
    · clear h
      go_wp2
      go_ret
      exact ⟨rfl, rfl⟩
  · clear h
    go_wp2
    go_ret
    exact ⟨rfl, rfl⟩

theorem rem_pos {c m : Int} (h0 : 0 < m) (h : 0 ≤ c.tmod m) : c.tmod m = c % m := by
  have h1 := Int.emod_eq_tmod (a := c) (b := m)
  have h2 := Int.emod_lt_of_pos c h0
  have h3 := Int.emod_nonneg c (by omega : m ≠ 0)
  split at h1 <;> omega

theorem rem_neg' {c m : Int} (h0 : 0 < m) (h : c.tmod m < 0) : c.tmod m + m = c % m := by
  have h1 := Int.emod_eq_tmod (a := c) (b := m)
  have h2 := Int.emod_lt_of_pos c h0
  have h3 := Int.emod_nonneg c (by omega : m ≠ 0)
  split at h1 <;> omega

theorem wrap64_id {x : Int} (h1 : -9223372036854775808 ≤ x) (h2 : x ≤ 9223372036854775807) : wrap64 x = x := by
  unfold wrap64; omega

theorem rem_neg {c m : Int} (h0 : 0 < m) (hm : m ≤ 1000000000) (h : c.tmod m < 0) : wrap64 (c.tmod m + m) = c % m := by
  have h1 := rem_neg' h0 h
  have h2 := Int.emod_lt_of_pos c h0
  have h3 := Int.emod_nonneg c (by omega : m ≠ 0)
  rw [wrap64_id (by omega) (by omega)]; exact h1

set_option maxHeartbeats 400000 in
theorem remainder_any (c m : Int) (w : World) (h0 : 0 < m) (hm : m ≤ 1000000000) :
    Calls Try.prog 47 #[.int .i64 c, .int .i64 m] w fun e w' => e = .returned (.int .i64 (c % m)) ∧ w' = w := by
  go_enter Try.func47, Try.ntmps47
  go_wp2
  · go_ret
    exact ⟨ret_int (rem_neg h0 hm ‹_›), rfl⟩
  · go_ret
    exact ⟨ret_int (rem_pos h0 ‹_›), rfl⟩

set_option maxHeartbeats 400000 in
theorem has_any (d n cap : Nat) (ob : Option Addr) (at_ : Int) (w : World) (h : w.cell? ⟨d, 0, none⟩ = some (.slice ob n cap)) :
    Calls Try.prog 58 #[.pointer (some ⟨d, 0, none⟩), .int .i64 at_] w fun e w' => e = .returned (.bool (decide (0 ≤ at_) && decide (at_ < n))) ∧ w' = w := by
  go_enter Try.func58, Try.ntmps58
  go_wp2
  · go_ret
    exact ⟨ret_bool (by simp [*]), rfl⟩
  · go_ret
    exact ⟨ret_bool (by simp; omega), rfl⟩

/-- The error of a word's address: 11, 12 or 0. -/
def badWord (n : Nat) (a : Int) : Int := if 0 ≤ a ∧ a < n then (if a % 8 = 0 then 0 else 12) else 11

set_option maxHeartbeats 400000 in
theorem checkWord_any (d n cap : Nat) (ob : Option Addr) (at_ : Int) (w : World) (h : w.cell? ⟨d, 0, none⟩ = some (.slice ob n cap)) :
    Calls Try.prog 57 #[.pointer (some ⟨d, 0, none⟩), .int .i64 at_] w fun e w' => e = .returned (.int .i64 (badWord n at_)) ∧ w' = w := by
  by_cases h1 : 0 ≤ at_ ∧ at_ < n
  · by_cases h2 : at_ % 8 = 0
    · have h1a := h1.1
      have h1b := h1.2
      have hb : badWord n at_ = 0 := by simp [badWord, h1, h2]
      rw [hb]; clear hb h1
      have H2 : (at_ % 8 == 0) = true := by simp [h2]
      go_enter Try.func57, Try.ntmps57
      go_wp2_with (go_at_call 58; refine (has_any d n cap ob _ _ h).mono ?_; rintro e w' ⟨rfl, rfl⟩)
      go_ret
      exact ⟨rfl, rfl⟩
    · have h1a := h1.1
      have h1b := h1.2
      have hb : badWord n at_ = 12 := by simp [badWord, h1, h2]
      rw [hb]; clear hb h1
      have H2 : (at_ % 8 == 0) = false := by simp [h2]
      go_enter Try.func57, Try.ntmps57
      go_wp2_with (go_at_call 58; refine (has_any d n cap ob _ _ h).mono ?_; rintro e w' ⟨rfl, rfl⟩)
      go_ret
      exact ⟨rfl, rfl⟩
  · have hb : badWord n at_ = 11 := by simp [badWord, h1]
    rw [hb]; clear hb
    have H2 : (decide (0 ≤ at_) && decide (at_ < n)) = false := by simp; omega
    go_enter Try.func57, Try.ntmps57
    go_wp2_with (go_at_call 58; refine (has_any d n cap ob _ _ h).mono ?_; rintro e w' ⟨rfl, rfl⟩)
    go_ret
    exact ⟨rfl, rfl⟩

set_option maxHeartbeats 400000 in
theorem dead_any (d : Nat) (ar : Bool) (lf : Int) (w : World) (h4 : w.cell? ⟨d, 4, none⟩ = some (.bool ar)) (h5 : w.cell? ⟨d, 5, none⟩ = some (.int .i64 lf)) :
    Calls Try.prog 33 #[.pointer (some ⟨d, 0, none⟩)] w fun e w' => e = .returned (.bool (ar && (lf == 0))) ∧ w' = w := by
  go_enter Try.func33, Try.ntmps33
  go_wp2
  · go_ret
    exact ⟨ret_bool (by simp [*]), rfl⟩
  · go_ret
    exact ⟨ret_bool (by simp_all), rfl⟩

/-- A device's block. -/
def devCells (o m : Value) (room steps : Int) (ar : Bool) (lf : Int) : Obj :=
  .cells #[o, m, .int .i64 room, .int .i64 steps, .bool ar, .int .i64 lf] 75 (0, 0)

theorem dev_cells {w : World} {d : Nat} {o m : Value} {room steps lf : Int} {ar : Bool} (h : w.heap[d]? = some (devCells o m room steps ar lf)) :
    w.cell? ⟨d, 0, none⟩ = some o ∧ w.cell? ⟨d, 1, none⟩ = some m ∧ w.cell? ⟨d, 2, none⟩ = some (.int .i64 room) ∧ w.cell? ⟨d, 3, none⟩ = some (.int .i64 steps) ∧
    w.cell? ⟨d, 4, none⟩ = some (.bool ar) ∧ w.cell? ⟨d, 5, none⟩ = some (.int .i64 lf) ∧ (∀ i, w.frozen? ⟨d, i, none⟩ = false) := by
  simp [World.cell?, World.frozen?, h, devCells]

theorem setCell_block {w : World} {a : Addr} {v : Value} {c : Array Value} {t : TypeId} {f : Nat × Nat} (h : w.heap[a.block]? = some (.cells c t f)) (hs : a.spot = none) :
    (w.setCell a v).heap[a.block]? = some (.cells (c.setIfInBounds a.off v) t f) := by
  simp [World.setCell, Array.getElem?_modify, h, hs]

theorem grownBy_setCell (w : World) (a : Addr) (v : Value) : w.grownBy (w.setCell a v) (some a.block) :=
  ⟨rfl, rfl, rfl, by simp [World.setCell], fun k _ hk => Below.heap_setCell _ _ _ _ (by rintro rfl; exact hk rfl)⟩

theorem grownBy_refl (w : World) (r : Option Nat) : w.grownBy w r := ⟨rfl, rfl, rfl, Nat.le_refl _, fun _ _ _ => rfl⟩

theorem grownBy_trans {a b c : World} {r : Option Nat} (h : a.grownBy b r) (k : b.grownBy c r) : a.grownBy c r :=
  ⟨k.os.trans h.os, k.tape.trans h.tape, k.output.trans h.output, Nat.le_trans h.size k.size,
   fun i hi hr => (k.block i (Nat.lt_of_lt_of_le hi h.size) hr).trans (h.block i hi hr)⟩

set_option maxHeartbeats 400000 in
theorem step_dead (d : Nat) (o m : Value) (room steps : Int) (w : World) (h : w.heap[d]? = some (devCells o m room steps true 0)) :
    Calls Try.prog 40 #[.pointer (some ⟨d, 0, none⟩)] w fun e w' => e = .returned (.int .i64 13) ∧ w' = w := by
  obtain ⟨h0, h1, h2, h3, h4, h5, h6⟩ := dev_cells h
  clear h
  go_enter Try.func40, Try.ntmps40
  go_wp2_with (go_at_call 33; refine (dead_any d _ _ _ h4 h5).mono ?_; rintro e w' ⟨rfl, rfl⟩)
  go_ret
  exact ⟨rfl, rfl⟩

set_option maxHeartbeats 400000 in
theorem step_free (d : Nat) (o m : Value) (room steps lf : Int) (w : World) (h : w.heap[d]? = some (devCells o m room steps false lf)) (hs : 0 ≤ steps) (hs' : steps ≤ 1000000000000) :
    Calls Try.prog 40 #[.pointer (some ⟨d, 0, none⟩)] w fun e w' => e = .returned (.int .i64 0) ∧ w'.heap[d]? = some (devCells o m room (steps + 1) false lf) ∧ w.grownBy w' (some d) ∧ w'.heap.size = w.heap.size := by
  obtain ⟨h0, h1, h2, h3, h4, h5, h6⟩ := dev_cells h
  have H : Hid (w.heap[d]? = some (devCells o m room steps false lf)) := h
  clear h
  go_enter Try.func40, Try.ntmps40
  go_wp2_with (go_at_call 33; refine (dead_any d _ _ _ h4 h5).mono ?_; rintro e w' ⟨rfl, rfl⟩)
  go_ret
  refine ⟨rfl, ?_, grownBy_setCell _ _ _, by simp [World.setCell]⟩
  have := setCell_block (a := ⟨d, 3, none⟩) (v := .int .i64 (steps + 1)) H.out rfl
  simpa [devCells] using this

set_option maxHeartbeats 400000 in
theorem step_armed (d : Nat) (o m : Value) (room steps lf : Int) (w : World) (h : w.heap[d]? = some (devCells o m room steps true lf)) (hs : 0 ≤ steps) (hs' : steps ≤ 1000000000000) (hl : 0 < lf) (hl' : lf ≤ 9223372036854775807) :
    Calls Try.prog 40 #[.pointer (some ⟨d, 0, none⟩)] w fun e w' => e = .returned (.int .i64 0) ∧ w'.heap[d]? = some (devCells o m room (steps + 1) true (lf - 1)) ∧ w.grownBy w' (some d) ∧ w'.heap.size = w.heap.size := by
  obtain ⟨h0, h1, h2, h3, h4, h5, h6⟩ := dev_cells h
  have H : Hid (w.heap[d]? = some (devCells o m room steps true lf)) := h
  clear h
  go_enter Try.func40, Try.ntmps40
  have hz : (lf == 0) = false := by simp; omega
  go_wp2_with (go_at_call 33; refine (dead_any d _ _ _ h4 h5).mono ?_; rintro e w' ⟨rfl, rfl⟩)
  go_ret
  refine ⟨rfl, ?_, grownBy_trans (grownBy_setCell _ _ _) (grownBy_setCell _ _ _), by simp [World.setCell]⟩
  have := setCell_block (a := ⟨d, 5, none⟩) (v := .int .i64 (lf - 1)) H.out rfl
  have := setCell_block (a := ⟨d, 3, none⟩) (v := .int .i64 (steps + 1)) this rfl
  simpa [devCells] using this

/-- The sizes of the statements' devices. -/
def sizeOf8 (pages : Int) : Nat := 512 * ((pages.tmod 8).natAbs + 1)

theorem size_neg {p : Int} (h : p.tmod 8 < 0) : wrap64 (512 * wrap64 (wrap64 (-p.tmod 8) + 1)) = (sizeOf8 p : Int) := by
  have h2 : -8 < p.tmod 8 := Int.lt_tmod_of_pos p (by omega)
  unfold sizeOf8
  rw [wrap64_id (x := -p.tmod 8) (by omega) (by omega), wrap64_id (x := -p.tmod 8 + 1) (by omega) (by omega), wrap64_id (by omega) (by omega)]
  omega
theorem size_pos {p : Int} (h : 0 ≤ p.tmod 8) : wrap64 (512 * wrap64 (p.tmod 8 + 1)) = (sizeOf8 p : Int) := by
  have h1 := Int.tmod_lt_of_pos p (show (0 : Int) < 8 by omega)
  unfold sizeOf8
  rw [wrap64_id (x := p.tmod 8 + 1) (by omega) (by omega), wrap64_id (by omega) (by omega)]
  omega

set_option maxHeartbeats 400000 in
theorem size_any (p : Int) (w : World) :
    Calls Try.prog 9 #[.int .i64 p] w fun e w' => e = .returned (.int .i64 (sizeOf8 p)) ∧ w' = w := by
  go_enter Try.func9, Try.ntmps9
  go_wp2
  · go_ret
    exact ⟨ret_int (size_neg ‹_›), rfl⟩
  · go_ret
    exact ⟨ret_int (size_pos ‹_›), rfl⟩

theorem sizeOf8_le (p : Int) : sizeOf8 p ≤ 4096 ∧ 512 ≤ sizeOf8 p ∧ sizeOf8 p % 512 = 0 := by
  have h1 := Int.tmod_lt_of_pos p (show (0 : Int) < 8 by omega)
  have h2 : -8 < p.tmod 8 := Int.lt_tmod_of_pos p (by omega)
  unfold sizeOf8
  omega

theorem word_neg {a m : Int} (h0 : 0 < m) (hm : m ≤ 1000000) (h : a.tmod m < 0) : wrap64 (8 * wrap64 (a.tmod m + m)) = 8 * (a % m) := by
  have h2 := Int.emod_lt_of_pos a h0
  have h3 := Int.emod_nonneg a (by omega : m ≠ 0)
  rw [rem_neg h0 (by omega) h, wrap64_id (by omega) (by omega)]
theorem word_pos {a m : Int} (h0 : 0 < m) (hm : m ≤ 1000000) (h : 0 ≤ a.tmod m) : wrap64 (8 * a.tmod m) = 8 * (a % m) := by
  have h2 := Int.emod_lt_of_pos a h0
  have h3 := Int.emod_nonneg a (by omega : m ≠ 0)
  rw [rem_pos h0 h, wrap64_id (by omega) (by omega)]

/-- The address of a word, by any number. -/
def wordOf (a : Int) (n : Nat) : Int := 8 * (a % ((n : Int) / 8))

theorem wordOf_in (a : Int) {n : Nat} (hn' : 8 ≤ n) : 0 ≤ wordOf a n ∧ wordOf a n + 8 ≤ n ∧ wordOf a n % 8 = 0 := by
  have h0 : (0 : Int) < (n : Int) / 8 := by omega
  have h2 := Int.emod_lt_of_pos a h0
  have h3 := Int.emod_nonneg a (by omega : (n : Int) / 8 ≠ 0)
  unfold wordOf
  omega

set_option maxHeartbeats 400000 in
theorem word_any (a : Int) (n : Nat) (w : World) (hn : n ≤ 1000000) (hn' : 8 ≤ n) :
    Calls Try.prog 11 #[.int .i64 a, .int .i64 n] w fun e w' => e = .returned (.int .i64 (wordOf a n)) ∧ w' = w := by
  have h0 : (0 : Int) < (n : Int) / 8 := by omega
  have h1 : (n : Int) / 8 ≤ 1000000 := by omega
  go_enter Try.func11, Try.ntmps11
  go_wp2
  · go_ret
    exact ⟨ret_int (word_neg h0 h1 ‹_›), rfl⟩
  · go_ret
    exact ⟨ret_int (word_pos h0 h1 ‹_›), rfl⟩

end Go.Proofs.Ytfiekdgpdboolab
