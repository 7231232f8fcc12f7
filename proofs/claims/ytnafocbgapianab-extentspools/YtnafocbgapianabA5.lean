import Derived.Test.YtnafocbgapianabA4
import Derived.Deep.RegionHeld3
namespace Go.Proofs.Ytnafocbgapianab
open Go.RowKit

/-- Whether a number is from lo to hi. -/
def inB (x lo hi : Int) : Bool := decide (lo ≤ x) && decide (x ≤ hi)
theorem inB_yes {x lo hi : Int} (h : lo ≤ x ∧ x ≤ hi) : inB x lo hi = true := by simp [inB, h]
theorem inB_no {x lo hi : Int} (h : ¬ (lo ≤ x ∧ x ≤ hi)) : inB x lo hi = false := by unfold inB; rw [← Bool.decide_and]; exact decide_eq_false h

set_option maxHeartbeats 1000000 in
theorem lwithin (x lo hi : Int) (w : World) :
    Calls Try.prog 84 #[.int .i64 x, .int .i64 lo, .int .i64 hi] w fun e w' => e = .returned (.bool (inB x lo hi)) ∧ w' = w := by
  go_enter Try.func84, Try.ntmps84
  go_wp2
  · go_ret
    exact ⟨ret_bool (by simp [inB, *]), rfl⟩
  · go_ret
    exact ⟨ret_bool (inB_no (by omega)).symm, rfl⟩

/-- The first page of the data area. -/
def dataOf (i : Int) : Int := 4 + i / 8

set_option maxHeartbeats 1000000 in
theorem dataFrom_any (p i c : Int) (w : World) (hi : 0 ≤ i) (hi2 : i ≤ 256) :
    Calls Try.prog 81 #[.agg #[.int .i64 p, .int .i64 i, .int .i64 c]] w fun e w' => e = .returned (.int .i64 (dataOf i)) ∧ w' = w.alloc (.cells #[.int .i64 p, .int .i64 i, .int .i64 c] 107) := by
  have hd : i.tdiv 8 = i / 8 := Int.tdiv_eq_ediv_of_nonneg hi
  have hw : IntKind.i64.wrap (i / 8) = i / 8 := i64_id (by omega) (by omega)
  go_enter Try.func81, Try.ntmps81
  go_wp2
  go_ret
  exact ⟨ret_int (by unfold dataOf; omega), rfl⟩

/-- A good super block, as numbers. -/
def goodI (p i c : Int) : Prop := 24 ≤ p ∧ p ≤ 1024 ∧ 8 ≤ i ∧ i ≤ 256 ∧ i % 8 = 0 ∧ 1 ≤ c ∧ c ≤ 8 ∧ 8 ≤ p - dataOf i
instance (p i c : Int) : Decidable (goodI p i c) := by unfold goodI; infer_instance

theorem box3 (w : World) (a b c : Value) (t : TypeId) : (w.alloc (.cells #[a, b, c] t)).cell? ⟨w.heap.size, 0, none⟩ = some a ∧ (w.alloc (.cells #[a, b, c] t)).cell? ⟨w.heap.size, 1, none⟩ = some b ∧ (w.alloc (.cells #[a, b, c] t)).cell? ⟨w.heap.size, 2, none⟩ = some c := by
  have hb := (MapKept.heap_alloc w (.cells #[a, b, c] t)).1
  refine ⟨?_, ?_, ?_⟩ <;> rw [cell_of_row _ _ _ _ _ _ hb] <;> rfl

theorem keep84 (w : World) (o : Obj) (m : Nat) : Keeps (fun k => w.heap.size ≤ k) w ((w.alloc o).drewN m) :=
  (Keeps.of (World.grownBy_alloc w _ none) (by simp)).trans (Keeps.drewN _ _ m)

set_option maxHeartbeats 2000000 in
theorem goodSuper_no1 (p i c : Int) (w : World) (g1 : inB p 24 1024 = false) :
    Calls Try.prog 80 #[.agg #[.int .i64 p, .int .i64 i, .int .i64 c]] w fun e w' => e = .returned (.bool false) ∧ Keeps (fun k => w.heap.size ≤ k) w w' := by
  have hl := lwithin
  go_enter Try.func80, Try.ntmps80
  go_wp2
  go_quiet (first | (go_at_call 84; exact Calls.quiet_of_same (hl _ _ _ _)))
  go_wp2
  go_ret
  exact ⟨rfl, keep84 _ _ _⟩

set_option maxHeartbeats 2000000 in
theorem goodSuper_no2 (p i c : Int) (w : World) (g1 : inB p 24 1024 = true) (g2 : inB i 8 256 = false) :
    Calls Try.prog 80 #[.agg #[.int .i64 p, .int .i64 i, .int .i64 c]] w fun e w' => e = .returned (.bool false) ∧ Keeps (fun k => w.heap.size ≤ k) w w' := by
  have hl := lwithin
  go_enter Try.func80, Try.ntmps80
  go_wp2
  go_quiet (first | (go_at_call 84; exact Calls.quiet_of_same (hl _ _ _ _)))
  go_wp2
  go_ret
  exact ⟨rfl, keep84 _ _ _⟩

set_option maxHeartbeats 2000000 in
theorem goodSuper_no3 (p i c : Int) (w : World) (g1 : inB p 24 1024 = true) (g2 : inB i 8 256 = true) (g3 : (i % 8 == 0) = false) (hi : 0 ≤ i) :
    Calls Try.prog 80 #[.agg #[.int .i64 p, .int .i64 i, .int .i64 c]] w fun e w' => e = .returned (.bool false) ∧ Keeps (fun k => w.heap.size ≤ k) w w' := by
  have hl := lwithin
  have ht : i.tmod 8 = i % 8 := Int.tmod_eq_emod_of_nonneg hi
  go_enter Try.func80, Try.ntmps80
  go_wp2
  go_quiet (first | (go_at_call 84; exact Calls.quiet_of_same (hl _ _ _ _)))
  go_wp2
  go_ret
  exact ⟨rfl, keep84 _ _ _⟩

set_option maxHeartbeats 2000000 in
theorem goodSuper_no4 (p i c : Int) (w : World) (g1 : inB p 24 1024 = true) (g2 : inB i 8 256 = true) (g3 : (i % 8 == 0) = true) (hi : 0 ≤ i) (g4 : inB c 1 8 = false) :
    Calls Try.prog 80 #[.agg #[.int .i64 p, .int .i64 i, .int .i64 c]] w fun e w' => e = .returned (.bool false) ∧ Keeps (fun k => w.heap.size ≤ k) w w' := by
  have hl := lwithin
  have ht : i.tmod 8 = i % 8 := Int.tmod_eq_emod_of_nonneg hi
  go_enter Try.func80, Try.ntmps80
  go_wp2
  go_quiet (first | (go_at_call 84; exact Calls.quiet_of_same (hl _ _ _ _)))
  go_wp2
  go_ret
  exact ⟨rfl, keep84 _ _ _⟩

set_option maxHeartbeats 2000000 in
theorem goodSuper_last (p i c : Int) (w : World) (g1 : inB p 24 1024 = true) (g2 : inB i 8 256 = true) (g3 : (i % 8 == 0) = true) (hi : 0 ≤ i) (hi2 : i ≤ 256) (hp : 0 ≤ p) (hp2 : p ≤ 1024) (g4 : inB c 1 8 = true) :
    Calls Try.prog 80 #[.agg #[.int .i64 p, .int .i64 i, .int .i64 c]] w fun e w' => e = .returned (.bool (decide (8 ≤ p - dataOf i))) ∧ Keeps (fun k => w.heap.size ≤ k) w w' := by
  have hl := lwithin
  have ht : i.tmod 8 = i % 8 := Int.tmod_eq_emod_of_nonneg hi
  have hd := fun w => dataFrom_any p i c w hi hi2
  have hb : 4 ≤ dataOf i ∧ dataOf i ≤ 36 := by unfold dataOf; omega
  have hs : IntKind.i64.wrap (p - dataOf i) = p - dataOf i := i64_id (by omega) (by omega)
  obtain ⟨c0, c1, c2⟩ := box3 w (.int .i64 p) (.int .i64 i) (.int .i64 c) 107
  obtain ⟨D, hD⟩ : ∃ D, D = dataOf i := ⟨_, rfl⟩
  rw [← hD] at hb hs hd
  rw [← hD]
  have H1 := keep84 w (.cells #[.int .i64 p, .int .i64 i, .int .i64 c] 107) 0
  obtain ⟨w1, hw1⟩ : ∃ w1, w1 = w.alloc (.cells #[.int .i64 p, .int .i64 i, .int .i64 c] 107) := ⟨_, rfl⟩
  have hs1 : w1.heap.size = w.heap.size + 1 := by rw [hw1]; simp
  go_enter Try.func80, Try.ntmps80
  go_wp2
  rw [← hw1] at c0 c1 c2 H1 ⊢
  have HK : Hid (Keeps (fun k => w.heap.size ≤ k) w w1) := H1
  clear hw1 hD H1
  go_region_held3 (fun wx => wx.cell? ⟨w.heap.size, 0, none⟩ = some (.int .i64 p) ∧ wx.cell? ⟨w.heap.size, 1, none⟩ = some (.int .i64 i) ∧ wx.cell? ⟨w.heap.size, 2, none⟩ = some (.int .i64 c))
    (first | go_keep)
    (first
      | (go_at_call 84; refine (hl _ _ _ _).mono ?_; rintro e w' ⟨rfl, hw⟩; subst w')
      | (go_at_call 81; refine (hd _).mono ?_; rintro e w' ⟨rfl, hw⟩; subst w'))
  go_wp2
  go_ret
  exact ⟨rfl, (HK.out.step (World.grownBy_alloc w1 _ none) (by simp)).trans (Keeps.drewN _ _ 1)⟩

theorem goodSuper_any (p i c : Int) (w : World) :
    Calls Try.prog 80 #[.agg #[.int .i64 p, .int .i64 i, .int .i64 c]] w fun e w' => e = .returned (.bool (decide (goodI p i c))) ∧ Keeps (fun k => w.heap.size ≤ k) w w' := by
  by_cases h1 : 24 ≤ p ∧ p ≤ 1024
  · by_cases h2 : 8 ≤ i ∧ i ≤ 256
    · by_cases h3 : i % 8 = 0
      · by_cases h4 : 1 ≤ c ∧ c ≤ 8
        · have e : decide (goodI p i c) = decide (8 ≤ p - dataOf i) := by
            congr 1
            simp only [goodI, h1, h2, h3, h4, true_and]
          rw [e]
          exact goodSuper_last p i c w (inB_yes h1) (inB_yes h2) (by simp [h3]) (by omega) h2.2 (by omega) h1.2 (inB_yes h4)
        · rw [decide_eq_false (by unfold goodI; omega)]
          exact goodSuper_no4 p i c w (inB_yes h1) (inB_yes h2) (by simp [h3]) (by omega) (inB_no h4)
      · rw [decide_eq_false (by unfold goodI; omega)]
        exact goodSuper_no3 p i c w (inB_yes h1) (inB_yes h2) (by simp [h3]) (by omega)
    · rw [decide_eq_false (by unfold goodI; omega)]
      exact goodSuper_no2 p i c w (inB_yes h1) (inB_no h2)
  · rw [decide_eq_false (by unfold goodI; omega)]
    exact goodSuper_no1 p i c w (inB_no h1)

end Go.Proofs.Ytnafocbgapianab
