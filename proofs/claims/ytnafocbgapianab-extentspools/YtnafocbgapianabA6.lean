import Derived.Test.YtnafocbgapianabA5
namespace Go.Proofs.Ytnafocbgapianab
open Go.RowKit

theorem cells4 {w : World} {R : Nat} {a b c d : Value} {t : TypeId} (h : w.heap[R]? = some (.cells #[a, b, c, d] t (0, 0))) :
    w.cell? ⟨R, 0, none⟩ = some a ∧ w.cell? ⟨R, 1, none⟩ = some b ∧ w.cell? ⟨R, 2, none⟩ = some c ∧ w.cell? ⟨R, 3, none⟩ = some d ∧ (∀ i, w.frozen? ⟨R, i, none⟩ = false) := by
  simp [World.cell?, World.frozen?, h]
theorem cells3 {w : World} {R : Nat} {a b c : Value} {t : TypeId} (h : w.heap[R]? = some (.cells #[a, b, c] t (0, 0))) :
    w.cell? ⟨R, 0, none⟩ = some a ∧ w.cell? ⟨R, 1, none⟩ = some b ∧ w.cell? ⟨R, 2, none⟩ = some c ∧ (∀ i, w.frozen? ⟨R, i, none⟩ = false) := by
  simp [World.cell?, World.frozen?, h]
theorem cells2 {w : World} {R : Nat} {a b : Value} {t : TypeId} (h : w.heap[R]? = some (.cells #[a, b] t (0, 0))) :
    w.cell? ⟨R, 0, none⟩ = some a ∧ w.cell? ⟨R, 1, none⟩ = some b ∧ (∀ i, w.frozen? ⟨R, i, none⟩ = false) := by
  simp [World.cell?, World.frozen?, h]

/-- A struct of four written anew. -/
theorem set4 {w : World} {R : Nat} {a b c d : Value} {t : TypeId} (h : w.heap[R]? = some (.cells #[a, b, c, d] t (0, 0))) (x y z u : Value) :
    ((((w.setCell ⟨R, 0, none⟩ x).setCell ⟨R, 1, none⟩ y).setCell ⟨R, 2, none⟩ z).setCell ⟨R, 3, none⟩ u).heap[R]? = some (.cells #[x, y, z, u] t (0, 0)) ∧
    Keeps (fun k => k = R) w ((((w.setCell ⟨R, 0, none⟩ x).setCell ⟨R, 1, none⟩ y).setCell ⟨R, 2, none⟩ z).setCell ⟨R, 3, none⟩ u) := by
  have h1 := setCell_block (a := ⟨R, 0, none⟩) (v := x) h rfl
  have h2 := setCell_block (a := ⟨R, 1, none⟩) (v := y) h1 rfl
  have h3 := setCell_block (a := ⟨R, 2, none⟩) (v := z) h2 rfl
  have h4 := setCell_block (a := ⟨R, 3, none⟩) (v := u) h3 rfl
  refine ⟨by simpa using h4, ?_⟩
  have g : ∀ w v i, Keeps (fun k => k = R) w (w.setCell ⟨R, i, none⟩ v) := fun w v i => Keeps.of (grownBy_setCell w ⟨R, i, none⟩ v) (by rintro k hk; cases hk; exact Or.inl rfl)
  exact (((g _ _ _).trans (g _ _ _)).trans (g _ _ _)).trans (g _ _ _)
theorem set2 {w : World} {R : Nat} {a b : Value} {t : TypeId} (h : w.heap[R]? = some (.cells #[a, b] t (0, 0))) (x y : Value) :
    ((w.setCell ⟨R, 0, none⟩ x).setCell ⟨R, 1, none⟩ y).heap[R]? = some (.cells #[x, y] t (0, 0)) ∧
    Keeps (fun k => k = R) w ((w.setCell ⟨R, 0, none⟩ x).setCell ⟨R, 1, none⟩ y) := by
  have h1 := setCell_block (a := ⟨R, 0, none⟩) (v := x) h rfl
  have h2 := setCell_block (a := ⟨R, 1, none⟩) (v := y) h1 rfl
  refine ⟨by simpa using h2, ?_⟩
  have g : ∀ w v i, Keeps (fun k => k = R) w (w.setCell ⟨R, i, none⟩ v) := fun w v i => Keeps.of (grownBy_setCell w ⟨R, i, none⟩ v) (by rintro k hk; cases hk; exact Or.inl rfl)
  exact (g _ _ _).trans (g _ _ _)

theorem set4c {w : World} {R : Nat} {a b c d : Value} {t : TypeId} (h : w.heap[R]? = some (.cells #[a, b, c, d] t (0, 0))) (x y z u : Value) :
    (w.setCell ⟨R, 0, none⟩ x).cell? ⟨R, 0, none⟩ = some x ∧ ((w.setCell ⟨R, 0, none⟩ x).setCell ⟨R, 1, none⟩ y).cell? ⟨R, 1, none⟩ = some y ∧
    (((w.setCell ⟨R, 0, none⟩ x).setCell ⟨R, 1, none⟩ y).setCell ⟨R, 2, none⟩ z).cell? ⟨R, 2, none⟩ = some z ∧
    ((((w.setCell ⟨R, 0, none⟩ x).setCell ⟨R, 1, none⟩ y).setCell ⟨R, 2, none⟩ z).setCell ⟨R, 3, none⟩ u).cell? ⟨R, 3, none⟩ = some u := by
  have h1 := setCell_block (a := ⟨R, 0, none⟩) (v := x) h rfl
  have h2 := setCell_block (a := ⟨R, 1, none⟩) (v := y) h1 rfl
  have h3 := setCell_block (a := ⟨R, 2, none⟩) (v := z) h2 rfl
  have h4 := setCell_block (a := ⟨R, 3, none⟩) (v := u) h3 rfl
  simp at h1 h2 h3 h4
  exact ⟨by simp [World.cell?, h1], by simp [World.cell?, h2], by simp [World.cell?, h3], by simp [World.cell?, h4]⟩
theorem set2c {w : World} {R : Nat} {a b : Value} {t : TypeId} (h : w.heap[R]? = some (.cells #[a, b] t (0, 0))) (x y : Value) :
    (w.setCell ⟨R, 0, none⟩ x).cell? ⟨R, 0, none⟩ = some x ∧ ((w.setCell ⟨R, 0, none⟩ x).setCell ⟨R, 1, none⟩ y).cell? ⟨R, 1, none⟩ = some y := by
  have h1 := setCell_block (a := ⟨R, 0, none⟩) (v := x) h rfl
  have h2 := setCell_block (a := ⟨R, 1, none⟩) (v := y) h1 rfl
  simp at h1 h2
  exact ⟨by simp [World.cell?, h1], by simp [World.cell?, h2]⟩

/-- Two new blocks. -/
theorem two_new (w : World) (o1 o2 : Obj) : ((w.alloc o1).alloc o2).heap[w.heap.size]? = some o1 ∧ ((w.alloc o1).alloc o2).heap[w.heap.size + 1]? = some o2 ∧ Keeps (fun k => w.heap.size ≤ k) w ((w.alloc o1).alloc o2) ∧ ((w.alloc o1).alloc o2).heap.size = w.heap.size + 2 := by
  have b1 := (MapKept.heap_alloc w o1).1
  have b2 := (MapKept.heap_alloc (w.alloc o1) o2).1
  have g1 := World.grownBy_alloc w o1 none
  have g2 := World.grownBy_alloc (w.alloc o1) o2 none
  refine ⟨(g2.block _ (heap_lt b1) (by simp)).trans b1, by simpa using b2, ((Keeps.of g1 (by simp)).step g2 (by simp)), by simp⟩

set_option maxHeartbeats 2000000 in
theorem fit_no (p i c : Int) (w : World) (h : ¬ goodI p i c) :
    Calls Try.prog 64 #[.agg #[.int .i64 p, .int .i64 i, .int .i64 c]] w fun e w' => e = .returned (.tuple #[.agg #[.int .i64 0, .int .i64 0, .int .i64 0, .int .i64 0], .int .i64 30]) ∧ Keeps (fun k => w.heap.size ≤ k) w w' := by
  have hg := fun w => goodSuper_any p i c w
  rw [decide_eq_false h] at hg
  clear h
  obtain ⟨n1, n2, n3, n4⟩ := two_new w (.cells #[.int .i64 p, .int .i64 i, .int .i64 c] 107) (.cells #[.int .i64 0, .int .i64 0, .int .i64 0, .int .i64 0] 24)
  go_enter Try.func64, Try.ntmps64
  go_wp2_with (first | (go_at_call 80; refine (hg _).mono ?_; rintro e w1 ⟨rfl, hk⟩
                        have hR := hk.at n2 (by rw [n4]; omega)
                        obtain ⟨c0, c1, c2, c3, cf⟩ := cells4 hR
                        have f0 := cf 0
                        have f1 := cf 1
                        have f2 := cf 2
                        have f3 := cf 3
                        obtain ⟨s1, s2⟩ := set4 hR (.int .i64 0) (.int .i64 0) (.int .i64 0) (.int .i64 0)
                        obtain ⟨d0, d1, d2, d3⟩ := set4c hR (.int .i64 0) (.int .i64 0) (.int .i64 0) (.int .i64 0)
                        have HK := Hid.mk' (((n3.then hk (by intro k hk; rw [n4] at hk; right; omega)).then s2 (by intro k hk; right; omega)))
                        clear hk hR cf s1 s2))
  refine bodyPost_ret (v := .tuple #[.agg #[.int .i64 0, .int .i64 0, .int .i64 0, .int .i64 0], .int .i64 30]) (by simp [results, Try.results64, go_sem, d0, d1, d2, d3]) rfl ?_
  exact ⟨rfl, HK.out⟩

set_option maxHeartbeats 2000000 in
theorem fit_yes (p i c : Int) (w : World) (h : goodI p i c) :
    Calls Try.prog 64 #[.agg #[.int .i64 p, .int .i64 i, .int .i64 c]] w fun e w' => e = .returned (.tuple #[.agg #[.int .i64 p, .int .i64 i, .int .i64 c, .int .i64 (dataOf i)], .int .i64 0]) ∧ Keeps (fun k => w.heap.size ≤ k) w w' := by
  have hg := fun w => goodSuper_any p i c w
  rw [decide_eq_true h] at hg
  have hd := fun w => dataFrom_any p i c w (by unfold goodI at h; omega) (by unfold goodI at h; omega)
  clear h
  generalize dataOf i = D at *
  obtain ⟨n1, n2, n3, n4⟩ := two_new w (.cells #[.int .i64 p, .int .i64 i, .int .i64 c] 107) (.cells #[.int .i64 0, .int .i64 0, .int .i64 0, .int .i64 0] 24)
  go_enter Try.func64, Try.ntmps64
  go_wp2_with (first | (go_at_call 80; refine (hg _).mono ?_; rintro e w1 ⟨rfl, hk⟩
                        have hR := hk.at n2 (by rw [n4]; omega)
                        have hB := hk.at n1 (by rw [n4]; omega)
                        have hsz := hk.size
                        rw [n4] at hsz
                        have hK1 := n3.then hk (by intro k hk; rw [n4] at hk; right; omega)
                        have hk1 := Hid.mk' (hK1.then (X := fun k => w.heap.size ≤ k) (Keeps.of (X := fun k => w.heap.size ≤ k) (World.grownBy_alloc w1 (.cells #[.int .i64 p, .int .i64 i, .int .i64 c] 107) none) (by simp)) (fun k hk => Or.inl hk))
                        have hR1 := (World.grownBy_alloc w1 (.cells #[.int .i64 p, .int .i64 i, .int .i64 c] 107) none).block _ (heap_lt hR) (by simp)
                        rw [hR] at hR1
                        obtain ⟨b0, b1, b2, bf⟩ := cells3 hB
                        obtain ⟨s1, s2⟩ := set4 hR1 (.int .i64 p) (.int .i64 i) (.int .i64 c) (.int .i64 D)
                        have HD := Hid.mk' (set4c hR1 (.int .i64 p) (.int .i64 i) (.int .i64 c) (.int .i64 D))
                        have HS2 := Hid.mk' (hk1.out.then s2 (by intro k hk; left; omega))
                        obtain ⟨c0, c1, c2, c3, cf⟩ := cells4 hR1
                        have f0 := cf 0
                        have f1 := cf 1
                        have f2 := cf 2
                        have f3 := cf 3
                        clear hk hR hB hK1 hR1 bf cf s1 s2 n1 n2 n3 n4))
  go_region_held3 (fun wx => wx.cell? ⟨w.heap.size, 0, none⟩ = some (.int .i64 p) ∧ wx.cell? ⟨w.heap.size, 1, none⟩ = some (.int .i64 i) ∧ wx.cell? ⟨w.heap.size, 2, none⟩ = some (.int .i64 c))
    (first | go_keep)
    (first
      | (go_at_call 81; refine (hd _).mono ?_; rintro e w' ⟨rfl, hw⟩; subst w'))
  go_wp2
  obtain ⟨d0, d1, d2, d3⟩ := HD.out
  refine bodyPost_ret (v := .tuple #[.agg #[.int .i64 p, .int .i64 i, .int .i64 c, .int .i64 D], .int .i64 0]) (by simp [results, Try.results64, go_sem, d0, d1, d2, d3]) rfl ?_
  exact ⟨rfl, HS2.out.trans ⟨rfl, rfl, rfl, Nat.le_refl _, fun _ _ _ => rfl⟩⟩

theorem box4 (w : World) (a b c d : Value) (t : TypeId) : (w.alloc (.cells #[a, b, c, d] t)).heap[w.heap.size]? = some (.cells #[a, b, c, d] t (0, 0)) := (MapKept.heap_alloc w _).1

set_option maxHeartbeats 2000000 in
theorem goodShape_any (p i c d : Int) (w : World) :
    Calls Try.prog 39 #[.agg #[.int .i64 p, .int .i64 i, .int .i64 c, .int .i64 d]] w fun e w' => e = .returned (.bool (decide (goodI p i c ∧ d = dataOf i))) ∧ Keeps (fun k => w.heap.size ≤ k) w w' := by
  have hB := box4 w (.int .i64 p) (.int .i64 i) (.int .i64 c) (.int .i64 d) 24
  have g0 : Keeps (fun k => w.heap.size ≤ k) w (w.alloc (.cells #[.int .i64 p, .int .i64 i, .int .i64 c, .int .i64 d] 24)) := Keeps.of (World.grownBy_alloc w _ none) (by simp)
  have hs0 : (w.alloc (.cells #[.int .i64 p, .int .i64 i, .int .i64 c, .int .i64 d] 24)).heap.size = w.heap.size + 1 := by simp
  by_cases h : goodI p i c
  · have hf := fun w => fit_yes p i c w h
    have e : decide (goodI p i c ∧ d = dataOf i) = decide (d = dataOf i) := by simp [h]
    rw [e]
    clear h e
    generalize dataOf i = D at *
    go_enter Try.func39, Try.ntmps39
    go_wp2_with (first | (go_at_call 64; refine (hf _).mono ?_; rintro e w1 ⟨rfl, hk⟩
                          have hR := hk.at hB (by rw [hs0]; omega)
                          have hK := g0.then hk (by intro k hk; rw [hs0] at hk; right; omega)
                          have hsz := hk.size
                          rw [hs0] at hsz
                          have hK2 := Hid.mk' (hK.then (X := fun k => w.heap.size ≤ k) (Keeps.of (X := fun k => w.heap.size ≤ k) (World.grownBy_alloc w1 (.cells #[.int .i64 p, .int .i64 i, .int .i64 c, .int .i64 D] 24) none) (by simp)) (fun k hk => Or.inl hk))
                          have hR2 := ((World.grownBy_alloc w1 (.cells #[.int .i64 p, .int .i64 i, .int .i64 c, .int .i64 D] 24) none).block _ (heap_lt hR) (by simp)).trans hR
                          obtain ⟨c0, c1, c2, c3, cf⟩ := cells4 hR2
                          clear hk hR hK cf hR2))
    all_goals
      go_ret
      exact ⟨ret_bool (by first | rfl | simp [*]), hK2.out⟩
  · have hf := fun w => fit_no p i c w h
    have e : decide (goodI p i c ∧ d = dataOf i) = false := by simp [h]
    rw [e]
    clear h e
    go_enter Try.func39, Try.ntmps39
    go_wp2_with (first | (go_at_call 64; refine (hf _).mono ?_; rintro e w1 ⟨rfl, hk⟩
                          have hR := hk.at hB (by rw [hs0]; omega)
                          have hK := g0.then hk (by intro k hk; rw [hs0] at hk; right; omega)
                          have hsz := hk.size
                          rw [hs0] at hsz
                          have hK2 := Hid.mk' (hK.then (X := fun k => w.heap.size ≤ k) (Keeps.of (X := fun k => w.heap.size ≤ k) (World.grownBy_alloc w1 (.cells #[.int .i64 0, .int .i64 0, .int .i64 0, .int .i64 0] 24) none) (by simp)) (fun k hk => Or.inl hk))
                          have hR2 := ((World.grownBy_alloc w1 (.cells #[.int .i64 0, .int .i64 0, .int .i64 0, .int .i64 0] 24) none).block _ (heap_lt hR) (by simp)).trans hR
                          obtain ⟨c0, c1, c2, c3, cf⟩ := cells4 hR2
                          clear hk hR hK cf hR2))
    all_goals
      go_ret
      exact ⟨ret_bool (by first | rfl | simp [*]), hK2.out⟩

end Go.Proofs.Ytnafocbgapianab
