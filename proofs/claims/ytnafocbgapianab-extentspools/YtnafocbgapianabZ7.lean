import Derived.Test.YtnafocbgapianabZ1
import Derived.Test.YtnafocbgapianabK0
namespace Go.Proofs.Ytnafocbgapianab
open Go.RowKit

set_option maxHeartbeats 2000000 in
theorem rgood_any (p i c d : Int) (w : World) :
    Calls Try.prog 82 #[.agg #[.int .i64 p, .int .i64 i, .int .i64 c, .int .i64 d]] w fun r w' => r = .returned (.bool (decide (goodI p i c ∧ d = dataOf i))) ∧ Keeps (fun k => w.heap.size ≤ k) w w' := by
  have g0 : ∀ x, Keeps (fun k => w.heap.size ≤ k) w (w.alloc x) := fun x => Keeps.of (World.grownBy_alloc w _ none) (by simp)
  go_enter Try.func82, Try.ntmps82
  go_wp2
  all_goals
    go_ret
    refine ⟨ret_bool ?_, g0 _⟩
    first
      | exact decide_eq_decide.2 (by unfold goodI dataOf; omega)
      | exact (decide_eq_false (by unfold goodI dataOf; omega)).symm
      | rw [decide_eq_false (show ¬ goodI p i c by unfold goodI dataOf; omega), Bool.false_and]
      | (rw [decide_eq_false (show ¬ d = dataOf i by unfold dataOf; omega), Bool.and_false])
      | (unfold goodI dataOf; simp; omega)
      | trace_state

theorem boolCells_ones (S : Nat → Bool) (n : Nat) : ∀ u ∈ boolCells S n, u.oneCell' = true := by
  intro u hu
  unfold boolCells at hu
  rw [List.mem_map] at hu
  obtain ⟨i, _, rfl⟩ := hu
  rfl

theorem SpAt_base {w : World} {B e sz n : Nat} {v : Value} {xs : List Value} (h : w.ownsRow B e sz v n xs) : w.ownsRow 0 e sz v n xs := by
  obtain ⟨h1, h2⟩ := h
  refine ⟨h1, ?_⟩
  rcases h2 with h2 | ⟨g, cap, cur, hv, hg, hh, r⟩
  · exact Or.inl h2
  · exact Or.inr ⟨g, cap, cur, hv, Nat.zero_le _, hh, r⟩

set_option maxHeartbeats 2000000 in
/-- A copy of the document's pool. -/
theorem rcopy_any (w : World) (e : Nat) (v : Value) (s : Sh) (S : Nat → Bool) (h : RpAt w e v s S) :
    Calls Try.prog 71 #[.pointer (some ⟨e, 0, none⟩)] w fun r w' => ∃ e', r = .returned (.pointer (some ⟨e', 0, none⟩)) ∧ w.heap.size ≤ e' ∧ ∃ v', (∀ g, v'.ownBlock = some g → w.heap.size ≤ g) ∧ RpAt w' e' v' s S ∧ Keeps (fun k => w.heap.size ≤ k) w w' := by
  obtain ⟨i0, hi0, hz0, hz1, hz2⟩ := info_parts info4'
  obtain ⟨c0, c1, c2, c3, c4⟩ := h.cells
  have HR := Hid.mk' h
  have h24 : 24 ≤ s.pages := h.good.1
  have hpg : s.pages ≤ 1024 := h.good.2.1
  obtain ⟨g, cap, rfl, hg, hc, hfz, hge⟩ := h.form
  have hel := heap_lt h.at_
  have hR1 := (MapKept.heap_alloc w (.cells #[.int .i64 s.pages, .int .i64 s.inodes, .int .i64 s.cores, .int .i64 s.data, .slice none 0 0] 119)).1
  have g1 : Keeps (fun k => w.heap.size ≤ k) w (w.alloc (.cells #[.int .i64 s.pages, .int .i64 s.inodes, .int .i64 s.cores, .int .i64 s.data, .slice none 0 0] 119)) := Keeps.of (World.grownBy_alloc w _ none) (by simp)
  have hs1 : (w.alloc (.cells #[.int .i64 s.pages, .int .i64 s.inodes, .int .i64 s.cores, .int .i64 s.data, .slice none 0 0] 119)).heap.size = w.heap.size + 1 := by simp
  clear h hc hfz
  go_enter Try.func71, Try.ntmps71
  go_wp2
  obtain ⟨w1, hw1⟩ : ∃ w1, w1 = w.alloc (.cells #[.int .i64 s.pages, .int .i64 s.inodes, .int .i64 s.cores, .int .i64 s.data, .slice none 0 0] 119) := ⟨_, rfl⟩
  obtain ⟨E, hE⟩ : ∃ E, E = w.heap.size := ⟨_, rfl⟩
  rw [← hw1] at hR1 g1 hs1 ⊢
  rw [← hE] at hR1 hs1 ⊢
  have HE := Hid.mk' hE
  have d4 : w1.cell? ⟨e, 4, none⟩ = some (.slice (some ⟨g, 0, none⟩) s.pages cap) := (HR.out.grown g1).cells.2.2.2.2
  have x4 : w1.cell? ⟨E, 4, none⟩ = some (.slice none 0 0) := by simp [World.cell?, hR1]
  have y4 : w1.frozen? ⟨E, 4, none⟩ = false := by simp [World.frozen?, hR1]
  have hs1' : E < w1.heap.size := by omega
  have HN : Hid (∀ m, ∀ j u, (boolCells S s.pages)[j]? = some u → (w1.drewN m).cell? ((⟨g, 0, none⟩ : Addr).add j) = some u) := by
    intro m j u hj
    have hjl := (List.getElem?_eq_some_iff.1 hj).1
    rw [boolCells_len] at hjl
    have hadd : (⟨g, 0, none⟩ : Addr).add j = ⟨g, j, none⟩ := by unfold Addr.add; split <;> simp_all
    rw [hadd]
    obtain ⟨g', cap', hv, _, hcs, _, _⟩ := (HR.out.grown g1).form
    cases hv
    rw [boolCells_get S _ j hjl] at hj
    exact (hcs j hjl).trans hj
  have HR1 := Hid.mk' (And.intro hR1 g1)
  have HS1 := Hid.mk' hs1
  clear hw1 hR1 g1 hs1 hE c0 c1 c2 c3 c4
  go_region_law ((refine step_append_lies _ (by rfl) _ _ 33 (by rfl) w1.heap.size 4 i0 (.bool false) 1 1 Try.underlying33 hi0 hz0 hz1 hz2 rfl (by decide) (.slice none 0 0) 0 [] (by rfl) (World.ownsRow_nil _ _ _ _) ⟨g, 0, none⟩ s.pages cap (boolCells S s.pages) (by rfl) (by simp [boolCells_len]) (HN.out 1) (boolCells_ones S s.pages) (by omega) (by unfold maxLen; omega) (by omega) (Nat.le_refl _) w1.heap.size rfl ?_; intro g2 cp2 w6 hown6 hgrow6 hloc6 hlt6
                  have hk6 : Keeps (fun j => w1.heap.size ≤ j) w1 w6 := (Keeps.of (X := fun j => w1.heap.size ≤ j) (show w1.grownBy w6 none from ⟨hgrow6.os, hgrow6.tape, hgrow6.output, hgrow6.size, hgrow6.block⟩) (by simp))
                  have hat6 := hk6.at HR1.out.1 (by omega)
                  have x6 : w6.cell? ⟨E, 4, none⟩ = some (.slice none 0 0) := by simp [World.cell?, hat6]
                  have y6 : w6.frozen? ⟨E, 4, none⟩ = false := by simp [World.frozen?, hat6]
                  have HX := Hid.mk' (And.intro hk6 (And.intro hat6 hown6))
                  clear hgrow6 hloc6 hlt6 hk6 hat6 hown6))
  all_goals
    go_wp2
    go_ret
    have hset := setCell_block (a := ⟨E, 4, none⟩) (v := .slice (some ⟨g2, 0, none⟩) s.pages cp2) HX.out.2.1 rfl
    have hkp := keep_set' w6 E 4 (.slice (some ⟨g2, 0, none⟩) s.pages cp2)
    have ho := HX.out.2.2
    rw [Nat.zero_add, List.nil_append] at ho
    have hg2 := (ho.lt g2 rfl).1
    have hE := HE.out
    refine ⟨E, rfl, by omega, .slice (some ⟨g2, 0, none⟩) s.pages cp2, fun b hb => by cases hb; show w.heap.size ≤ g2; omega, ⟨by simpa using hset, ?_, HR.out.good, HR.out.sup⟩, ?_⟩
    · exact own_kept' (SpAt_base ho) hkp (fun b hb => by cases hb; show ¬ g2 = E; omega)
    · exact (HR1.out.2.then HX.out.1 (fun j hj => by left; have := HS1.out; omega)).then hkp (fun j hj => by left; omega)

end Go.Proofs.Ytnafocbgapianab
