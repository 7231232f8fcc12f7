import Derived.Test.YtnafocbgapianabZ1
namespace Go.Proofs.Ytnafocbgapianab
open Go.RowKit

set_option maxHeartbeats 1000000 in
theorem join_join (w : World) (B : Nat) (v : Value) (l : List (Nat × Nat)) (f c : Nat) (h : SpAt w B v (l ++ [(f, c)])) (hl : l.length ≤ 2000) (hb : f + c ≤ 1000000) :
    Calls Try.prog 75 #[v, .int .i64 ((f + c : Nat) : Int)] w fun e w' => e = .returned v ∧ SpAt w' B v (l ++ [(f, c + 1)]) ∧ Keeps (fun k => v.ownBlock = some k) w w' := by
  obtain ⟨g, cap, rfl, hg, hgl⟩ := World.ownsRow.form h (by simp)
  have e1 : (l ++ [(f, c)]).length = l.length + 1 := by simp
  have h' : w.ownsRow B 46 2 (.slice (some ⟨g, 0, none⟩) (l.length + 1) cap) (l.length + 1) (spCells (l ++ [(f, c)])) := by rw [← e1]; exact h
  have c0 := h'.cellAt (l.length * 2) (by omega)
  have c1 := h'.cellAt (l.length * 2 + 1) (by omega)
  rw [spCells_fst] at c0
  rw [spCells_snd] at c1
  have f1 := h'.frozenAt (l.length * 2 + 1)
  have HS := Hid.mk' (h'.stored (l.length * 2 + 1) (.int .i64 ((c + 1 : Nat) : Int)))
  rw [spCells_set] at HS
  rw [e1]
  have e2 : (l ++ [(f, c + 1)]).length = l.length + 1 := by simp
  generalize hm : l.length = m at *
  have hm' := Hid.mk' hm
  clear h h' hm
  have hj : IntKind.i64.wrap (m : Int) = m := i64_id (by omega) (by omega)
  have hs : IntKind.i64.wrap ((f : Int) + (c : Int)) = (f : Int) + (c : Int) := i64_id (by omega) (by omega)
  have hp : (0 : Int) < (m : Int) + 1 := by omega
  have hp0 : (0 : Int) ≤ (m : Int) := by omega
  have hp1 : (m : Int) < (m : Int) + 1 := by omega
  go_enter Try.func75, Try.ntmps75
  go_wp2
  go_quiet (fail)
  go_wp2
  go_ret
  obtain ⟨q1, q2⟩ := HS.out
  refine ⟨rfl, ?_, ?_⟩
  · unfold SpAt
    rw [e2]
    exact q1
  · exact ⟨rfl, rfl, rfl, q2.size, fun k hk hx => q2.block k hk (by intro e; cases e; exact hx rfl)⟩

set_option maxHeartbeats 1000000 in
theorem join_new (w : World) (B : Nat) (v : Value) (l : List (Nat × Nat)) (f c p : Nat) (h : SpAt w B v (l ++ [(f, c)])) (hl : l.length ≤ 2000) (hb : f + c ≤ 1000000) (hp : f + c ≠ p) (hB : B ≤ w.heap.size) :
    Calls Try.prog 75 #[v, .int .i64 (p : Int)] w fun e w' => ∃ v', e = .returned v' ∧ SpAt w' B v' (l ++ [(f, c)] ++ [(p, 1)]) ∧ Keeps (fun k => v.ownBlock = some k) w w' ∧ (∀ g, v'.ownBlock = some g → v.ownBlock = some g ∨ w.heap.size ≤ g) := by
  obtain ⟨i0, hi, hz0, hz1, hz2⟩ := info_parts info31
  obtain ⟨g, cap, rfl, hg, hgl⟩ := World.ownsRow.form h (by simp)
  have e1 : (l ++ [(f, c)]).length = l.length + 1 := by simp
  have h' : w.ownsRow B 46 2 (.slice (some ⟨g, 0, none⟩) (l.length + 1) cap) (l.length + 1) (spCells (l ++ [(f, c)])) := by rw [← e1]; exact h
  have c0 := h'.cellAt (l.length * 2) (by omega)
  have c1 := h'.cellAt (l.length * 2 + 1) (by omega)
  rw [spCells_fst] at c0
  rw [spCells_snd] at c1
  have HO := Hid.mk' h'
  rw [e1]
  have HE : Hid (spCells (l ++ [(f, c)]) ++ [.int .i64 (p : Int), .int .i64 1] = spCells (l ++ [(f, c)] ++ [(p, 1)]) ∧ (l ++ [(f, c)] ++ [(p, 1)]).length = l.length + 1 + 1) := by
    constructor
    · rw [spCells_app _ [(p, 1)], spCells_one]; rfl
    · simp
  generalize hm : l.length = m at *
  clear h h' hm e1
  have hj : IntKind.i64.wrap (m : Int) = m := i64_id (by omega) (by omega)
  have hs : IntKind.i64.wrap ((f : Int) + (c : Int)) = (f : Int) + (c : Int) := i64_id (by omega) (by omega)
  have hp' : (0 : Int) < (m : Int) + 1 := by omega
  have hp0 : (0 : Int) ≤ (m : Int) := by omega
  have hp1 : (m : Int) < (m : Int) + 1 := by omega
  have hne : ((f : Int) + (c : Int) == (p : Int)) = false := by simp; omega
  go_enter Try.func75, Try.ntmps75
  go_wp2
  go_quiet (fail)
  go_wp2_with (first
    | (at_builtin; go_must (refine wpList_append_lies _ rfl _ _ 30 rfl B 46 i0 (.agg #[.int .i64 0, .int .i64 0]) 2 16 Try.underlying30 hi hz0 hz1 hz2 rfl (by decide) _ (m + 1) _ rfl ((show (w.drewN nq).ownsRow B 46 2 _ _ _ from HO.out).alloc _) ⟨w.heap.size, 0, none⟩ 1 1 [.int .i64 (p : Int), .int .i64 1] rfl rfl (news2 (w.drewN nq) _ _ _) (by simp [Value.oneCell']) (by decide) (by unfold maxLen; omega) (by omega) (by simp; omega) (w.heap.size + 1) (by simp) ?_); intro g2 c2 w2 hown2 hgrow2 hloc2 hlt2))
  go_ret
  obtain ⟨q1, q2⟩ := HE.out
  refine ⟨_, rfl, ?_, ?_, ?_⟩
  · unfold SpAt
    rw [q2, ← q1]
    exact hown2
  · have ga := World.grownBy_alloc (w.drewN nq) (.cells #[.int .i64 (p : Int), .int .i64 1] 46) none
    have k1 : Keeps (fun k => (Value.slice (some ⟨g, 0, none⟩) (m + 1) cap).ownBlock = some k) w ((w.drewN nq).alloc (.cells #[.int .i64 (p : Int), .int .i64 1] 46)) := (Keeps.drewN _ w nq).step ga (by simp)
    exact k1.step hgrow2 (by intro k hk; left; exact hk)
  · intro g' hg'
    cases hg'
    rcases hloc2 with h | h
    · exact Or.inl h
    · exact Or.inr (show w.heap.size ≤ g2 by omega)

set_option maxHeartbeats 1000000 in
theorem join_first (w : World) (B : Nat) (v : Value) (p : Nat) (h : SpAt w B v []) (hB : B ≤ w.heap.size) :
    Calls Try.prog 75 #[v, .int .i64 (p : Int)] w fun e w' => ∃ v', e = .returned v' ∧ SpAt w' B v' [(p, 1)] ∧ Keeps (fun k => v.ownBlock = some k) w w' ∧ (∀ g, v'.ownBlock = some g → v.ownBlock = some g ∨ w.heap.size ≤ g) := by
  obtain ⟨i0, hi, hz0, hz1, hz2⟩ := info_parts info31
  obtain ⟨pp, cap, rfl⟩ := h.eq_slice
  simp only [List.length_nil]
  have h' : w.ownsRow B 46 2 (.slice pp 0 cap) 0 [] := h
  have hbl := h'.lt
  have HO := Hid.mk' h'
  clear h h'
  go_enter Try.func75, Try.ntmps75
  go_wp2
  go_quiet (fail)
  go_wp2_with (first
    | (at_builtin; go_must (refine wpList_append_lies _ rfl _ _ 30 rfl B 46 i0 (.agg #[.int .i64 0, .int .i64 0]) 2 16 Try.underlying30 hi hz0 hz1 hz2 rfl (by decide) _ 0 _ rfl ((show (w.drewN nq).ownsRow B 46 2 _ _ _ from HO.out).alloc _) ⟨w.heap.size, 0, none⟩ 1 1 [.int .i64 (p : Int), .int .i64 1] rfl rfl (news2 (w.drewN nq) _ _ _) (by simp [Value.oneCell']) (by decide) (by unfold maxLen; omega) (by omega) (by simp; omega) (w.heap.size + 1) (by simp) ?_); intro g2 c2 w2 hown2 hgrow2 hloc2 hlt2))
  go_ret
  refine ⟨_, rfl, hown2, ?_, ?_⟩
  · have ga := World.grownBy_alloc (w.drewN nq) (.cells #[.int .i64 (p : Int), .int .i64 1] 46) none
    have k1 : Keeps (fun k => (Value.slice pp 0 cap).ownBlock = some k) w ((w.drewN nq).alloc (.cells #[.int .i64 (p : Int), .int .i64 1] 46)) := (Keeps.drewN _ w nq).step ga (by simp)
    exact k1.step hgrow2 (by intro k hk; left; exact hk)
  · intro g' hg'
    cases hg'
    rcases hloc2 with h | h
    · exact Or.inl h
    · exact Or.inr (show w.heap.size ≤ g2 by omega)

/-- join, whatever the list. -/
theorem join_own (w : World) (B : Nat) (v : Value) (l : List (Nat × Nat)) (p : Nat) (h : SpAt w B v l) (hl : l.length ≤ 2000) (hb : ∀ s ∈ l, s.1 + s.2 ≤ 1000000) (hB : B ≤ w.heap.size) :
    Calls Try.prog 75 #[v, .int .i64 (p : Int)] w fun e w' => ∃ v', e = .returned v' ∧ SpAt w' B v' (addP l p) ∧ Keeps (fun k => v.ownBlock = some k) w w' ∧ (∀ g, v'.ownBlock = some g → v.ownBlock = some g ∨ w.heap.size ≤ g) := by
  rcases list_snoc l with rfl | ⟨l', ⟨f, c⟩, rfl⟩
  · rw [addP_nil]; exact join_first w B v p h hB
  · have hfc := hb (f, c) (by simp)
    simp at hl
    by_cases e : f + c = p
    · subst e
      rw [addP_join]
      exact (join_join w B v l' f c h (by omega) hfc).mono fun e w' ⟨q1, q2, q3⟩ => ⟨v, q1, q2, q3, fun g hg => Or.inl hg⟩
    · rw [addP_new _ _ _ _ e]
      exact join_new w B v l' f c p h (by omega) hfc e hB

end Go.Proofs.Ytnafocbgapianab
