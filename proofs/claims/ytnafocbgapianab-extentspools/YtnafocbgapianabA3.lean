import Derived.Test.YtnafocbgapianabA2
import Derived.Deep.AppendLies
import Derived.Laws.OwnMore
import Derived.OwnWalk
namespace Go.Proofs.Ytnafocbgapianab
open Go.RowKit

theorem info31 : (Try.prog.info? 46).map (fun i => (i.zero, i.size, i.bytes)) = some (some (.agg #[.int .i64 0, .int .i64 0]), 2, 16) := by kernel_rfl

/-- A span's two cells. -/
def spCell (s : Nat × Nat) : List Value := [.int .i64 s.1, .int .i64 s.2]
/-- The cells of a list of spans. -/
def spCells (l : List (Nat × Nat)) : List Value := l.flatMap spCell

theorem spCells_len (l : List (Nat × Nat)) : (spCells l).length = l.length * 2 := by
  induction l with
  | nil => rfl
  | cons s l ih => simp only [spCells, List.flatMap_cons, List.length_append] at ih ⊢; rw [ih]; simp [spCell]; omega
theorem spCells_app (a b : List (Nat × Nat)) : spCells (a ++ b) = spCells a ++ spCells b := by simp [spCells]
theorem spCells_one (f c : Nat) : spCells [(f, c)] = [.int .i64 f, .int .i64 c] := by simp [spCells, spCell]
theorem spCells_get (l : List (Nat × Nat)) (i : Nat) (hi : i < l.length) : (spCells l)[i * 2]? = some (.int .i64 (l[i]).1) ∧ (spCells l)[i * 2 + 1]? = some (.int .i64 (l[i]).2) := by
  induction l generalizing i with
  | nil => simp at hi
  | cons s l ih =>
    have e : spCells (s :: l) = .int .i64 s.1 :: .int .i64 s.2 :: spCells l := by simp [spCells, spCell]
    cases i with
    | zero => rw [e]; simp
    | succ i =>
      have := ih i (by simpa using hi)
      rw [e, show (i + 1) * 2 = i * 2 + 1 + 1 by omega]
      simpa using this

/-- A list of spans of the call's own: where it lies from B on. -/
def SpAt (w : World) (B : Nat) (v : Value) (l : List (Nat × Nat)) : Prop := w.ownsRow B 46 2 v l.length (spCells l)

theorem SpAt.nil (w : World) (B : Nat) : SpAt w B (.slice none 0 0) [] := World.ownsRow_nil w B 46 2

theorem SpAt.kept {w w' : World} {B : Nat} {v : Value} {l : List (Nat × Nat)} {X : Nat → Prop} (h : SpAt w B v l) (k : Keeps X w w') (hx : ∀ g, v.ownBlock = some g → ¬ X g) : SpAt w' B v l := by
  have hlt := h.lt
  obtain ⟨h1, h2⟩ := h
  refine ⟨h1, ?_⟩
  rcases h2 with h2 | ⟨g, cap, cur, hv, hg, hh, r⟩
  · exact Or.inl h2
  · have e1 : v.ownBlock = some g := by rw [hv]; rfl
    exact Or.inr ⟨g, cap, cur, hv, hg, (k.block g (hlt g e1).2 (hx g e1)).trans hh, r⟩

theorem spCells_fst (l : List (Nat × Nat)) (f c : Nat) : (spCells (l ++ [(f, c)]))[l.length * 2]? = some (.int .i64 f) := by
  have := (spCells_get (l ++ [(f, c)]) l.length (by simp)).1
  simpa using this
theorem spCells_snd (l : List (Nat × Nat)) (f c : Nat) : (spCells (l ++ [(f, c)]))[l.length * 2 + 1]? = some (.int .i64 c) := by
  have := (spCells_get (l ++ [(f, c)]) l.length (by simp)).2
  simpa using this
theorem spCells_set (l : List (Nat × Nat)) (f c : Nat) (x : Nat) : (spCells (l ++ [(f, c)])).set (l.length * 2 + 1) (.int .i64 x) = spCells (l ++ [(f, x)]) := by
  rw [spCells_app, spCells_app, List.set_append_right _ _ (by rw [spCells_len]; omega), spCells_len, spCells_one, spCells_one]
  simp

set_option maxHeartbeats 1000000 in
theorem withPage_join (w : World) (B : Nat) (v : Value) (l : List (Nat × Nat)) (f c : Nat) (h : SpAt w B v (l ++ [(f, c)])) (hl : l.length ≤ 2000) (hb : f + c ≤ 1000000) :
    Calls Try.prog 67 #[v, .int .i64 ((f + c : Nat) : Int)] w fun e w' => e = .returned v ∧ SpAt w' B v (l ++ [(f, c + 1)]) ∧ Keeps (fun k => v.ownBlock = some k) w w' := by
  obtain ⟨g, cap, rfl, hg, hgl⟩ := World.ownsRow.form h (by simp)
  have e1 : (l ++ [(f, c)]).length = l.length + 1 := by simp
  have h' : w.ownsRow B 46 2 (.slice (some ⟨g, 0, none⟩) (l.length + 1) cap) (l.length + 1) (spCells (l ++ [(f, c)])) := by rw [← e1]; exact h
  have c0 := h'.cellAt (l.length * 2) (by omega)
  have c1 := h'.cellAt (l.length * 2 + 1) (by omega)
  rw [spCells_fst] at c0
  rw [spCells_snd] at c1
  have f1 := h'.frozenAt (l.length * 2 + 1)
  have HS := Hid.mk' (h'.stored (l.length * 2 + 1) (.int .i64 ((c + 1 : Nat) : Int)))
  rw [spCells_set] at HS
  rw [e1]
  have e2 : (l ++ [(f, c + 1)]).length = l.length + 1 := by simp
  generalize hm : l.length = m at *
  have hm' := Hid.mk' hm
  clear h h' hm
  have hj : IntKind.i64.wrap (m : Int) = m := i64_id (by omega) (by omega)
  have hs : IntKind.i64.wrap ((f : Int) + (c : Int)) = (f : Int) + (c : Int) := i64_id (by omega) (by omega)
  have hp : (0 : Int) < (m : Int) + 1 := by omega
  have hp0 : (0 : Int) ≤ (m : Int) := by omega
  have hp1 : (m : Int) < (m : Int) + 1 := by omega
  go_enter Try.func67, Try.ntmps67
  go_wp2
  go_quiet (fail)
  go_wp2
  go_ret
  obtain ⟨q1, q2⟩ := HS.out
  refine ⟨rfl, ?_, ?_⟩
  · unfold SpAt
    rw [e2]
    exact q1
  · exact ⟨rfl, rfl, rfl, q2.size, fun k hk hx => q2.block k hk (by intro e; cases e; exact hx rfl)⟩

theorem SpAt.eq_slice {w : World} {B : Nat} {v : Value} {l : List (Nat × Nat)} (h : SpAt w B v l) : ∃ p cap, v = .slice p l.length cap := by
  rcases h.2 with ⟨rfl, h0⟩ | ⟨g, cap, cur, hv, _⟩
  · exact ⟨none, 0, by rw [h0]⟩
  · exact ⟨_, cap, hv⟩

theorem news2 (w : World) (x y : Value) (t : TypeId) : ∀ j u, [x, y][j]? = some u → (w.alloc (.cells #[x, y] t)).cell? ((⟨w.heap.size, 0, none⟩ : Addr).add j) = some u := by
  have hb := (MapKept.heap_alloc w (.cells #[x, y] t)).1
  intro j u hj
  have hadd : (⟨w.heap.size, 0, none⟩ : Addr).add j = ⟨w.heap.size, j, none⟩ := by unfold Addr.add; split <;> simp_all
  rw [hadd, cell_of_row _ _ j _ _ _ hb]
  simpa using hj

set_option maxHeartbeats 1000000 in
theorem withPage_new (w : World) (B : Nat) (v : Value) (l : List (Nat × Nat)) (f c p : Nat) (h : SpAt w B v (l ++ [(f, c)])) (hl : l.length ≤ 2000) (hb : f + c ≤ 1000000) (hp : f + c ≠ p) (hB : B ≤ w.heap.size) :
    Calls Try.prog 67 #[v, .int .i64 (p : Int)] w fun e w' => ∃ v', e = .returned v' ∧ SpAt w' B v' (l ++ [(f, c)] ++ [(p, 1)]) ∧ Keeps (fun k => v.ownBlock = some k) w w' ∧ (∀ g, v'.ownBlock = some g → v.ownBlock = some g ∨ w.heap.size ≤ g) := by
  obtain ⟨i0, hi, hz0, hz1, hz2⟩ := info_parts info31
  obtain ⟨g, cap, rfl, hg, hgl⟩ := World.ownsRow.form h (by simp)
  have e1 : (l ++ [(f, c)]).length = l.length + 1 := by simp
  have h' : w.ownsRow B 46 2 (.slice (some ⟨g, 0, none⟩) (l.length + 1) cap) (l.length + 1) (spCells (l ++ [(f, c)])) := by rw [← e1]; exact h
  have c0 := h'.cellAt (l.length * 2) (by omega)
  have c1 := h'.cellAt (l.length * 2 + 1) (by omega)
  rw [spCells_fst] at c0
  rw [spCells_snd] at c1
  have HO := Hid.mk' h'
  rw [e1]
  have HE : Hid (spCells (l ++ [(f, c)]) ++ [.int .i64 (p : Int), .int .i64 1] = spCells (l ++ [(f, c)] ++ [(p, 1)]) ∧ (l ++ [(f, c)] ++ [(p, 1)]).length = l.length + 1 + 1) := by
    constructor
    · rw [spCells_app _ [(p, 1)], spCells_one]; rfl
    · simp
  generalize hm : l.length = m at *
  clear h h' hm e1
  have hj : IntKind.i64.wrap (m : Int) = m := i64_id (by omega) (by omega)
  have hs : IntKind.i64.wrap ((f : Int) + (c : Int)) = (f : Int) + (c : Int) := i64_id (by omega) (by omega)
  have hp' : (0 : Int) < (m : Int) + 1 := by omega
  have hp0 : (0 : Int) ≤ (m : Int) := by omega
  have hp1 : (m : Int) < (m : Int) + 1 := by omega
  have hne : ((f : Int) + (c : Int) == (p : Int)) = false := by simp; omega
  go_enter Try.func67, Try.ntmps67
  go_wp2
  go_quiet (fail)
  go_wp2_with (first
    | (at_builtin; go_must (refine wpList_append_lies _ rfl _ _ 30 rfl B 46 i0 (.agg #[.int .i64 0, .int .i64 0]) 2 16 Try.underlying30 hi hz0 hz1 hz2 rfl (by decide) _ (m + 1) _ rfl ((show (w.drewN nq).ownsRow B 46 2 _ _ _ from HO.out).alloc _) ⟨w.heap.size, 0, none⟩ 1 1 [.int .i64 (p : Int), .int .i64 1] rfl rfl (news2 (w.drewN nq) _ _ _) (by simp [Value.oneCell']) (by decide) (by unfold maxLen; omega) (by omega) (by simp; omega) (w.heap.size + 1) (by simp) ?_); intro g2 c2 w2 hown2 hgrow2 hloc2 hlt2))
  go_ret
  obtain ⟨q1, q2⟩ := HE.out
  refine ⟨_, rfl, ?_, ?_, ?_⟩
  · unfold SpAt
    rw [q2, ← q1]
    exact hown2
  · have ga := World.grownBy_alloc (w.drewN nq) (.cells #[.int .i64 (p : Int), .int .i64 1] 46) none
    have k1 : Keeps (fun k => (Value.slice (some ⟨g, 0, none⟩) (m + 1) cap).ownBlock = some k) w ((w.drewN nq).alloc (.cells #[.int .i64 (p : Int), .int .i64 1] 46)) := (Keeps.drewN _ w nq).step ga (by simp)
    exact k1.step hgrow2 (by intro k hk; left; exact hk)
  · intro g' hg'
    cases hg'
    rcases hloc2 with h | h
    · exact Or.inl h
    · exact Or.inr (show w.heap.size ≤ g2 by omega)

set_option maxHeartbeats 1000000 in
theorem withPage_first (w : World) (B : Nat) (v : Value) (p : Nat) (h : SpAt w B v []) (hB : B ≤ w.heap.size) :
    Calls Try.prog 67 #[v, .int .i64 (p : Int)] w fun e w' => ∃ v', e = .returned v' ∧ SpAt w' B v' [(p, 1)] ∧ Keeps (fun k => v.ownBlock = some k) w w' ∧ (∀ g, v'.ownBlock = some g → v.ownBlock = some g ∨ w.heap.size ≤ g) := by
  obtain ⟨i0, hi, hz0, hz1, hz2⟩ := info_parts info31
  obtain ⟨pp, cap, rfl⟩ := h.eq_slice
  simp only [List.length_nil]
  have h' : w.ownsRow B 46 2 (.slice pp 0 cap) 0 [] := h
  have hbl := h'.lt
  have hne : decide ((0 : Int) < 0) = false := by decide
  have HO := Hid.mk' h'
  clear h h'
  go_enter Try.func67, Try.ntmps67
  go_wp2
  go_quiet (fail)
  go_wp2_with (first
    | (at_builtin; go_must (refine wpList_append_lies _ rfl _ _ 30 rfl B 46 i0 (.agg #[.int .i64 0, .int .i64 0]) 2 16 Try.underlying30 hi hz0 hz1 hz2 rfl (by decide) _ 0 _ rfl ((show (w.drewN nq).ownsRow B 46 2 _ _ _ from HO.out).alloc _) ⟨w.heap.size, 0, none⟩ 1 1 [.int .i64 (p : Int), .int .i64 1] rfl rfl (news2 (w.drewN nq) _ _ _) (by simp [Value.oneCell']) (by decide) (by unfold maxLen; omega) (by omega) (by simp; omega) (w.heap.size + 1) (by simp) ?_); intro g2 c2 w2 hown2 hgrow2 hloc2 hlt2))
  go_ret
  refine ⟨_, rfl, hown2, ?_, ?_⟩
  · have ga := World.grownBy_alloc (w.drewN nq) (.cells #[.int .i64 (p : Int), .int .i64 1] 46) none
    have k1 : Keeps (fun k => (Value.slice pp 0 cap).ownBlock = some k) w ((w.drewN nq).alloc (.cells #[.int .i64 (p : Int), .int .i64 1] 46)) := (Keeps.drewN _ w nq).step ga (by simp)
    exact k1.step hgrow2 (by intro k hk; left; exact hk)
  · intro g' hg'
    cases hg'
    rcases hloc2 with h | h
    · exact Or.inl h
    · exact Or.inr (show w.heap.size ≤ g2 by omega)

/-- withPage, whatever the list; which blocks may turn, and where the new list lies. -/
theorem withPage_own (w : World) (B : Nat) (v : Value) (l : List (Nat × Nat)) (p : Nat) (h : SpAt w B v l) (hl : l.length ≤ 2000) (hb : ∀ s ∈ l, s.1 + s.2 ≤ 1000000) (hB : B ≤ w.heap.size) :
    Calls Try.prog 67 #[v, .int .i64 (p : Int)] w fun e w' => ∃ v', e = .returned v' ∧ SpAt w' B v' (addP l p) ∧ Keeps (fun k => v.ownBlock = some k) w w' ∧ (∀ g, v'.ownBlock = some g → v.ownBlock = some g ∨ w.heap.size ≤ g) := by
  rcases list_snoc l with rfl | ⟨l', ⟨f, c⟩, rfl⟩
  · rw [addP_nil]; exact withPage_first w B v p h hB
  · have hfc := hb (f, c) (by simp)
    simp at hl
    by_cases e : f + c = p
    · subst e
      rw [addP_join]
      exact (withPage_join w B v l' f c h (by omega) hfc).mono fun e w' ⟨q1, q2, q3⟩ => ⟨v, q1, q2, q3, fun g hg => Or.inl hg⟩
    · rw [addP_new _ _ _ _ e]
      exact withPage_new w B v l' f c p h (by omega) hfc e hB

theorem withPage_any (w : World) (B : Nat) (v : Value) (l : List (Nat × Nat)) (p : Nat) (h : SpAt w B v l) (hl : l.length ≤ 2000) (hb : ∀ s ∈ l, s.1 + s.2 ≤ 1000000) (hB : B ≤ w.heap.size) :
    Calls Try.prog 67 #[v, .int .i64 (p : Int)] w fun e w' => ∃ v', e = .returned v' ∧ SpAt w' B v' (addP l p) ∧ Keeps (fun k => B ≤ k) w w' :=
  (withPage_own w B v l p h hl hb hB).mono fun _ _ ⟨v', q1, q2, q3, _⟩ => ⟨v', q1, q2, q3.mono fun k _ hk => (h.lt k hk).1⟩

end Go.Proofs.Ytnafocbgapianab
