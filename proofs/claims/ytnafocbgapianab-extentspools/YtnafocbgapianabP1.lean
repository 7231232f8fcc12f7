import Derived.Test.YtnafocbgapianabZ4
import Derived.Test.YtnafocbgapianabZ5
import Derived.Test.YtnafocbgapianabZ6
import Derived.Test.YtnafocbgapianabZ8
import Derived.Test.YtnafocbgapianabZ9
namespace Go.Proofs.Ytnafocbgapianab
open Go.RowKit

/-- A slot of the play: the program's bitmap, and the document's, of the same marks. -/
structure PSlot where
  sh : Sh
  S : Nat → Bool
  d : Nat
  e : Nat
  v : Value

def pq : Option PSlot → Value
  | none => .pointer none
  | some s => .pointer (some ⟨s.d, 0, none⟩)
def eq_ : Option PSlot → Value
  | none => .pointer none
  | some s => .pointer (some ⟨s.e, 0, none⟩)

/-- The cells of a play of bitmaps. -/
def mkPlayP (f g : Nat → Value) : List Value := List.replicate 8 (.pointer none) ++ ((List.range 4).map f ++ (List.range 4).map g)
theorem mkPlayP_get1 (f g : Nat → Value) (a : Nat) (h : a < 4) : (mkPlayP f g)[8 + a]? = some (f a) := by
  unfold mkPlayP
  rw [List.getElem?_append_right (by simp)]
  simp [List.getElem?_append, h]
theorem mkPlayP_get2 (f g : Nat → Value) (a : Nat) (h : a < 4) : (mkPlayP f g)[12 + a]? = some (g a) := by
  unfold mkPlayP
  rw [List.getElem?_append_right (by simp; omega), List.getElem?_append_right (by simp; omega)]
  simp only [List.length_replicate, List.length_map, List.length_range]
  rw [show 12 + a - 8 - 4 = a by omega]
  simp [h]
theorem mkPlayP_set1 (f g : Nat → Value) (a : Nat) (v : Value) (h : a < 4) : (mkPlayP f g).toArray.setIfInBounds (8 + a) v = (mkPlayP (updV f a v) g).toArray := by
  rw [List.setIfInBounds_toArray]
  congr 1
  unfold mkPlayP
  rw [List.set_append_right _ _ (by simp), List.length_replicate, Nat.add_sub_cancel_left, List.set_append_left _ _ (by simp; exact h), map_updV]
theorem mkPlayP_set2 (f g : Nat → Value) (a : Nat) (v : Value) (h : a < 4) : (mkPlayP f g).toArray.setIfInBounds (12 + a) v = (mkPlayP f (updV g a v)).toArray := by
  rw [List.setIfInBounds_toArray]
  congr 1
  unfold mkPlayP
  rw [List.set_append_right _ _ (by simp; omega), List.length_replicate, show 12 + a - 8 = 4 + a by omega, List.set_append_right _ _ (by simp), List.length_map, List.length_range, Nat.add_sub_cancel_left, map_updV]
theorem mkPlayP_congr {f g f' g' : Nat → Value} (h1 : ∀ a, a < 4 → f a = f' a) (h2 : ∀ a, a < 4 → g a = g' a) : mkPlayP f g = mkPlayP f' g' := by
  unfold mkPlayP
  rw [List.map_congr_left (f := f) (g := f') (fun a ha => h1 a (by simpa using ha)), List.map_congr_left (f := g) (g := g') (fun a ha => h2 a (by simpa using ha))]

structure PPlay (w0 : World) (B P : Nat) (st : Nat → Option PSlot) (w : World) : Prop where
  at_ : w.heap[P]? = some (.cells (mkPlayP (fun a => pq (st a)) (fun a => eq_ (st a))).toArray 73 (0, 0))
  two : ∀ a s, a < 4 → st a = some s → PoolAt w s.d s.sh s.S ∧ RpAt w s.e s.v s.sh s.S
  inj : ∀ a b s t, a < 4 → b < 4 → a ≠ b → st a = some s → st b = some t → s.d ≠ t.d ∧ (∀ g, s.v.ownBlock = some g → t.v.ownBlock ≠ some g)
  low : B ≤ P ∧ ∀ a s, a < 4 → st a = some s → B ≤ s.d ∧ (∀ g, s.v.ownBlock = some g → B ≤ g)
  keep : Keeps (fun j => B ≤ j) w0 w

theorem PPlay.cell1 {w0 : World} {B P : Nat} {st : Nat → Option PSlot} {w : World} (h : PPlay w0 B P st w) (a : Nat) (ha : a < 4) : w.cell? ⟨P, 8 + a, none⟩ = some (pq (st a)) := by
  rw [cell_of_row _ _ (8 + a) _ _ _ h.at_]; simpa using mkPlayP_get1 _ _ a ha
theorem PPlay.cell2 {w0 : World} {B P : Nat} {st : Nat → Option PSlot} {w : World} (h : PPlay w0 B P st w) (a : Nat) (ha : a < 4) : w.cell? ⟨P, 12 + a, none⟩ = some (eq_ (st a)) := by
  rw [cell_of_row _ _ (12 + a) _ _ _ h.at_]; simpa using mkPlayP_get2 _ _ a ha
theorem PPlay.frozen {w0 : World} {B P : Nat} {st : Nat → Option PSlot} {w : World} (h : PPlay w0 B P st w) (i : Nat) : w.frozen? ⟨P, i, none⟩ = false := by
  simp [World.frozen?, h.at_]

theorem PPlay.grown {w0 : World} {B P : Nat} {st : Nat → Option PSlot} {w w' : World} (h : PPlay w0 B P st w) (k : Keeps (fun j => w.heap.size ≤ j) w w') : PPlay w0 B P st w' := by
  have hP := heap_lt h.at_
  refine ⟨k.at h.at_ (by omega), ?_, h.inj, h.low, h.keep.then k (fun j hj => by left; have := h.low.1; omega)⟩
  intro a s ha hs
  obtain ⟨h1, h2⟩ := h.two a s ha hs
  exact ⟨h1.kept k (by have := heap_lt h1.at_; omega), h2.kept k (by have := heap_lt h2.at_; omega) (fun g hg => by have := (h2.row.lt g hg).2; omega)⟩
theorem PPlay.drewN {w0 : World} {B P : Nat} {st : Nat → Option PSlot} {w : World} (h : PPlay w0 B P st w) (m : Nat) : PPlay w0 B P st (w.drewN m) := h.grown (Keeps.drewN _ _ _)

/-- One slot's marks turned, in both. -/
theorem PPlay.turn {w0 : World} {B P : Nat} {st : Nat → Option PSlot} {w w' : World} (h : PPlay w0 B P st w) {a : Nat} {s : PSlot} (ha : a < 4) (hs : st a = some s) (S' : Nat → Bool) (h1 : PoolAt w' s.d s.sh S') (h2 : RpAt w' s.e s.v s.sh S')
    (k : Keeps (fun j => (j = s.d ∨ s.v.ownBlock = some j) ∨ w.heap.size ≤ j) w w') : PPlay w0 B P (setSt st a { s with S := S' }) w' := by
  obtain ⟨q1, q2⟩ := h.two a s ha hs
  have hP := heap_lt h.at_
  have hlow := h.low.2 a s ha hs
  have own4 : ∀ g, s.v.ownBlock = some g → ∃ cur, w.heap[g]? = some (.cells cur 4 (0, 0)) := fun g hg => own_cells q2.row hg
  have hnP : ¬ ((P = s.d ∨ s.v.ownBlock = some P) ∨ w.heap.size ≤ P) := by
    rintro ((e | e) | e)
    · exact ne_type h.at_ q1.at_ (by decide) e
    · obtain ⟨cur, hc⟩ := own4 P e
      exact ne_type h.at_ hc (by decide) rfl
    · omega
  have hmp : ∀ b, pq (setSt st a { s with S := S' } b) = pq (st b) := fun b => by
    by_cases hb : b = a
    · subst hb; rw [setSt_same, hs]; rfl
    · rw [setSt_other hb]
  have hep : ∀ b, eq_ (setSt st a { s with S := S' } b) = eq_ (st b) := fun b => by
    by_cases hb : b = a
    · subst hb; rw [setSt_same, hs]; rfl
    · rw [setSt_other hb]
  refine ⟨?_, ?_, ?_, ⟨h.low.1, ?_⟩, h.keep.then k (fun j hj => ?_)⟩
  · rw [mkPlayP_congr (fun b _ => hmp b) (fun b _ => hep b)]; exact k.at h.at_ hnP
  · intro b t hb ht
    by_cases hba : b = a
    · subst hba; rw [setSt_same] at ht; cases ht; exact ⟨h1, h2⟩
    · rw [setSt_other hba] at ht
      obtain ⟨r1, r2⟩ := h.two b t hb ht
      have hi := h.inj b a t s hb ha hba ht hs
      refine ⟨r1.kept k ?_, r2.kept k ?_ ?_⟩
      · rintro ((e | e) | e)
        · exact hi.1 e
        · obtain ⟨cur, hc⟩ := own4 _ e; exact ne_type r1.at_ hc (by decide) rfl
        · have := heap_lt r1.at_; omega
      · rintro ((e | e) | e)
        · exact ne_type r2.at_ q1.at_ (by decide) e
        · obtain ⟨cur, hc⟩ := own4 _ e; exact ne_type r2.at_ hc (by decide) rfl
        · have := heap_lt r2.at_; omega
      · intro g hg
        obtain ⟨cur, hc⟩ := own_cells r2.row hg
        rintro ((e | e) | e)
        · exact ne_type hc q1.at_ (by decide) e
        · exact hi.2 g hg e
        · have := heap_lt hc; omega
  · intro b c t u hb hc hbc ht hu
    by_cases hba : b = a
    · subst hba
      rw [setSt_same] at ht; cases ht
      rw [setSt_other (Ne.symm hbc)] at hu
      exact h.inj b c s u hb hc hbc hs hu
    · rw [setSt_other hba] at ht
      by_cases hca : c = a
      · subst hca; rw [setSt_same] at hu; cases hu
        exact h.inj b c t s hb hc hbc ht hs
      · rw [setSt_other hca] at hu
        exact h.inj b c t u hb hc hbc ht hu
  · intro b t hb ht
    by_cases hba : b = a
    · subst hba; rw [setSt_same] at ht; cases ht; exact hlow
    · rw [setSt_other hba] at ht; exact h.low.2 b t hb ht
  · rcases hj with (e | e) | e
    · left; omega
    · left; exact hlow.2 j e
    · left; have := h.low.1; omega

/-- A new pair laid into a slot. -/
theorem PPlay.fresh {w0 : World} {B P : Nat} {st : Nat → Option PSlot} {w w' : World} (h : PPlay w0 B P st w) {a : Nat} (ha : a < 4) (s : PSlot) (hat : w'.heap[P]? = some (.cells (mkPlayP (updV (fun a => pq (st a)) a (.pointer (some ⟨s.d, 0, none⟩))) (updV (fun a => eq_ (st a)) a (.pointer (some ⟨s.e, 0, none⟩)))).toArray 73 (0, 0)))
    (h1 : PoolAt w' s.d s.sh s.S) (h2 : RpAt w' s.e s.v s.sh s.S) (hd : w.heap.size ≤ s.d) (hv : ∀ g, s.v.ownBlock = some g → w.heap.size ≤ g) (k : Keeps (fun j => j = P ∨ w.heap.size ≤ j) w w') : PPlay w0 B P (setSt st a s) w' := by
  have hP := heap_lt h.at_
  have hlP := h.low.1
  refine ⟨?_, ?_, ?_, ⟨h.low.1, ?_⟩, h.keep.then k (fun j hj => by left; omega)⟩
  · rw [hat]
    congr 3
    refine mkPlayP_congr (fun b _ => ?_) (fun b _ => ?_)
    · unfold updV setSt; split <;> rfl
    · unfold updV setSt; split <;> rfl
  · intro b t hb ht
    by_cases hba : b = a
    · subst hba; rw [setSt_same] at ht; cases ht; exact ⟨h1, h2⟩
    · rw [setSt_other hba] at ht
      obtain ⟨r1, r2⟩ := h.two b t hb ht
      refine ⟨r1.kept k ?_, r2.kept k ?_ ?_⟩
      · rintro (e | e)
        · exact ne_type r1.at_ h.at_ (by decide) e
        · have := heap_lt r1.at_; omega
      · rintro (e | e)
        · exact ne_type r2.at_ h.at_ (by decide) e
        · have := heap_lt r2.at_; omega
      · intro g hg
        obtain ⟨cur, hc⟩ := own_cells r2.row hg
        rintro (e | e)
        · exact ne_type hc h.at_ (by decide) e
        · have := heap_lt hc; omega
  · intro b c t u hb hc hbc ht hu
    by_cases hba : b = a
    · subst hba
      rw [setSt_same] at ht; cases ht
      rw [setSt_other (Ne.symm hbc)] at hu
      obtain ⟨r1, r2⟩ := h.two c u hc hu
      refine ⟨by have := heap_lt r1.at_; omega, fun g hg e => ?_⟩
      have := hv g hg
      have := (r2.row.lt g e).2
      omega
    · rw [setSt_other hba] at ht
      by_cases hca : c = a
      · subst hca; rw [setSt_same] at hu; cases hu
        obtain ⟨r1, r2⟩ := h.two b t hb ht
        refine ⟨by have := heap_lt r1.at_; omega, fun g hg e => ?_⟩
        have := hv g e
        have := (r2.row.lt g hg).2
        omega
      · rw [setSt_other hca] at hu
        exact h.inj b c t u hb hc hbc ht hu
  · intro b t hb ht
    by_cases hba : b = a
    · subst hba; rw [setSt_same] at ht; cases ht; exact ⟨by omega, fun g hg => by have := hv g hg; omega⟩
    · rw [setSt_other hba] at ht; exact h.low.2 b t hb ht

end Go.Proofs.Ytnafocbgapianab
