import Derived.Test.YtnafocbgapianabW3
import Derived.Test.YtnafocbgapianabW4
import Derived.Laws.BitsLemmas
namespace Go.Proofs.Ytnafocbgapianab
open Go.RowKit

theorem i64_and3 (n : Int) : bits .and .i64 n 3 = n % 4 := by
  have h3 : (BitVec.ofInt 64 3).toNat = 2 ^ 2 - 1 := by decide
  have key : (BitVec.ofInt 64 n &&& BitVec.ofInt 64 3).toNat = (n % ((2 ^ 64 : Nat) : Int)).toNat % 2 ^ 2 := by
    rw [BitVec.toNat_and, BitVec.toNat_ofInt, h3, Nat.and_two_pow_sub_one_eq_mod]
  show IntKind.i64.wrap ((BitVec.ofInt 64 n &&& BitVec.ofInt 64 3).toNat : Nat) = n % 4
  rw [key, IntKind.wrap_i64]
  omega
theorem and3_nat (n : Int) : ∃ a : Nat, a < 4 ∧ bits .and .i64 n 3 = (a : Int) := by
  rw [i64_and3]
  exact ⟨(n % 4).toNat, by omega, by omega⟩

theorem ne_type {w : World} {i j : Nat} {c1 c2 : Array Value} {t1 t2 : TypeId} {f1 f2 : Nat × Nat} (h1 : w.heap[i]? = some (.cells c1 t1 f1)) (h2 : w.heap[j]? = some (.cells c2 t2 f2)) (ht : t1 ≠ t2) : i ≠ j := by
  rintro rfl
  rw [h1] at h2
  cases h2
  exact ht rfl
theorem own_cells {w : World} {B e sz n g : Nat} {v : Value} {xs : List Value} (h : w.ownsRow B e sz v n xs) (hg : v.ownBlock = some g) : ∃ cur, w.heap[g]? = some (.cells cur e (0, 0)) := by
  rcases h.2 with ⟨rfl, _⟩ | ⟨g', cap, cur, rfl, _, hh, _⟩
  · cases hg
  · cases hg; exact ⟨cur, hh⟩

/-- A slot of the play: the program's bitmap, and the document's, of the same marks. -/
structure Slot where
  n : Nat
  S : Nat → Bool
  d : Nat
  e : Nat
  v : Value

def mp : Option Slot → Value
  | none => .pointer none
  | some s => .pointer (some ⟨s.d, 0, none⟩)
def ep : Option Slot → Value
  | none => .pointer none
  | some s => .pointer (some ⟨s.e, 0, none⟩)

def setSt {α : Type} (st : Nat → Option α) (a : Nat) (x : α) : Nat → Option α := fun b => if b = a then some x else st b
theorem setSt_same {α : Type} (st : Nat → Option α) (a : Nat) (x : α) : setSt st a x a = some x := by simp [setSt]
theorem setSt_other {α : Type} {st : Nat → Option α} {a b : Nat} {x : α} (h : b ≠ a) : setSt st a x b = st b := by simp [setSt, h]

/-- The cells of a play of bitmaps. -/
def mkPlay (f g : Nat → Value) : List Value := (List.range 4).map f ++ ((List.range 4).map g ++ List.replicate 8 (.pointer none))
theorem mkPlay_get1 (f g : Nat → Value) (a : Nat) (h : a < 4) : (mkPlay f g)[a]? = some (f a) := by simp [mkPlay, List.getElem?_append, h]
theorem mkPlay_get2 (f g : Nat → Value) (a : Nat) (h : a < 4) : (mkPlay f g)[4 + a]? = some (g a) := by
  unfold mkPlay
  rw [List.getElem?_append_right (by simp)]
  simp [List.getElem?_append, h]
def updV (f : Nat → Value) (a : Nat) (v : Value) : Nat → Value := fun b => if b = a then v else f b
theorem map_updV (f : Nat → Value) (a : Nat) (v : Value) : ((List.range 4).map f).set a v = (List.range 4).map (updV f a v) := by
  apply List.ext_getElem?
  intro j
  rw [List.getElem?_set]
  by_cases h : a = j
  · subst h
    by_cases ha : a < 4
    · simp [updV, ha]
    · have : 4 ≤ a := by omega
      simp [this]
  · rw [if_neg h]
    by_cases hj : j < 4
    · have : ¬ j = a := fun e => h e.symm
      simp [updV, hj, this]
    · have : 4 ≤ j := by omega
      simp [this]
theorem mkPlay_set1 (f g : Nat → Value) (a : Nat) (v : Value) (h : a < 4) : (mkPlay f g).toArray.setIfInBounds a v = (mkPlay (updV f a v) g).toArray := by
  rw [List.setIfInBounds_toArray]
  congr 1
  unfold mkPlay
  rw [List.set_append_left _ _ (by simp; exact h), map_updV]
theorem mkPlay_set2 (f g : Nat → Value) (a : Nat) (v : Value) (h : a < 4) : (mkPlay f g).toArray.setIfInBounds (4 + a) v = (mkPlay f (updV g a v)).toArray := by
  rw [List.setIfInBounds_toArray]
  congr 1
  unfold mkPlay
  rw [List.set_append_right _ _ (by simp), List.length_map, List.length_range, Nat.add_sub_cancel_left, List.set_append_left _ _ (by simp; exact h), map_updV]
theorem mkPlay_congr {f g f' g' : Nat → Value} (h1 : ∀ a, a < 4 → f a = f' a) (h2 : ∀ a, a < 4 → g a = g' a) : mkPlay f g = mkPlay f' g' := by
  unfold mkPlay
  rw [List.map_congr_left (f := f) (g := f') (fun a ha => h1 a (by simpa using ha)), List.map_congr_left (f := g) (g := g') (fun a ha => h2 a (by simpa using ha))]

structure MPlay (w0 : World) (B P : Nat) (st : Nat → Option Slot) (w : World) : Prop where
  at_ : w.heap[P]? = some (.cells (mkPlay (fun a => mp (st a)) (fun a => ep (st a))).toArray 73 (0, 0))
  two : ∀ a s, a < 4 → st a = some s → BmAt w s.d s.n s.S ∧ RbAt w s.e s.v s.n s.S
  inj : ∀ a b s t, a < 4 → b < 4 → a ≠ b → st a = some s → st b = some t → s.d ≠ t.d ∧ (∀ g, s.v.ownBlock = some g → t.v.ownBlock ≠ some g)
  low : B ≤ P ∧ ∀ a s, a < 4 → st a = some s → B ≤ s.d ∧ (∀ g, s.v.ownBlock = some g → B ≤ g)
  keep : Keeps (fun j => B ≤ j) w0 w

theorem MPlay.cell1 {w0 : World} {B P : Nat} {st : Nat → Option Slot} {w : World} (h : MPlay w0 B P st w) (a : Nat) (ha : a < 4) : w.cell? ⟨P, a, none⟩ = some (mp (st a)) := by
  rw [cell_of_row _ _ a _ _ _ h.at_]; simpa using mkPlay_get1 _ _ a ha
theorem MPlay.cell2 {w0 : World} {B P : Nat} {st : Nat → Option Slot} {w : World} (h : MPlay w0 B P st w) (a : Nat) (ha : a < 4) : w.cell? ⟨P, 4 + a, none⟩ = some (ep (st a)) := by
  rw [cell_of_row _ _ (4 + a) _ _ _ h.at_]; simpa using mkPlay_get2 _ _ a ha
theorem MPlay.frozen {w0 : World} {B P : Nat} {st : Nat → Option Slot} {w : World} (h : MPlay w0 B P st w) (i : Nat) : w.frozen? ⟨P, i, none⟩ = false := by
  simp [World.frozen?, h.at_]

theorem MPlay.grown {w0 : World} {B P : Nat} {st : Nat → Option Slot} {w w' : World} (h : MPlay w0 B P st w) (k : Keeps (fun j => w.heap.size ≤ j) w w') : MPlay w0 B P st w' := by
  have hP := heap_lt h.at_
  refine ⟨k.at h.at_ (by omega), ?_, h.inj, h.low, h.keep.then k (fun j hj => by left; have := h.low.1; omega)⟩
  intro a s ha hs
  obtain ⟨h1, h2⟩ := h.two a s ha hs
  exact ⟨h1.kept k (by have := heap_lt h1.at_; omega), h2.kept k (by have := heap_lt h2.at_; omega) (fun g hg => by have := (h2.row.lt g hg).2; omega)⟩
theorem MPlay.drewN {w0 : World} {B P : Nat} {st : Nat → Option Slot} {w : World} (h : MPlay w0 B P st w) (m : Nat) : MPlay w0 B P st (w.drewN m) := h.grown (Keeps.drewN _ _ _)

/-- One slot's marks turned, in both. -/
theorem MPlay.turn {w0 : World} {B P : Nat} {st : Nat → Option Slot} {w w' : World} (h : MPlay w0 B P st w) {a : Nat} {s : Slot} (ha : a < 4) (hs : st a = some s) (S' : Nat → Bool) (h1 : BmAt w' s.d s.n S') (h2 : RbAt w' s.e s.v s.n S')
    (k : Keeps (fun j => (j = s.d ∨ s.v.ownBlock = some j) ∨ w.heap.size ≤ j) w w') : MPlay w0 B P (setSt st a { s with S := S' }) w' := by
  obtain ⟨q1, q2⟩ := h.two a s ha hs
  have hP := heap_lt h.at_
  have hlow := h.low.2 a s ha hs
  have own4 : ∀ g, s.v.ownBlock = some g → ∃ cur, w.heap[g]? = some (.cells cur 4 (0, 0)) := fun g hg => own_cells q2.row hg
  have hnP : ¬ ((P = s.d ∨ s.v.ownBlock = some P) ∨ w.heap.size ≤ P) := by
    rintro ((e | e) | e)
    · exact ne_type h.at_ q1.at_ (by decide) e
    · obtain ⟨cur, hc⟩ := own4 P e
      exact ne_type h.at_ hc (by decide) rfl
    · omega
  have hmp : ∀ b, mp (setSt st a { s with S := S' } b) = mp (st b) := fun b => by
    by_cases hb : b = a
    · subst hb; rw [setSt_same, hs]; rfl
    · rw [setSt_other hb]
  have hep : ∀ b, ep (setSt st a { s with S := S' } b) = ep (st b) := fun b => by
    by_cases hb : b = a
    · subst hb; rw [setSt_same, hs]; rfl
    · rw [setSt_other hb]
  refine ⟨?_, ?_, ?_, ⟨h.low.1, ?_⟩, h.keep.then k (fun j hj => ?_)⟩
  · rw [mkPlay_congr (fun b _ => hmp b) (fun b _ => hep b)]; exact k.at h.at_ hnP
  · intro b t hb ht
    by_cases hba : b = a
    · subst hba; rw [setSt_same] at ht; cases ht; exact ⟨h1, h2⟩
    · rw [setSt_other hba] at ht
      obtain ⟨r1, r2⟩ := h.two b t hb ht
      have hi := h.inj b a t s hb ha hba ht hs
      refine ⟨r1.kept k ?_, r2.kept k ?_ ?_⟩
      · rintro ((e | e) | e)
        · exact hi.1 e
        · obtain ⟨cur, hc⟩ := own4 _ e; exact ne_type r1.at_ hc (by decide) rfl
        · have := heap_lt r1.at_; omega
      · rintro ((e | e) | e)
        · exact ne_type r2.at_ q1.at_ (by decide) e
        · obtain ⟨cur, hc⟩ := own4 _ e; exact ne_type r2.at_ hc (by decide) rfl
        · have := heap_lt r2.at_; omega
      · intro g hg
        obtain ⟨cur, hc⟩ := own_cells r2.row hg
        rintro ((e | e) | e)
        · exact ne_type hc q1.at_ (by decide) e
        · exact hi.2 g hg e
        · have := heap_lt hc; omega
  · intro b c t u hb hc hbc ht hu
    by_cases hba : b = a
    · subst hba
      rw [setSt_same] at ht; cases ht
      rw [setSt_other (Ne.symm hbc)] at hu
      exact h.inj b c s u hb hc hbc hs hu
    · rw [setSt_other hba] at ht
      by_cases hca : c = a
      · subst hca; rw [setSt_same] at hu; cases hu
        exact h.inj b c t s hb hc hbc ht hs
      · rw [setSt_other hca] at hu
        exact h.inj b c t u hb hc hbc ht hu
  · intro b t hb ht
    by_cases hba : b = a
    · subst hba; rw [setSt_same] at ht; cases ht; exact hlow
    · rw [setSt_other hba] at ht; exact h.low.2 b t hb ht
  · rcases hj with (e | e) | e
    · left; omega
    · left; exact hlow.2 j e
    · left; have := h.low.1; omega

/-- A new pair laid into a slot. -/
theorem MPlay.fresh {w0 : World} {B P : Nat} {st : Nat → Option Slot} {w w' : World} (h : MPlay w0 B P st w) {a : Nat} (ha : a < 4) (s : Slot) (hat : w'.heap[P]? = some (.cells (mkPlay (updV (fun a => mp (st a)) a (.pointer (some ⟨s.d, 0, none⟩))) (updV (fun a => ep (st a)) a (.pointer (some ⟨s.e, 0, none⟩)))).toArray 73 (0, 0)))
    (h1 : BmAt w' s.d s.n s.S) (h2 : RbAt w' s.e s.v s.n s.S) (hd : w.heap.size ≤ s.d) (hv : ∀ g, s.v.ownBlock = some g → w.heap.size ≤ g) (k : Keeps (fun j => j = P ∨ w.heap.size ≤ j) w w') : MPlay w0 B P (setSt st a s) w' := by
  have hP := heap_lt h.at_
  have hlP := h.low.1
  refine ⟨?_, ?_, ?_, ⟨h.low.1, ?_⟩, h.keep.then k (fun j hj => by left; omega)⟩
  · rw [hat]
    congr 3
    refine mkPlay_congr (fun b _ => ?_) (fun b _ => ?_)
    · unfold updV setSt; split <;> rfl
    · unfold updV setSt; split <;> rfl
  · intro b t hb ht
    by_cases hba : b = a
    · subst hba; rw [setSt_same] at ht; cases ht; exact ⟨h1, h2⟩
    · rw [setSt_other hba] at ht
      obtain ⟨r1, r2⟩ := h.two b t hb ht
      refine ⟨r1.kept k ?_, r2.kept k ?_ ?_⟩
      · rintro (e | e)
        · exact ne_type r1.at_ h.at_ (by decide) e
        · have := heap_lt r1.at_; omega
      · rintro (e | e)
        · exact ne_type r2.at_ h.at_ (by decide) e
        · have := heap_lt r2.at_; omega
      · intro g hg
        obtain ⟨cur, hc⟩ := own_cells r2.row hg
        rintro (e | e)
        · exact ne_type hc h.at_ (by decide) e
        · have := heap_lt hc; omega
  · intro b c t u hb hc hbc ht hu
    by_cases hba : b = a
    · subst hba
      rw [setSt_same] at ht; cases ht
      rw [setSt_other (Ne.symm hbc)] at hu
      obtain ⟨r1, r2⟩ := h.two c u hc hu
      refine ⟨by have := heap_lt r1.at_; omega, fun g hg e => ?_⟩
      have := hv g hg
      have := (r2.row.lt g e).2
      omega
    · rw [setSt_other hba] at ht
      by_cases hca : c = a
      · subst hca; rw [setSt_same] at hu; cases hu
        obtain ⟨r1, r2⟩ := h.two b t hb ht
        refine ⟨by have := heap_lt r1.at_; omega, fun g hg e => ?_⟩
        have := hv g e
        have := (r2.row.lt g hg).2
        omega
      · rw [setSt_other hca] at hu
        exact h.inj b c t u hb hc hbc ht hu
  · intro b t hb ht
    by_cases hba : b = a
    · subst hba; rw [setSt_same] at ht; cases ht; exact ⟨by omega, fun g hg => by have := hv g hg; omega⟩
    · rw [setSt_other hba] at ht; exact h.low.2 b t hb ht

end Go.Proofs.Ytnafocbgapianab
