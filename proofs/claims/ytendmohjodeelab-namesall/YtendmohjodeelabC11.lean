import Derived.Test.YtendmohjodeelabC10
import Derived.Laws.BitsLemmas
namespace Go.Proofs.Ytendmohjodeelab
open Go.RowKit Go.Maps Go.Great

theorem i64_and3 (n : Int) : bits .and .i64 n 3 = n % 4 := by
  have h3 : (BitVec.ofInt 64 3).toNat = 2 ^ 2 - 1 := by decide
  have key : (BitVec.ofInt 64 n &&& BitVec.ofInt 64 3).toNat = (n % ((2 ^ 64 : Nat) : Int)).toNat % 2 ^ 2 := by
    rw [BitVec.toNat_and, BitVec.toNat_ofInt, h3, Nat.and_two_pow_sub_one_eq_mod]
  show IntKind.i64.wrap ((BitVec.ofInt 64 n &&& BitVec.ofInt 64 3).toNat : Nat) = n % 4
  rw [key, IntKind.wrap_i64]
  omega
theorem and3_nat (n : Int) : ∃ a : Nat, a < 4 ∧ bits .and .i64 n 3 = (a : Int) := by
  rw [i64_and3]
  exact ⟨(n % 4).toNat, by omega, by omega⟩

/-- The four of each kind while they are made. -/
structure Bg (W : World) (bx by_ : Nat) (X : Nat → Nat × Nat) (Y : Nat → Nat) (i j : Nat) (w : World) : Prop where
  ax : w.heap[bx]? = some (.cells (four fun a => if a < i then ptr (X a).1 else .pointer none) 61 (0, 0))
  ay : w.heap[by_]? = some (.cells (four fun a => if a < j then ptr (Y a) else .pointer none) 63 (0, 0))
  ix : ∀ a, a < i → IxAt w (X a).1 (X a).2 []
  rf : ∀ a, a < j → RefAt w (Y a) []
  injX : ∀ a b, a < i → b < i → a ≠ b → (X a).2 ≠ (X b).2
  injY : ∀ a b, a < j → b < j → a ≠ b → Y a ≠ Y b
  keep : Keeps (fun _ => False) W w
  low : W.heap.size ≤ bx ∧ W.heap.size ≤ by_ ∧ (∀ a, a < i → W.heap.size ≤ (X a).2) ∧ ∀ a, a < j → W.heap.size ≤ Y a

theorem Bg.grown {W : World} {bx by_ : Nat} {X : Nat → Nat × Nat} {Y : Nat → Nat} {i j : Nat} {w w' : World} (h : Bg W bx by_ X Y i j w) (k : Keeps (fun _ => False) w w') : Bg W bx by_ X Y i j w' :=
  ⟨k.at h.ax (fun h => h), k.at h.ay (fun h => h), fun a ha => (h.ix a ha).keep k (fun h => h) (fun h => h), fun a ha => (h.rf a ha).grown k, h.injX, h.injY, h.keep.trans k, h.low⟩
theorem Bg.cells {W : World} {bx by_ : Nat} {X : Nat → Nat × Nat} {Y : Nat → Nat} {i j : Nat} {w : World} (h : Bg W bx by_ X Y i j w) (a : Nat) (ha : a < 4) :
    w.cell? ⟨bx, a, none⟩ = some (if a < i then ptr (X a).1 else .pointer none) ∧ w.cell? ⟨by_, a, none⟩ = some (if a < j then ptr (Y a) else .pointer none) ∧ w.frozen? ⟨bx, a, none⟩ = false ∧ w.frozen? ⟨by_, a, none⟩ = false := by
  refine ⟨?_, ?_, by simp [World.frozen?, h.ax], by simp [World.frozen?, h.ay]⟩
  · rw [cell_of_row _ _ a _ _ _ h.ax, four_at _ a ha]
  · rw [cell_of_row _ _ a _ _ _ h.ay, four_at _ a ha]

theorem Bg.setX {W : World} {bx by_ : Nat} {X : Nat → Nat × Nat} {Y : Nat → Nat} {i j : Nat} {w w' : World} (h : Bg W bx by_ X Y i j w) (k : Keeps (fun _ => False) w w') (hb : i < 4) {x bm : Nat} (hi : IxAt w' x bm []) (hbm : w.heap.size ≤ bm) :
    Bg W bx by_ (updF X i (x, bm)) Y (i + 1) j (w'.setCell ⟨bx, i, none⟩ (.pointer (some ⟨x, 0, none⟩))) := by
  have h' := h.grown k
  have hk : Keeps (fun n => n = bx) w' (w'.setCell ⟨bx, i, none⟩ (.pointer (some ⟨x, 0, none⟩))) := Keeps.of (grownBy_setCell w' ⟨bx, i, none⟩ _) (by rintro n e; cases e; exact Or.inl rfl)
  have hno : ∀ n c t f, w'.heap[n]? = some (.cells c t f) → t ≠ 61 → n ≠ bx := by
    rintro n c t f e ht rfl
    rw [h'.ax] at e; cases e; exact ht rfl
  have keepIx : ∀ {x2 bm2 : Nat} {S2 : List Rw}, IxAt w' x2 bm2 S2 → IxAt (w'.setCell ⟨bx, i, none⟩ (.pointer (some ⟨x, 0, none⟩))) x2 bm2 S2 := by
    intro x2 bm2 S2 h2
    refine h2.keep hk (hno _ _ _ _ h2.cell (by decide)) ?_
    rintro rfl
    obtain ⟨D2, ⟨es2, cl2, hb2, _⟩, _⟩ := h2.map
    rw [h'.ax] at hb2; cases hb2
  refine ⟨?_, ?_, ?_, ?_, ?_, h.injY, ?_, ?_⟩
  · have h1 := setCell_block (w := w') (a := ⟨bx, i, none⟩) (v := .pointer (some ⟨x, 0, none⟩)) h'.ax rfl
    rw [h1]
    congr 2
    rw [four_set _ _ _ hb]
    refine four_congr (fun a _ => ?_)
    unfold updF
    by_cases e : a = i
    · subst e; simp [ptr]
    · by_cases h2 : a < i
      · simp [e, h2, show a < i + 1 by omega]
      · simp [e, h2, show ¬ a < i + 1 by omega]
  · exact hk.at h'.ay (hno _ _ _ _ h'.ay (by decide))
  · intro a ha
    by_cases e : a = i
    · subst e; simp only [updF, if_true]; exact keepIx hi
    · simp only [updF, if_neg e]; exact keepIx (h'.ix a (by omega))
  · intro a ha
    refine (h'.rf a ha).keep hk ?_ ?_
    · obtain ⟨v2, hv2, _⟩ := h'.rf a ha
      exact hno _ _ _ _ hv2 (by decide)
    · rintro n rfl c f e2
      rw [h'.ax] at e2; cases e2
  · intro a b ha hb' hab
    have old : ∀ a, a < i → (X a).2 < w.heap.size := fun a ha => (h.ix a ha).lt
    by_cases e : a = i
    · subst e
      simp only [updF, if_true, if_neg (Ne.symm hab)]
      have := old b (by omega); omega
    · by_cases e2 : b = i
      · subst e2
        simp only [updF, if_true, if_neg e]
        have := old a (by omega); omega
      · simp only [updF, if_neg e, if_neg e2]; exact h.injX a b (by omega) (by omega) hab
  · exact h'.keep.then hk (fun n e => Or.inr (by have := h.low.1; omega))
  · refine ⟨h.low.1, h.low.2.1, fun a ha => ?_, h.low.2.2.2⟩
    by_cases e : a = i
    · subst e; simp only [updF, if_true]; have := h.keep.size; omega
    · simp only [updF, if_neg e]; exact h.low.2.2.1 a (by omega)
theorem Bg.setY {W : World} {bx by_ : Nat} {X : Nat → Nat × Nat} {Y : Nat → Nat} {i j : Nat} {w w' : World} (h : Bg W bx by_ X Y i j w) (k : Keeps (fun _ => False) w w') (hb : j < 4) {y : Nat} (hi : RefAt w' y []) (hy : w.heap.size ≤ y) :
    Bg W bx by_ X (updF Y j y) i (j + 1) (w'.setCell ⟨by_, j, none⟩ (.pointer (some ⟨y, 0, none⟩))) := by
  have h' := h.grown k
  have hk : Keeps (fun n => n = by_) w' (w'.setCell ⟨by_, j, none⟩ (.pointer (some ⟨y, 0, none⟩))) := Keeps.of (grownBy_setCell w' ⟨by_, j, none⟩ _) (by rintro n e; cases e; exact Or.inl rfl)
  have hno : ∀ n c t f, w'.heap[n]? = some (.cells c t f) → t ≠ 63 → n ≠ by_ := by
    rintro n c t f e ht rfl
    rw [h'.ay] at e; cases e; exact ht rfl
  have keepRf : ∀ {y2 : Nat} {S2 : List Rw}, RefAt w' y2 S2 → RefAt (w'.setCell ⟨by_, j, none⟩ (.pointer (some ⟨y, 0, none⟩))) y2 S2 := by
    intro y2 S2 h2
    refine h2.keep hk ?_ ?_
    · obtain ⟨v2, hv2, _⟩ := h2
      exact hno _ _ _ _ hv2 (by decide)
    · rintro n rfl c f e2
      rw [h'.ay] at e2; cases e2
  refine ⟨?_, ?_, ?_, ?_, h.injX, ?_, ?_, ?_⟩
  · exact hk.at h'.ax (hno _ _ _ _ h'.ax (by decide))
  · have h1 := setCell_block (w := w') (a := ⟨by_, j, none⟩) (v := .pointer (some ⟨y, 0, none⟩)) h'.ay rfl
    rw [h1]
    congr 2
    rw [four_set _ _ _ hb]
    refine four_congr (fun a _ => ?_)
    unfold updF
    by_cases e : a = j
    · subst e; simp [ptr]
    · by_cases h2 : a < j
      · simp [e, h2, show a < j + 1 by omega]
      · simp [e, h2, show ¬ a < j + 1 by omega]
  · intro a ha
    refine (h'.ix a ha).keep hk (hno _ _ _ _ (h'.ix a ha).cell (by decide)) ?_
    rintro e
    obtain ⟨D2, ⟨es2, cl2, hb2, _⟩, _⟩ := (h'.ix a ha).map
    rw [e, h'.ay] at hb2; cases hb2
  · intro a ha
    by_cases e : a = j
    · subst e; simp only [updF, if_true]; exact keepRf hi
    · simp only [updF, if_neg e]; exact keepRf (h'.rf a (by omega))
  · intro a b ha hb' hab
    have old : ∀ a, a < j → Y a < w.heap.size := fun a ha => by obtain ⟨v2, hv2, _⟩ := h.rf a ha; exact heap_lt hv2
    by_cases e : a = j
    · subst e
      simp only [updF, if_true, if_neg (Ne.symm hab)]
      have := old b (by omega); omega
    · by_cases e2 : b = j
      · subst e2
        simp only [updF, if_true, if_neg e]
        have := old a (by omega); omega
      · simp only [updF, if_neg e, if_neg e2]; exact h.injY a b (by omega) (by omega) hab
  · exact h'.keep.then hk (fun n e => Or.inr (by have := h.low.2.1; omega))
  · refine ⟨h.low.1, h.low.2.1, h.low.2.2.1, fun a ha => ?_⟩
    by_cases e : a = j
    · subst e; simp only [updF, if_true]; have := h.keep.size; omega
    · simp only [updF, if_neg e]; exact h.low.2.2.2 a (by omega)

theorem Bg.done {W : World} {bx by_ : Nat} {X : Nat → Nat × Nat} {Y : Nat → Nat} {w : World} (h : Bg W bx by_ X Y 4 4 w) : PS W bx by_ (fun a => ((X a).1, (X a).2, [])) (fun a => (Y a, [])) 0 w := by
  refine ⟨?_, ?_, h.ix, h.rf, fun a _ => ⟨Nat.le_refl _, Nat.le_refl _⟩, fun a b ha hb hab => ⟨h.injX a b ha hb hab, h.injY a b ha hb hab⟩, h.keep, h.low.1, h.low.2.1, fun a ha => ⟨h.low.2.2.1 a ha, h.low.2.2.2 a ha⟩⟩
  · rw [h.ax]; congr 2
  · rw [h.ay]; congr 2

end Go.Proofs.Ytendmohjodeelab
