import Derived.Test.YtndojlacdggfcaaU3
namespace Go.Proofs.Ytndojlacdggfcaa
open Go.RowKit

theorem set_nodeS {W : World} {b : Nat} {q : Nat → Option Addr} {u : Nat → ByteArray} (h : NodeAtS W b q u) (i : Nat) (hi : i < 8) (p : Option Addr) (v : ByteArray) :
    NodeAtS ((W.setCell ⟨b, i * 2, none⟩ (.pointer p)).setCell ⟨b, i * 2 + 1, none⟩ (.string v)) b (setq q i p) (updS u i v) := by
  have h1 := setCell_block (a := ⟨b, i * 2, none⟩) (v := .pointer p) h rfl
  have h2 := setCell_block (a := ⟨b, i * 2 + 1, none⟩) (v := .string v) h1 rfl
  refine h2.trans ?_
  have : i = 0 ∨ i = 1 ∨ i = 2 ∨ i = 3 ∨ i = 4 ∨ i = 5 ∨ i = 6 ∨ i = 7 := by omega
  rcases this with rfl | rfl | rfl | rfl | rfl | rfl | rfl | rfl <;> simp [ncellsS, setq, updS]
/-- A node whose child i has been set anew. -/
theorem slot_setS {w6 : World} {X : Nat → Prop} {k R : Nat} {q : Nat → Option Addr} {u f : Nat → ByteArray} {i m : Nat} {x : ByteArray} {p' : Option Addr} {v' : ByteArray} (hR : 8 ^ k = R) (hi : i < 8) (hm : m < R)
    (hs : ∀ j, j < 8 → SlotAtS w6 X k (q j) (u j) (fun o => f (j * R + o))) (h' : SlotAtS w6 X k p' v' (updS (fun o => f (i * R + o)) m x)) :
    ∀ j, j < 8 → SlotAtS w6 X k (setq q i p' j) (updS u i v' j) (fun o => updS f (i * R + m) x (j * 8 ^ k + o)) := by
  intro j hj
  rw [hR]
  by_cases hji : j = i
  · subst hji
    simp only [setq, updS, if_pos]
    refine h'.congr fun o _ => ?_
    simp only [updS]
    by_cases h : o = m
    · simp [h]
    · rw [if_neg h, if_neg (by omega)]
  · simp only [setq, updS, if_neg hji]
    refine (hs j hj).congr fun o ho => ?_
    rw [hR] at ho
    rw [if_neg]
    intro e
    rcases Nat.lt_or_gt_of_ne hji with h | h
    · have := Nat.mul_le_mul_right R (show j + 1 ≤ i from h); rw [Nat.add_mul] at this; omega
    · have := Nat.mul_le_mul_right R (show i + 1 ≤ j from h); rw [Nat.add_mul] at this; omega

/-- What over makes of a node is a slot one level up. -/
theorem slot_overS {W : World} {X : Nat → Prop} {k : Nat} {q : Nat → Option Addr} {u f : Nat → ByteArray} {p : Option Addr} (hx : ∀ b, p = some ⟨b, 0, none⟩ → X b)
    (h : (p = none ∧ ∀ i, i < 8 → q i = none ∧ u i = ⟨#[]⟩) ∨ ∃ b, p = some ⟨b, 0, none⟩ ∧ NodeAtS W b q u) (hs : ∀ j, j < 8 → SlotAtS W X k (q j) (u j) (fun o => f (j * 8 ^ k + o))) : SlotAtS W X (k + 1) p ⟨#[]⟩ f := by
  refine ⟨rfl, ?_⟩
  rcases h with ⟨rfl, hz⟩ | ⟨b, rfl, hn⟩
  · refine .inl ⟨rfl, fun o ho => ?_⟩
    have hR1 : 1 ≤ 8 ^ k := Nat.pow_pos (by decide)
    have hi : o / 8 ^ k < 8 := by rw [Nat.div_lt_iff_lt_mul hR1]; rw [Nat.pow_succ] at ho; omega
    have h1 := hs _ hi
    rw [(hz _ hi).1, (hz _ hi).2] at h1
    have := h1.zero (o % 8 ^ k) (Nat.mod_lt _ hR1)
    rwa [Nat.div_add_mod'] at this
  · exact .inr ⟨b, q, u, rfl, hx b rfl, hn, hs⟩

end Go.Proofs.Ytndojlacdggfcaa
