import Derived.Test.YtndojlacdggfcaaW3
namespace Go.Proofs.Ytndojlacdggfcaa
open Go.RowKit

theorem set_keeps3 (W : World) (b i j k : Nat) (x y z : Value) : Keeps (fun c => c = b) W (((W.setCell ⟨b, i, none⟩ x).setCell ⟨b, j, none⟩ y).setCell ⟨b, k, none⟩ z) :=
  (set_keeps W b i j x y).step (grownBy_setCell _ ⟨b, k, none⟩ z) (by rintro k hk; cases hk; exact .inl rfl)
theorem set3b {w : World} {R : Nat} {a b c : Value} {t : TypeId} (h : w.heap[R]? = some (.cells #[a, b, c] t (0, 0))) (x y z : Value) :
    (((w.setCell ⟨R, 0, none⟩ x).setCell ⟨R, 1, none⟩ y).setCell ⟨R, 2, none⟩ z).heap[R]? = some (.cells #[x, y, z] t (0, 0)) := by
  have h1 := setCell_block (a := ⟨R, 0, none⟩) (v := x) h rfl
  have h2 := setCell_block (a := ⟨R, 1, none⟩) (v := y) h1 rfl
  have h3 := setCell_block (a := ⟨R, 2, none⟩) (v := z) h2 rfl
  simpa using h3

theorem set_nodeP {W : World} {b : Nat} {q : Nat → Option Addr} {u : Nat → Sp} (h : NodeAtP W b q u) (i : Nat) (hi : i < 8) (p : Option Addr) (v : Sp) :
    NodeAtP (((W.setCell ⟨b, i * 3, none⟩ (.pointer p)).setCell ⟨b, i * 3 + 1, none⟩ (.int .i64 v.1)).setCell ⟨b, i * 3 + 2, none⟩ (.int .i64 v.2)) b (setq q i p) (updP u i v) := by
  have h1 := setCell_block (a := ⟨b, i * 3, none⟩) (v := .pointer p) h rfl
  have h2 := setCell_block (a := ⟨b, i * 3 + 1, none⟩) (v := .int .i64 v.1) h1 rfl
  have h3 := setCell_block (a := ⟨b, i * 3 + 2, none⟩) (v := .int .i64 v.2) h2 rfl
  refine h3.trans ?_
  have : i = 0 ∨ i = 1 ∨ i = 2 ∨ i = 3 ∨ i = 4 ∨ i = 5 ∨ i = 6 ∨ i = 7 := by omega
  rcases this with rfl | rfl | rfl | rfl | rfl | rfl | rfl | rfl <;> simp [ncellsP, setq, updP]
/-- A node whose child i has been set anew. -/
theorem slot_setP {w6 : World} {X : Nat → Prop} {k R : Nat} {q : Nat → Option Addr} {u f : Nat → Sp} {i m : Nat} {x : Sp} {p' : Option Addr} {v' : Sp} (hR : 8 ^ k = R) (hi : i < 8) (hm : m < R)
    (hs : ∀ j, j < 8 → SlotAtP w6 X k (q j) (u j) (fun o => f (j * R + o))) (h' : SlotAtP w6 X k p' v' (updP (fun o => f (i * R + o)) m x)) :
    ∀ j, j < 8 → SlotAtP w6 X k (setq q i p' j) (updP u i v' j) (fun o => updP f (i * R + m) x (j * 8 ^ k + o)) := by
  intro j hj
  rw [hR]
  by_cases hji : j = i
  · subst hji
    simp only [setq, updP, if_pos]
    refine h'.congr fun o _ => ?_
    simp only [updP]
    by_cases h : o = m
    · simp [h]
    · rw [if_neg h, if_neg (by omega)]
  · simp only [setq, updP, if_neg hji]
    refine (hs j hj).congr fun o ho => ?_
    rw [hR] at ho
    rw [if_neg]
    intro e
    rcases Nat.lt_or_gt_of_ne hji with h | h
    · have := Nat.mul_le_mul_right R (show j + 1 ≤ i from h); rw [Nat.add_mul] at this; omega
    · have := Nat.mul_le_mul_right R (show i + 1 ≤ j from h); rw [Nat.add_mul] at this; omega

/-- What over makes of a node is a slot one level up. -/
theorem slot_overP {W : World} {X : Nat → Prop} {k : Nat} {q : Nat → Option Addr} {u f : Nat → Sp} {p : Option Addr} (hx : ∀ b, p = some ⟨b, 0, none⟩ → X b)
    (h : (p = none ∧ ∀ i, i < 8 → q i = none ∧ u i = (0, 0)) ∨ ∃ b, p = some ⟨b, 0, none⟩ ∧ NodeAtP W b q u) (hs : ∀ j, j < 8 → SlotAtP W X k (q j) (u j) (fun o => f (j * 8 ^ k + o))) : SlotAtP W X (k + 1) p (0, 0) f := by
  refine ⟨rfl, ?_⟩
  rcases h with ⟨rfl, hz⟩ | ⟨b, rfl, hn⟩
  · refine .inl ⟨rfl, fun o ho => ?_⟩
    have hR1 : 1 ≤ 8 ^ k := Nat.pow_pos (by decide)
    have hi : o / 8 ^ k < 8 := by rw [Nat.div_lt_iff_lt_mul hR1]; rw [Nat.pow_succ] at ho; omega
    have h1 := hs _ hi
    rw [(hz _ hi).1, (hz _ hi).2] at h1
    have := h1.zero (o % 8 ^ k) (Nat.mod_lt _ hR1)
    rwa [Nat.div_add_mod'] at this
  · exact .inr ⟨b, q, u, rfl, hx b rfl, hn, hs⟩

end Go.Proofs.Ytndojlacdggfcaa
