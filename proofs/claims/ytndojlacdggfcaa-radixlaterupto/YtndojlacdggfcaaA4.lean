import Derived.Test.YtndojlacdggfcaaA3
namespace Go.Proofs.Ytndojlacdggfcaa
open Go.RowKit

def setq (q : Nat → Option Addr) (i : Nat) (p : Option Addr) : Nat → Option Addr := fun j => if j = i then p else q j

theorem set_node {W : World} {b : Nat} {q : Nat → Option Addr} {u : Nat → Int} (h : NodeAt W b q u) (i : Nat) (hi : i < 8) (p : Option Addr) (v : Int) :
    NodeAt ((W.setCell ⟨b, i * 2, none⟩ (.pointer p)).setCell ⟨b, i * 2 + 1, none⟩ (.int .i64 v)) b (setq q i p) (upd u i v) := by
  have h1 := setCell_block (a := ⟨b, i * 2, none⟩) (v := .pointer p) h rfl
  have h2 := setCell_block (a := ⟨b, i * 2 + 1, none⟩) (v := .int .i64 v) h1 rfl
  refine h2.trans ?_
  have : i = 0 ∨ i = 1 ∨ i = 2 ∨ i = 3 ∨ i = 4 ∨ i = 5 ∨ i = 6 ∨ i = 7 := by omega
  rcases this with rfl | rfl | rfl | rfl | rfl | rfl | rfl | rfl <;> simp [ncells, setq, upd]
theorem set_keeps (W : World) (b i j : Nat) (x y : Value) : Keeps (fun c => c = b) W ((W.setCell ⟨b, i, none⟩ x).setCell ⟨b, j, none⟩ y) :=
  (Keeps.of (grownBy_setCell W ⟨b, i, none⟩ x) (by rintro k hk; cases hk; exact .inl rfl)).step (grownBy_setCell _ ⟨b, j, none⟩ y) (by rintro k hk; cases hk; exact .inl rfl)
theorem set2b {w : World} {R : Nat} {a b : Value} {t : TypeId} (h : w.heap[R]? = some (.cells #[a, b] t (0, 0))) (x y : Value) :
    ((w.setCell ⟨R, 0, none⟩ x).setCell ⟨R, 1, none⟩ y).heap[R]? = some (.cells #[x, y] t (0, 0)) := by
  have h1 := setCell_block (a := ⟨R, 0, none⟩) (v := x) h rfl
  have h2 := setCell_block (a := ⟨R, 1, none⟩) (v := y) h1 rfl
  simpa using h2

/-- off in steps of 8 ^ k. -/
theorem dv (k off : Nat) (hk : k + 1 ≤ 3) (ho : off < 8 ^ (k + 1)) : ∃ R R8 i m : Nat, 8 ^ k = R ∧ 8 ^ (k + 1) = R8 ∧ (R8 : Int).tdiv 8 = (R : Int) ∧ (off : Int).tdiv (R : Int) = (i : Int) ∧ (off : Int).tmod (R : Int) = (m : Int) ∧
    i < 8 ∧ m < R ∧ i * R + m = off ∧ 1 ≤ R ∧ R ≤ 512 ∧ R8 = R * 8 := by
  have hp0 := pow_le k (by omega)
  have hd := pow_div k
  have hR1 : 1 ≤ 8 ^ k := Nat.pow_pos (by decide)
  refine ⟨8 ^ k, 8 ^ (k + 1), off / 8 ^ k, off % 8 ^ k, rfl, rfl, hd, ?_, ?_, ?_, Nat.mod_lt _ hR1, Nat.div_add_mod' _ _, hR1, hp0, Nat.pow_succ _ _⟩
  · rw [Int.tdiv_eq_ediv_of_nonneg (by omega)]; rfl
  · rw [Int.tmod_eq_emod_of_nonneg (by omega)]; rfl
  · rw [Nat.div_lt_iff_lt_mul hR1]; rw [Nat.pow_succ] at ho; omega

/-- A node whose child i has been set anew. -/
theorem slot_set {w6 : World} {X : Nat → Prop} {k R : Nat} {q : Nat → Option Addr} {u f : Nat → Int} {i m : Nat} {x : Int} {p' : Option Addr} {v' : Int} (hR : 8 ^ k = R) (hi : i < 8) (hm : m < R)
    (hs : ∀ j, j < 8 → SlotAt w6 X k (q j) (u j) (fun o => f (j * R + o))) (h' : SlotAt w6 X k p' v' (upd (fun o => f (i * R + o)) m x)) :
    ∀ j, j < 8 → SlotAt w6 X k (setq q i p' j) (upd u i v' j) (fun o => upd f (i * R + m) x (j * 8 ^ k + o)) := by
  intro j hj
  rw [hR]
  by_cases hji : j = i
  · subst hji
    simp only [setq, upd, if_pos]
    refine h'.congr fun o _ => ?_
    simp only [upd]
    by_cases h : o = m
    · simp [h]
    · rw [if_neg h, if_neg (by omega)]
  · simp only [setq, upd, if_neg hji]
    refine (hs j hj).congr fun o ho => ?_
    rw [hR] at ho
    rw [if_neg]
    intro e
    rcases Nat.lt_or_gt_of_ne hji with h | h
    · have := Nat.mul_le_mul_right R (show j + 1 ≤ i from h); rw [Nat.add_mul] at this; omega
    · have := Nat.mul_le_mul_right R (show i + 1 ≤ j from h); rw [Nat.add_mul] at this; omega

/-- What over makes of a node is a slot one level up. -/
theorem slot_over {W : World} {X : Nat → Prop} {k : Nat} {q : Nat → Option Addr} {u f : Nat → Int} {p : Option Addr} (hx : ∀ b, p = some ⟨b, 0, none⟩ → X b)
    (h : (p = none ∧ ∀ i, i < 8 → q i = none ∧ u i = 0) ∨ ∃ b, p = some ⟨b, 0, none⟩ ∧ NodeAt W b q u) (hs : ∀ j, j < 8 → SlotAt W X k (q j) (u j) (fun o => f (j * 8 ^ k + o))) : SlotAt W X (k + 1) p 0 f := by
  refine ⟨rfl, ?_⟩
  rcases h with ⟨rfl, hz⟩ | ⟨b, rfl, hn⟩
  · refine .inl ⟨rfl, fun o ho => ?_⟩
    have hR1 : 1 ≤ 8 ^ k := Nat.pow_pos (by decide)
    have hi : o / 8 ^ k < 8 := by rw [Nat.div_lt_iff_lt_mul hR1]; rw [Nat.pow_succ] at ho; omega
    have h1 := hs _ hi
    rw [(hz _ hi).1, (hz _ hi).2] at h1
    have := h1.zero (o % 8 ^ k) (Nat.mod_lt _ hR1)
    rwa [Nat.div_add_mod'] at this
  · exact .inr ⟨b, q, u, rfl, hx b rfl, hn, hs⟩

end Go.Proofs.Ytndojlacdggfcaa
