import Derived.Test.YtngoifbflpeapacGreatDoorC3
namespace Go.Proofs.YtngoifbflpeapacGreatDoor
open Go.RowKit Go.Maps
set_option maxRecDepth 100000

/-! A line's words, by themselves. -/
structure Wd where
  text : ByteArray
  quoted : Bool
/-- How many bytes stand ahead of the first one that is c. -/
def upto (c : UInt8) (t : Bs) : Nat := (t.takeWhile (· != c)).length
theorem upto_le (c : UInt8) (t : Bs) : upto c t ≤ t.length := by
  unfold upto
  exact (List.takeWhile_sublist _).length_le
theorem upto_cons {c b : UInt8} {t : Bs} (h : b ≠ c) : upto c (b :: t) = upto c t + 1 := by
  unfold upto
  rw [List.takeWhile_cons, if_pos (by simpa using h)]; rfl
/-- The first word, and how many bytes it takes; 0: its quotes are wrong. -/
def fwP (t : Bs) : Wd × Nat := if (t.take (upto 32 t)).all (· != 34) = true then (⟨mkB (t.take (upto 32 t)), false⟩, upto 32 t) else (⟨⟨#[]⟩, false⟩, 0)
def fwQ (t : Bs) : Wd × Nat := match uq t with
  | none => (⟨⟨#[]⟩, false⟩, 0)
  | some (a, n) => if n < t.length ∧ t.getD n 0 ≠ 32 then (⟨⟨#[]⟩, false⟩, 0) else (⟨mkB a, true⟩, n)
def fw (t : Bs) : Wd × Nat := if t.getD 0 0 = 34 then fwQ t else fwP t
theorem unq_le : ∀ (n : Nat) (t acc : Bs) (k : Nat), t.length ≤ n → ∀ a m, unq acc k t = some (a, m) → m ≤ k + t.length ∧ k < m := by
  intro n
  induction n with
  | zero =>
    intro t acc k h a m e
    have : t = [] := List.length_eq_zero_iff.1 (by omega)
    subst this
    rw [unq_nil] at e; cases e
  | succ n ih =>
    intro t acc k h a m e
    match t with
    | [] => rw [unq_nil] at e; cases e
    | b :: r =>
      rw [List.length_cons] at h
      by_cases h34 : b = 34
      · subst h34
        rw [unq_end] at e
        cases e
        rw [List.length_cons]; omega
      · by_cases h92 : b = 92
        · subst h92
          by_cases hm : (mnt r).2 = 0
          · rw [unq_bad _ _ _ hm] at e; cases e
          · rw [unq_esc _ _ _ hm] at e
            have hle := mnt_le r
            have := ih (r.drop (mnt r).2) _ _ (by rw [List.length_drop]; omega) a m e
            rw [List.length_drop] at this
            rw [List.length_cons]; omega
        · cases hp : prt b with
          | true =>
            rw [unq_prt _ _ _ _ h34 h92 hp] at e
            have := ih r _ _ (by omega) a m e
            rw [List.length_cons]; omega
          | false => rw [unq_not _ _ _ _ h34 h92 hp] at e; cases e
theorem uq_le {t a : Bs} {m : Nat} (h : uq t = some (a, m)) : m ≤ t.length ∧ 0 < m := by
  match t with
  | [] => cases h
  | b :: r =>
    have e : (if b = 34 then unq [] 1 r else none) = some (a, m) := h
    by_cases hb : b = 34
    · rw [if_pos hb] at e
      have := unq_le r.length r [] 1 (Nat.le_refl _) a m e
      rw [List.length_cons]; omega
    · rw [if_neg hb] at e; cases e
theorem fw_le (t : Bs) : (fw t).2 ≤ t.length := by
  unfold fw
  split
  · unfold fwQ
    split
    · exact Nat.zero_le _
    · rename_i a n h
      split
      · exact Nat.zero_le _
      · exact (uq_le h).1
  · unfold fwP
    split
    · exact upto_le _ _
    · exact Nat.zero_le _
def wds (acc : List Wd) (t : Bs) : Option (List Wd) :=
  match t with
  | [] => some acc
  | b :: r => if b = 32 then wds acc r else if (fw (b :: r)).2 = 0 then none else wds (acc ++ [(fw (b :: r)).1]) ((b :: r).drop (fw (b :: r)).2)
termination_by t.length
decreasing_by
  · simp
  · rw [List.length_drop, List.length_cons]; omega
theorem wds_nil (acc : List Wd) : wds acc [] = some acc := by rw [wds]
theorem wds_blank (acc : List Wd) (r : Bs) : wds acc (32 :: r) = wds acc r := by rw [wds, if_pos rfl]
theorem wds_bad {acc : List Wd} {b : UInt8} {r : Bs} (h : b ≠ 32) (hf : (fw (b :: r)).2 = 0) : wds acc (b :: r) = none := by rw [wds, if_neg h, if_pos hf]
theorem wds_word {acc : List Wd} {b : UInt8} {r : Bs} (h : b ≠ 32) (hf : (fw (b :: r)).2 ≠ 0) : wds acc (b :: r) = wds (acc ++ [(fw (b :: r)).1]) ((b :: r).drop (fw (b :: r)).2) := by rw [wds, if_neg h, if_neg hf]
/-- What wordsOf's loop holds. -/
def WI (t : Bs) (k : Nat) (acc : List Wd) : Prop := k ≤ t.length ∧ acc.length ≤ k ∧ wds acc (t.drop k) = wds [] t
theorem WI.start (t : Bs) : WI t 0 [] := ⟨Nat.zero_le _, Nat.le_refl _, rfl⟩
theorem WI.fin {t : Bs} {k : Nat} {acc : List Wd} (h : WI t k acc) (hk : ¬ k < t.length) : wds [] t = some acc := by
  rw [← h.2.2, List.drop_of_length_le (by omega), wds_nil]
theorem WI.blank {t : Bs} {k : Nat} {acc : List Wd} (h : WI t k acc) (hk : k < t.length) (hb : t.getD k 0 = 32) : WI t (k + 1) acc := by
  refine ⟨by omega, by have := h.2.1; omega, ?_⟩
  rw [← h.2.2, drop_cons hk, hb, wds_blank]
theorem WI.bad {t : Bs} {k : Nat} {acc : List Wd} (h : WI t k acc) (hk : k < t.length) (hb : ¬ t.getD k 0 = 32) (hf : (fw (t.drop k)).2 = 0) : wds [] t = none := by
  have e := drop_cons hk
  rw [← h.2.2, e, wds_bad hb (by rw [← e]; exact hf)]
theorem WI.word {t : Bs} {k : Nat} {acc : List Wd} (h : WI t k acc) (hk : k < t.length) (hb : ¬ t.getD k 0 = 32) (hf : (fw (t.drop k)).2 ≠ 0) : WI t (k + (fw (t.drop k)).2) (acc ++ [(fw (t.drop k)).1]) := by
  have e := drop_cons hk
  have hle := fw_le (t.drop k)
  rw [List.length_drop] at hle
  refine ⟨by omega, by rw [List.length_append, List.length_singleton]; have := h.2.1; omega, ?_⟩
  have h2 := h.2.2
  rw [e, wds_word hb (by rw [← e]; exact hf), ← e, List.drop_drop] at h2
  exact h2
end Go.Proofs.YtngoifbflpeapacGreatDoor

