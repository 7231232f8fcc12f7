import Derived.Laws.BitsAllLaws
import Derived.Test.YtnafocbgapianabM1
namespace Go.Proofs.Ytnafocbgapianab
open Go

/-- A word of 64 marks. -/
def word (S : Nat → Bool) (k : Nat) : Nat := num (fun j => S (64 * k + j)) 64

/-- One mark turned. -/
def upd (S : Nat → Bool) (i : Nat) (b : Bool) : Nat → Bool := fun j => if j = i then b else S j

theorem upd_same (S : Nat → Bool) (i : Nat) (b : Bool) : upd S i b i = b := by simp [upd]
theorem upd_other {S : Nat → Bool} {i j : Nat} {b : Bool} (h : j ≠ i) : upd S i b j = S j := by simp [upd, h]

theorem word_lt (S : Nat → Bool) (k : Nat) : word S k < 18446744073709551616 := num_lt _ 64

theorem word_bit (S : Nat → Bool) (k j : Nat) : (word S k).testBit j = (decide (j < 64) && S (64 * k + j)) := num_bit _ 64 j

theorem word_has (S : Nat → Bool) (i : Nat) : word S (i / 64) &&& 2 ^ (i % 64) = (S i).toNat * 2 ^ (i % 64) := by
  have h := word_bit S (i / 64) (i % 64)
  rw [show 64 * (i / 64) + i % 64 = i by omega] at h
  have h2 : i % 64 < 64 := by omega
  rw [Go.nat_bit]
  congr 1
  simp only [h2, decide_true, Bool.true_and] at h
  rw [Nat.testBit_eq_decide_div_mod_eq] at h
  cases hs : S i <;> rw [hs] at h <;> simp at h ⊢ <;> omega

theorem word_set (S : Nat → Bool) (i : Nat) : word S (i / 64) ||| 2 ^ (i % 64) = word (upd S i true) (i / 64) := by
  apply Nat.eq_of_testBit_eq
  intro j
  rw [Nat.testBit_or, word_bit, word_bit, Nat.testBit_two_pow]
  by_cases hj : i % 64 = j
  · subst hj
    have h2 : i % 64 < 64 := by omega
    simp [upd, h2, show 64 * (i / 64) + i % 64 = i by omega]
  · have : 64 * (i / 64) + j = i → ¬ j < 64 := by omega
    by_cases h64 : j < 64
    · have h3 : 64 * (i / 64) + j ≠ i := fun h => this h h64
      simp [upd, h3, hj]
    · have : i % 64 ≠ j := by omega
      simp [h64, this]

theorem word_unset (S : Nat → Bool) (i : Nat) : word S (i / 64) &&& (18446744073709551615 - 2 ^ (i % 64)) = word (upd S i false) (i / 64) := by
  have hp : 2 ^ (i % 64) < 2 ^ 64 := Nat.pow_lt_pow_right (by omega) (by omega)
  have e : 18446744073709551615 - 2 ^ (i % 64) = 2 ^ 64 - (2 ^ (i % 64) + 1) := by omega
  rw [e]
  apply Nat.eq_of_testBit_eq
  intro j
  rw [Nat.testBit_and, word_bit, word_bit, Nat.testBit_two_pow_sub_succ hp, Nat.testBit_two_pow]
  by_cases hj : i % 64 = j
  · subst hj
    have h2 : i % 64 < 64 := by omega
    simp [upd, h2, show 64 * (i / 64) + i % 64 = i by omega]
  · by_cases h64 : j < 64
    · have h3 : 64 * (i / 64) + j ≠ i := by omega
      simp [upd, h3, hj, h64]
    · simp [h64]

theorem word_other {S : Nat → Bool} {i k : Nat} {b : Bool} (h : k ≠ i / 64) : word (upd S i b) k = word S k := by
  apply Nat.eq_of_testBit_eq
  intro j
  rw [word_bit, word_bit]
  by_cases h64 : j < 64
  · have : 64 * k + j ≠ i := by omega
    simp [upd, this]
  · simp [h64]

theorem word_cn (S : Nat → Bool) (k : Nat) : ones64 (word S k) = cn (fun j => S (64 * k + j)) 64 := (ones64_num _).1

theorem cn_words (S : Nat → Bool) (k : Nat) : cn S (64 * (k + 1)) = cn S (64 * k) + cn (fun j => S (64 * k + j)) 64 := by
  rw [show 64 * (k + 1) = 64 * k + 64 by omega, cn_add]

theorem cn_upd_lt {S : Nat → Bool} {i n : Nat} {b : Bool} (h : n ≤ i) : cn (upd S i b) n = cn S n :=
  cn_congr fun j hj => upd_other (by omega)

theorem cn_upd {S : Nat → Bool} {i n : Nat} {b : Bool} (h : i < n) : cn (upd S i b) n + (S i).toNat = cn S n + b.toNat := by
  induction n with
  | zero => omega
  | succ n ih =>
    rw [cn_succ, cn_succ]
    by_cases hi : i = n
    · subst hi
      rw [cn_upd_lt (Nat.le_refl _), upd_same]; omega
    · have := ih (by omega)
      rw [upd_other (by omega)]; omega

theorem cn_beyond {S : Nat → Bool} {n m : Nat} (h : ∀ i, S i = true → i < n) (hm : n ≤ m) : cn S m = cn S n := by
  obtain ⟨d, rfl⟩ : ∃ d, m = n + d := ⟨m - n, by omega⟩
  induction d with
  | zero => rfl
  | succ d ih =>
    rw [show n + (d + 1) = n + d + 1 by omega, cn_succ, ih (by omega)]
    cases hs : S (n + d) with
    | false => rfl
    | true => have := h _ hs; omega

theorem cn_mono {S : Nat → Bool} {n m : Nat} (h : n ≤ m) : cn S n ≤ cn S m := by
  obtain ⟨d, rfl⟩ : ∃ d, m = n + d := ⟨m - n, by omega⟩
  rw [cn_add]; omega

end Go.Proofs.Ytnafocbgapianab
