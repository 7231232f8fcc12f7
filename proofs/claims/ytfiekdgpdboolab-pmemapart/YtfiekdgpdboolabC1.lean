import Derived.Test.YtfiekdgpdboolabB1
namespace Go.Proofs.Ytfiekdgpdboolab
open Go.RowKit Go.Maps

theorem gsum_mod (n : Nat) (k : Nat) : gsum (byteOf (n : Int)) k = ((n % 256 ^ k : Nat) : Int) := by
  induction k with
  | zero => simp [gsum, Nat.mod_one]
  | succ k ih =>
    simp only [gsum, ih, byteOf]
    rw [← pow_256_2, Nat.pow_succ, Nat.mod_mul]
    simp only [Int.natCast_add, Int.natCast_mul, Int.natCast_emod, Int.natCast_ediv, Int.natCast_pow, Int.cast_ofNat_Int]
    rw [Int.mul_comm]

theorem gsum_bytes {v : Int} (h : 0 ≤ v ∧ v < 18446744073709551616) : gsum (byteOf v) 8 = v := by
  obtain ⟨n, rfl⟩ := Int.eq_ofNat_of_zero_le h.1
  rw [gsum_mod]
  have e : (256 : Nat) ^ 8 = 18446744073709551616 := by decide
  have h2 := h.2
  have this : n < 256 ^ 8 := by rw [e]; omega
  rw [Nat.mod_eq_of_lt this]

theorem gsum_congr {f g : Nat → Int} {k : Nat} (h : ∀ i, i < k → f i = g i) : gsum f k = gsum g k := by
  induction k with
  | zero => rfl
  | succ k ih => simp only [gsum]; rw [ih fun i hi => h i (by omega), h k (by omega)]

/-- The word of the eight bytes from place a on. -/
def wordAt (bs : List Int) (a : Nat) : Int := gsum (fun i => bs.getD (a + i) 0) 8

theorem wordAt_same (bs : List Int) (a : Nat) {v : Int} (h : a + 8 ≤ bs.length) (hv : 0 ≤ v ∧ v < 18446744073709551616) : wordAt (layB bs a v) a = v := by
  rw [← gsum_bytes hv]
  unfold wordAt
  rw [gsum_bytes hv]
  conv => rhs; rw [← gsum_bytes hv]
  apply gsum_congr
  intro i hi
  rw [layB_get _ _ _ _ h, if_pos (by omega)]
  congr 1; omega

theorem wordAt_other (bs : List Int) (a b : Nat) (v : Int) (h : a + 8 ≤ bs.length) (hab : a + 8 ≤ b ∨ b + 8 ≤ a) : wordAt (layB bs a v) b = wordAt bs b := by
  apply gsum_congr
  intro i hi
  rw [layB_get _ _ _ _ h, if_neg (by omega)]

theorem wordAt_bd (bs : List Int) (a : Nat) (h : ∀ b ∈ bs, 0 ≤ b ∧ b ≤ 255) : 0 ≤ wordAt bs a ∧ wordAt bs a < 18446744073709551616 := by
  have := gsum_bd (fun i => bs.getD (a + i) 0) 8 (fun j _ => by
    simp only [List.getD_eq_getElem?_getD]
    rcases hb : bs[a + j]? with _ | b
    · simp
    · exact h b (List.mem_of_getElem? hb))
  exact this

/-- The sum from the highest byte down. -/
def hsum (f : Nat → Int) : Nat → Int
  | 0 => 0
  | m + 1 => hsum f m * 256 + f (7 - m)

theorem hsum_all (f : Nat → Int) : hsum f 8 = gsum f 8 := by
  simp [hsum, gsum]; omega

theorem hsum_bd (f : Nat → Int) (hf : ∀ j, 0 ≤ f j ∧ f j ≤ 255) (m : Nat) : 0 ≤ hsum f m ∧ hsum f m < 256 ^ m := by
  induction m with
  | zero => simp [hsum]
  | succ m ih =>
    have := hf (7 - m)
    simp only [hsum]
    rw [Int.pow_succ]
    omega

theorem pow_le7 {k : Nat} (hk : k < 8) : (256 : Int) ^ k ≤ 72057594037927936 := by
  have := pow_le8 hk; omega

end Go.Proofs.Ytfiekdgpdboolab
