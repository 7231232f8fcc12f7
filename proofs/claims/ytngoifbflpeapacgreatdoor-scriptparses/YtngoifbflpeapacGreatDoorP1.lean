import Derived.Test.YtngoifbflpeapacGreatDoorE1
namespace Go.Proofs.YtngoifbflpeapacGreatDoor
open Go.RowKit Go.Maps
set_option maxRecDepth 100000

/-! Numbers there and back. -/
theorem dig_nat {d : Nat} (h : d < 10) : (UInt8.ofNat (48 + d)).toNat = 48 + d := ofNat_small (by omega)
theorem parse_step (acc d : Nat) (r : Bs) (hd : d < 10) (h : acc * 10 + d ≤ 18446744073709551615) : Lib.parseUintM 18446744073709551615 acc (UInt8.ofNat (48 + d) :: r) = Lib.parseUintM 18446744073709551615 (acc * 10 + d) r := by
  rw [Lib.parseUintM, dig_nat hd, if_pos (by omega), if_neg (by omega), if_neg (by omega), show 48 + d - 48 = d by omega]
theorem parse_dec : ∀ (u : Nat) (r : Bs), u ≤ 18446744073709551615 → Lib.parseUintM 18446744073709551615 0 (Lib.decDigits u ++ r) = Lib.parseUintM 18446744073709551615 u r := by
  intro u
  induction u using Nat.strongRecOn with
  | ind u ih =>
    intro r hu
    rw [Lib.decDigits]
    split
    · rename_i h
      rw [List.singleton_append, parse_step 0 u r h (by omega)]
      simp
    · rename_i h
      rw [List.append_assoc, ih (u / 10) (by omega) _ (by omega), List.singleton_append, parse_step _ _ _ (by omega) (by omega), show u / 10 * 10 + u % 10 = u by omega]
theorem dec_head : ∀ (u : Nat), ∃ c r, Lib.decDigits u = c :: r ∧ 48 ≤ c.toNat ∧ c.toNat ≤ 57 := by
  intro u
  induction u using Nat.strongRecOn with
  | ind u ih =>
    rw [Lib.decDigits]
    split
    · rename_i h
      exact ⟨_, [], rfl, by rw [dig_nat h]; omega, by rw [dig_nat h]; omega⟩
    · rename_i h
      obtain ⟨c, r, e, h1, h2⟩ := ih (u / 10) (by omega)
      exact ⟨c, r ++ [UInt8.ofNat (48 + u % 10)], by rw [e]; rfl, h1, h2⟩
theorem parse_all (u : Nat) (hu : u ≤ 18446744073709551615) : Lib.parseUintB 64 (Lib.decDigits u) = .ok u := by
  obtain ⟨c, r, e, _⟩ := dec_head u
  unfold Lib.parseUintB
  rw [if_neg (by rw [e]; simp)]
  have := parse_dec u [] hu
  rw [List.append_nil] at this
  show Lib.parseUintM 18446744073709551615 0 _ = _
  rw [this, Lib.parseUintM]
theorem parse_itoa (n : Int) (h0 : -9223372036854775808 ≤ n) (h1 : n ≤ 9223372036854775807) : Lib.parseIntB 64 (Lib.itoa n) = .ok n := by
  unfold Lib.itoa
  split
  · rename_i hn
    have hp := parse_all n.natAbs (by omega)
    unfold Lib.parseIntB
    simp only [show (45 : UInt8).toNat = 45 from rfl]
    rw [if_pos (Or.inr trivial), hp]
    simp only
    rw [if_neg (by simp), if_neg (by omega), if_pos trivial]
    congr 1
    omega
  · rename_i hn
    have hp := parse_all n.toNat (by omega)
    obtain ⟨c, r, e, hc1, hc2⟩ := dec_head n.toNat
    rw [e] at hp ⊢
    unfold Lib.parseIntB
    simp only
    rw [if_neg (by omega), hp]
    simp only
    rw [if_neg (by omega), if_neg (by omega), if_neg (by omega)]
    congr 1
    omega
theorem num_itoa (n : Int) (h0 : -9223372036854775808 ≤ n) (h1 : n ≤ 9223372036854775807) : num (Lib.itoa n) = some n := by
  unfold num
  rw [parse_itoa n h0 h1]
  simp
/-- What a number's word holds: digits, and a minus sign ahead. -/
theorem dec_bytes : ∀ (u : Nat) (c : UInt8), c ∈ Lib.decDigits u → 48 ≤ c.toNat ∧ c.toNat ≤ 57 := by
  intro u
  induction u using Nat.strongRecOn with
  | ind u ih =>
    intro c hc
    rw [Lib.decDigits] at hc
    split at hc
    · rename_i h
      have : c = UInt8.ofNat (48 + u) := by simpa using hc
      rw [this, dig_nat h]; omega
    · rename_i h
      rcases List.mem_append.1 hc with hc | hc
      · exact ih (u / 10) (by omega) c hc
      · have : c = UInt8.ofNat (48 + u % 10) := by simpa using hc
        rw [this, dig_nat (by omega)]; omega
theorem itoa_bytes {n : Int} {c : UInt8} (h : c ∈ Lib.itoa n) : c ≠ 32 ∧ c ≠ 34 := by
  have key : c = 45 ∨ (48 ≤ c.toNat ∧ c.toNat ≤ 57) := by
    unfold Lib.itoa at h
    split at h
    · rcases List.mem_cons.1 h with h | h
      · exact Or.inl h
      · exact Or.inr (dec_bytes _ c h)
    · exact Or.inr (dec_bytes _ c h)
  rcases key with rfl | ⟨h1, h2⟩
  · exact ⟨by decide, by decide⟩
  · exact ⟨by rintro rfl; exact absurd h1 (by decide), by rintro rfl; exact absurd h1 (by decide)⟩
theorem itoa_ne (n : Int) : Lib.itoa n ≠ [] := by
  unfold Lib.itoa
  split
  · simp
  · obtain ⟨c, r, e, _⟩ := dec_head n.toNat
    rw [e]; simp
end Go.Proofs.YtngoifbflpeapacGreatDoor

