import Derived.Test.YtfiekdgpdboolaaB1
namespace Go.Proofs.Ytfiekdgpdboolaa
open Go.RowKit Go.Maps

theorem gsum_mod (n : Nat) (k : Nat) : gsum (byteOf (n : Int)) k = ((n % 256 ^ k : Nat) : Int) := by
  induction k with
  | zero => simp [gsum, Nat.mod_one]
  | succ k ih =>
    simp only [gsum, ih, byteOf]
    rw [← pow_256_2, Nat.pow_succ, Nat.mod_mul]
    simp only [Int.natCast_add, Int.natCast_mul, Int.natCast_emod, Int.natCast_ediv, Int.natCast_pow, Int.cast_ofNat_Int]
    rw [Int.mul_comm]

theorem gsum_bytes {v : Int} (h : 0 ≤ v ∧ v < 18446744073709551616) : gsum (byteOf v) 8 = v := by
  obtain ⟨n, rfl⟩ := Int.eq_ofNat_of_zero_le h.1
  rw [gsum_mod]
  have e : (256 : Nat) ^ 8 = 18446744073709551616 := by decide
  have h2 := h.2
  have this : n < 256 ^ 8 := by rw [e]; omega
  rw [Nat.mod_eq_of_lt this]

theorem gsum_congr {f g : Nat → Int} {k : Nat} (h : ∀ i, i < k → f i = g i) : gsum f k = gsum g k := by
  induction k with
  | zero => rfl
  | succ k ih => simp only [gsum]; rw [ih fun i hi => h i (by omega), h k (by omega)]

/-- The word of the eight bytes from place a on. -/
def wordAt (bs : List Int) (a : Nat) : Int := gsum (fun i => bs.getD (a + i) 0) 8

theorem wordAt_same (bs : List Int) (a : Nat) {v : Int} (h : a + 8 ≤ bs.length) (hv : 0 ≤ v ∧ v < 18446744073709551616) : wordAt (layB bs a v) a = v := by
  rw [← gsum_bytes hv]
  unfold wordAt
  rw [gsum_bytes hv]
  conv => rhs; rw [← gsum_bytes hv]
  apply gsum_congr
  intro i hi
  rw [layB_get _ _ _ _ h, if_pos (by omega)]
  congr 1; omega

theorem wordAt_other (bs : List Int) (a b : Nat) (v : Int) (h : a + 8 ≤ bs.length) (hab : a + 8 ≤ b ∨ b + 8 ≤ a) : wordAt (layB bs a v) b = wordAt bs b := by
  apply gsum_congr
  intro i hi
  rw [layB_get _ _ _ _ h, if_neg (by omega)]

theorem wordAt_bd (bs : List Int) (a : Nat) (h : ∀ b ∈ bs, 0 ≤ b ∧ b ≤ 255) : 0 ≤ wordAt bs a ∧ wordAt bs a < 18446744073709551616 := by
  have := gsum_bd (fun i => bs.getD (a + i) 0) 8 (fun j _ => by
    simp only [List.getD_eq_getElem?_getD]
    rcases hb : bs[a + j]? with _ | b
    · simp
    · exact h b (List.mem_of_getElem? hb))
  exact this

/-- The sum from the highest byte down. -/
def hsum (f : Nat → Int) : Nat → Int
  | 0 => 0
  | m + 1 => hsum f m * 256 + f (7 - m)

theorem hsum_all (f : Nat → Int) : hsum f 8 = gsum f 8 := by
  simp [hsum, gsum]; omega

theorem hsum_bd (f : Nat → Int) (hf : ∀ j, 0 ≤ f j ∧ f j ≤ 255) (m : Nat) : 0 ≤ hsum f m ∧ hsum f m < 256 ^ m := by
  induction m with
  | zero => simp [hsum]
  | succ m ih =>
    have := hf (7 - m)
    simp only [hsum]
    rw [Int.pow_succ]
    omega

theorem pow_le7 {k : Nat} (hk : k < 8) : (256 : Int) ^ k ≤ 72057594037927936 := by
  have := pow_le8 hk; omega

set_option maxHeartbeats 400000 in
theorem at8_any (g n at_ : Nat) (bs : List Int) (w : World) (hc : ∀ i, i < n → w.cell? ⟨g, i, none⟩ = some (.int .u8 (bs.getD i 0))) (hb : ∀ b ∈ bs, 0 ≤ b ∧ b ≤ 255) (hn : at_ + 8 ≤ n) (hn' : n ≤ 1000000) :
    Calls Try.prog 15 #[.slice (some ⟨g, 0, none⟩) n n, .int .i64 at_] w fun e w' => e = .returned (.tuple #[.int .u64 (wordAt bs at_), .bool true]) ∧ w' = w := by
  have hfb : ∀ j, 0 ≤ bs.getD (at_ + j) 0 ∧ bs.getD (at_ + j) 0 ≤ 255 := fun j => by
    simp only [List.getD_eq_getElem?_getD]
    rcases hbb : bs[at_ + j]? with _ | b
    · simp
    · exact hb b (List.mem_of_getElem? hbb)
  have HFB : Hid (∀ j, 0 ≤ bs.getD (at_ + j) 0 ∧ bs.getD (at_ + j) 0 ≤ 255) := hfb
  have HB := hb
  have HC : Hid (∀ i, i < n → w.cell? ⟨g, i, none⟩ = some (.int .u8 (bs.getD i 0))) := hc
  clear hfb hb hc
  have a1 : ¬ (at_ : Int) < 0 := by omega
  have a2 : ¬ (n : Int) < (at_ : Int) + 8 := by omega
  clear HB
  go_enter Try.func15, Try.ntmps15
  go_wp2
  go_loop [6, 7] (fun v i => ∃ m : Nat, m ≤ 8 ∧ i = .int .i64 (7 - (m : Int)) ∧ v = .int .u64 (hsum (fun i => bs.getD (at_ + i) 0) m)) (fun _ i => (intOf i + 1).toNat)
  case atStart => exact ⟨0, by omega, rfl, rfl⟩
  case round =>
    obtain ⟨m, hm, rfl, rfl⟩ := hrel
    by_cases hlt : m < 8
    · obtain ⟨i, hi⟩ : ∃ i : Nat, i + m = 7 := ⟨7 - m, by omega⟩
      have e1 : (7 : Int) - m = (i : Int) := by omega
      rw [e1]
      have hbd := hsum_bd (fun i => bs.getD (at_ + i) 0) HFB.out m
      have hp := pow_le7 hlt
      have hcc := HC.out (at_ + i) (by omega)
      have hff := HFB.out i
      have HST : Hid (hsum (fun i => bs.getD (at_ + i) 0) (m + 1) = hsum (fun i => bs.getD (at_ + i) 0) m * 256 + bs.getD (at_ + i) 0) := by
        simp only [Hid, hsum]; rw [show 7 - m = i by omega]
      generalize hX : hsum (fun i => bs.getD (at_ + i) 0) m = X at *
      generalize hY : bs.getD (at_ + i) 0 = Y at *
      have b1 : 0 ≤ X := hbd.1
      have b2 : X ≤ 72057594037927935 := by omega
      have b3 := hff.1
      have b4 := hff.2
      have HM : Hid (i + m = 7) := hi
      have b5 : (at_ : Int) + (i : Int) < (n : Int) := by omega
      have b6 : at_ + i < n := by omega
      clear hbd hp hff hX hY e1 hi
      go_wp2
      go_round
      case rel =>
        refine ⟨m + 1, by omega, ?_, ?_⟩
        · have := HM.out
          congr 1; omega
        · rw [HST.out]
      case measure => simp [intOf]
    · obtain rfl : m = 8 := by omega
      go_wp2
      go_ret2
      refine ⟨?_, rfl⟩
      rw [wordAt, ← hsum_all]
      rfl

end Go.Proofs.Ytfiekdgpdboolaa
