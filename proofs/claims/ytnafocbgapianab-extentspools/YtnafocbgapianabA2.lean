import Derived.Test.YtnafocbgapianabA1
import Derived.Laws.Bits128
namespace Go.Proofs.Ytnafocbgapianab
open Go.RowKit

theorem mask85 : mask 85 8 = 6148914691236517205 := by decide
theorem mask51 : mask 51 8 = 3689348814741910323 := by decide
theorem mask15 : mask 15 8 = 1085102592571150095 := by decide

theorem div_cast (x m : Nat) : ((x : Int) / (m : Int)) = ((x / m : Nat) : Int) := rfl

theorem F1_raw (x : Nat) (hx : x < 18446744073709551616) : IntKind.u64.wrap (bits .and .u64 ((x : Int) / 2) 6148914691236517205 + bits .and .u64 (x : Int) 6148914691236517205) = (F1 8 x : Int) ∧ F1 8 x ≤ 12297829382473034410 := by
  have h1 := Go.u64_and_nat (x / 2) 6148914691236517205 (by omega) (by omega)
  have h2 := Go.u64_and_nat x 6148914691236517205 (by omega) (by omega)
  have b1 : x / 2 &&& 6148914691236517205 ≤ 6148914691236517205 := Nat.and_le_right
  have b2 : x &&& 6148914691236517205 ≤ 6148914691236517205 := Nat.and_le_right
  have e : ((x : Int) / 2) = ((x / 2 : Nat) : Int) := rfl
  unfold F1
  rw [mask85]
  refine ⟨?_, by omega⟩
  rw [e, show (6148914691236517205 : Int) = ((6148914691236517205 : Nat) : Int) from rfl, h1, h2, u64_id (by omega) (by omega)]
  omega

theorem F2_raw (x : Nat) (hx : x < 18446744073709551616) : IntKind.u64.wrap (bits .and .u64 ((x : Int) / 4) 3689348814741910323 + bits .and .u64 (x : Int) 3689348814741910323) = (F2 8 x : Int) ∧ F2 8 x ≤ 7378697629483820646 := by
  have h1 := Go.u64_and_nat (x / 4) 3689348814741910323 (by omega) (by omega)
  have h2 := Go.u64_and_nat x 3689348814741910323 (by omega) (by omega)
  have b1 : x / 4 &&& 3689348814741910323 ≤ 3689348814741910323 := Nat.and_le_right
  have b2 : x &&& 3689348814741910323 ≤ 3689348814741910323 := Nat.and_le_right
  have e : ((x : Int) / 4) = ((x / 4 : Nat) : Int) := rfl
  unfold F2
  rw [mask51]
  refine ⟨?_, by omega⟩
  rw [e, show (3689348814741910323 : Int) = ((3689348814741910323 : Nat) : Int) from rfl, h1, h2, u64_id (by omega) (by omega)]
  omega

theorem F3_raw (x : Nat) (hx : x ≤ 7378697629483820646) : bits .and .u64 ((x : Int) / 16 + (x : Int)) 1085102592571150095 = (F3 8 x : Int) ∧ F3 8 x ≤ 1085102592571150095 := by
  have h1 := Go.u64_and_nat (x / 16 + x) 1085102592571150095 (by omega) (by omega)
  have b1 : (x / 16 + x) &&& 1085102592571150095 ≤ 1085102592571150095 := Nat.and_le_right
  have e : ((x : Int) / 16 + (x : Int)) = ((x / 16 + x : Nat) : Int) := rfl
  unfold F3
  rw [mask15]
  refine ⟨?_, by omega⟩
  rw [e, show (1085102592571150095 : Int) = ((1085102592571150095 : Nat) : Int) from rfl, h1]

set_option maxHeartbeats 1000000 in
theorem ones_raw (x : Nat) (w : World) (hx : x < 18446744073709551616) :
    Calls Try.prog 68 #[.int .u64 x] w fun e w' => e = .returned (.int .i64 (ones64 x)) ∧ w' = w := by
  obtain ⟨e1, b1⟩ := F1_raw x hx
  obtain ⟨e2, b2⟩ := F2_raw (F1 8 x) (by omega)
  obtain ⟨e3, b3⟩ := F3_raw (F2 8 (F1 8 x)) b2
  have hv : ones64 x = ((F3 8 (F2 8 (F1 8 x)) + F3 8 (F2 8 (F1 8 x)) / 256) + (F3 8 (F2 8 (F1 8 x)) + F3 8 (F2 8 (F1 8 x)) / 256) / 65536 + ((F3 8 (F2 8 (F1 8 x)) + F3 8 (F2 8 (F1 8 x)) / 256) + (F3 8 (F2 8 (F1 8 x)) + F3 8 (F2 8 (F1 8 x)) / 256) / 65536) / 4294967296) % 128 := rfl
  go_enter Try.func68, Try.ntmps68
  go_wp2
  go_ret
  refine ⟨ret_int ?_, rfl⟩
  rw [hv]
  generalize F3 8 (F2 8 (F1 8 x)) = y at *
  clear e1 e2 e3 hv b1 b2
  rw [i64_and127]
  omega

set_option maxHeartbeats 1000000 in
theorem count_any (w : World) (d n : Nat) (S : Nat → Bool) (rest : List Value) (t : TypeId) (h : w.heap[d]? = some (mkObj n S rest t)) :
    Calls Try.prog 46 #[.pointer (some ⟨d, 0, none⟩)] w fun e w' => e = .returned (.int .i64 (cn S 1024)) ∧ w' = w := by
  have HH := Hid.mk' h
  clear h
  go_enter Try.func46, Try.ntmps46
  go_wp2
  go_loop [3, 5] (fun v i => ∃ k : Nat, k ≤ 16 ∧ i = .int .i64 k ∧ v = .int .i64 (cn S (64 * k))) (fun _ i => 16 - (intOf i).toNat)
  case atStart => exact ⟨0, by omega, rfl, rfl⟩
  case round =>
    obtain ⟨k, hk, rfl, rfl⟩ := hrel
    by_cases hlt : k < 16
    · have hc := mk_word HH.out k hlt
      have ho := fun w => ones_raw (word S k) w (word_lt S k)
      rw [word_cn] at ho
      have hs := cn_words S k
      have hl := cn_le S (64 * (k + 1))
      have hlt' : (k : Int) < 16 := by omega
      generalize cn (fun j => S (64 * k + j)) 64 = x at *
      go_wp2_with (first | (go_at_call 68; refine (ho _).mono ?_; rintro e w1 ⟨rfl, hw⟩; subst w1))
      go_round
      case rel => exact ⟨k + 1, by omega, by go_num, by rw [hs]; push_cast; rfl⟩
      case measure => simp [intOf]; omega
    · obtain rfl : k = 16 := by omega
      go_wp2
      go_ret
      exact ⟨rfl, rfl⟩

end Go.Proofs.Ytnafocbgapianab
