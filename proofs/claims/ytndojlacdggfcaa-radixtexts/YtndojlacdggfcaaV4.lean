import Derived.Test.YtndojlacdggfcaaV3
import Derived.Laws.Strings
import Derived.Laws.BytesArg
import Derived.Laws.Concat
namespace Go.Proofs.Ytndojlacdggfcaa
open Go.RowKit

/-- A number's digits, behind a text. -/
def dgt (v : Int) : Int := 48 + ((v.tmod 10).natAbs : Int)
def txL : Nat → Int → ByteArray → ByteArray
  | 0, _, s => s
  | n + 1, v, s => if v = 0 then s else txL n (v.tdiv 10) (s ++ strOfNums [dgt v])
def TX (v : Int) : ByteArray := if v = 0 then ⟨#[]⟩ else txL 20 v (if v < 0 then ⟨#[121]⟩ else ⟨#[120]⟩)
theorem TX_zero : TX 0 = ⟨#[]⟩ := rfl
theorem txL_zero (k : Nat) (s : ByteArray) : txL k 0 s = s := by cases k <;> simp [txL]
theorem txL_size : ∀ (n : Nat) (v : Int) (s : ByteArray), s.size ≤ (txL n v s).size
  | 0, _, _ => Nat.le_refl _
  | n + 1, v, s => by
    unfold txL
    split
    · exact Nat.le_refl _
    · refine Nat.le_trans ?_ (txL_size n _ _)
      rw [ByteArray.size_append]; omega
theorem TX_no {v : Int} (h : ¬ v = 0) : ¬ TX v = ⟨#[]⟩ := by
  intro e
  have h2 := txL_size 20 v (if v < 0 then ⟨#[121]⟩ else ⟨#[120]⟩)
  rw [TX, if_neg h] at e
  rw [e] at h2
  have h3 : (if v < 0 then (⟨#[121]⟩ : ByteArray) else ⟨#[120]⟩).size = 1 := by split <;> rfl
  rw [h3] at h2
  simp [ByteArray.size] at h2

theorem conv_one (W : World) (X : Int) : (convert 94 9 (.slice (some ⟨W.heap.size, 0, none⟩) 1 1)).run Try.prog (W.alloc (.cells #[.int .u8 X] 5)) = .ok (.string (strOfNums [X])) (W.alloc (.cells #[.int .u8 X] 5)) := by
  refine run_convert_bytes_arg (P := Try.prog) (W.alloc (.cells #[.int .u8 X] 5)) 94 5 Try.underlying94 Try.underlying5 W.heap.size 0 1 1 [X] rfl (fun i hi => ?_) 9 Try.underlying9
  obtain rfl : i = 0 := by omega
  exact (Boxed.new W 5 (.int .u8 X)).cell
theorem txL_next {k : Nat} {v : Int} {s : ByteArray} {X : Int} (h : ¬ v = 0) (hX : dgt v = X) : txL (k + 1) v s = txL k (v.tdiv 10) (s ++ strOfNums [X]) := by
  rw [txL, if_neg h, hX]

set_option maxRecDepth 100000 in
set_option maxHeartbeats 2000000 in
theorem text_any (w : World) (v : Int) (hv : -9223372036854775808 ≤ v ∧ v ≤ 9223372036854775807) :
    Calls Try.prog 25 #[.int .i64 v] w fun e w' => e = .returned (.string (TX v)) ∧ Keeps (fun _ => False) w w' := by
  by_cases h0 : v = 0
  · subst h0
    go_enter Try.func25, Try.ntmps25
    go_wp2
    go_ret
    exact ⟨rfl, Keeps.refl _ _⟩
  · have h0b : (v == 0) = false := by simpa using h0
    have hvn : v.natAbs < 10 ^ 20 := by omega
    have HT := Hid.mk' (show TX v = txL 20 v (if v < 0 then ⟨#[121]⟩ else ⟨#[120]⟩) by rw [TX, if_neg h0])
    by_cases hn : v < 0
    · have hn' : v < 0 := hn
      go_enter Try.func25, Try.ntmps25
      go_wp2
      go_loopw [0, 3, 4] (fun v' s _ wr => ∃ (v'' : Int) (s' : ByteArray) (k : Nat), v' = .int .i64 v'' ∧ s = .string s' ∧ (-9223372036854775808 ≤ v'' ∧ v'' ≤ 9223372036854775807) ∧ v''.natAbs < 10 ^ k ∧ s'.size + k ≤ 21 ∧ Hid (txL k v'' s' = TX v ∧ Keeps (fun _ => False) w wr)) (fun v' _ _ _ => (intOf v').natAbs)
      case atStart => exact ⟨v, _, 20, rfl, rfl, hv, hvn, by decide, by rw [HT.out, if_pos hn], Keeps.refl _ _⟩
      case round =>
        obtain ⟨v', s', k, rfl, rfl, hvb, hvk, hsk, H1⟩ := hrel
        by_cases hz : v' = 0
        · subst hz
          have HE := Hid.mk' (show s' = TX v by rw [← H1.out.1, txL_zero])
          go_wp2
          go_ret
          exact ⟨ret_string HE.out, H1.out.2⟩
        · have hzb : (v' == 0) = false := by simpa using hz
          have hzc : (v' != 0) = true := by simpa using hz
          obtain ⟨k', rfl⟩ : ∃ k', k = k' + 1 := by
            cases k with
            | zero => simp at hvk; exact absurd hvk hz
            | succ k' => exact ⟨k', rfl⟩
          have hr1 := Int.emod_eq_tmod (a := v') (b := 10)
          have hr2 := Int.emod_lt_of_pos v' (show (0 : Int) < 10 by omega)
          have hr3 := Int.emod_nonneg v' (show (10 : Int) ≠ 0 by omega)
          have hlt : -10 < v'.tmod 10 ∧ v'.tmod 10 < 10 := by split at hr1 <;> omega
          clear hr1 hr2 hr3
          by_cases hd : v'.tmod 10 < 0
          · have hd' : -10 < v'.tmod 10 := hlt.1
            have hX : dgt v' = 48 + -v'.tmod 10 := by unfold dgt; omega
            have hcv := conv_one wr (48 + -v'.tmod 10)
            have hadd := fun W => run_string_add_sum (P := Try.prog) W s' (strOfNums [48 + -v'.tmod 10]) (by rw [strOfNums_size]; simp; omega)
            have HX : Hid (txL k' (v'.tdiv 10) (s' ++ strOfNums [48 + -v'.tmod 10]) = TX v) := by rw [← txL_next hz hX]; exact H1.out.1
            have HS : Hid ((s' ++ strOfNums [48 + -v'.tmod 10]).size + k' ≤ 21) := by
              have : (s' ++ strOfNums [48 + -v'.tmod 10]).size = s'.size + 1 := by rw [ByteArray.size_append, strOfNums_size]; rfl
              show _ ≤ _
              omega
            have hq : (v'.tdiv 10).natAbs = v'.natAbs / 10 := by rw [Int.natAbs_tdiv]; rfl
            have HQ := Hid.mk' hq
            have hqb : -9223372036854775808 ≤ v'.tdiv 10 ∧ v'.tdiv 10 ≤ 9223372036854775807 := by omega
            clear hX hq
            go_wp2
            go_roundw
            case rel => exact ⟨v'.tdiv 10, _, k', rfl, rfl, hqb, by have := HQ.out; rw [Nat.pow_succ] at hvk; omega, HS.out, HX.out, H1.out.2.trans (Keeps.new _ _)⟩
            case measure =>
              show (v'.tdiv 10).natAbs < v'.natAbs
              rw [HQ.out]
              omega
          · have hd' : 0 ≤ v'.tmod 10 := by omega
            have hX : dgt v' = 48 + v'.tmod 10 := by unfold dgt; omega
            have hcv := conv_one wr (48 + v'.tmod 10)
            have hadd := fun W => run_string_add_sum (P := Try.prog) W s' (strOfNums [48 + v'.tmod 10]) (by rw [strOfNums_size]; simp; omega)
            have HX : Hid (txL k' (v'.tdiv 10) (s' ++ strOfNums [48 + v'.tmod 10]) = TX v) := by rw [← txL_next hz hX]; exact H1.out.1
            have HS : Hid ((s' ++ strOfNums [48 + v'.tmod 10]).size + k' ≤ 21) := by
              have : (s' ++ strOfNums [48 + v'.tmod 10]).size = s'.size + 1 := by rw [ByteArray.size_append, strOfNums_size]; rfl
              show _ ≤ _
              omega
            have hq : (v'.tdiv 10).natAbs = v'.natAbs / 10 := by rw [Int.natAbs_tdiv]; rfl
            have HQ := Hid.mk' hq
            have hqb : -9223372036854775808 ≤ v'.tdiv 10 ∧ v'.tdiv 10 ≤ 9223372036854775807 := by omega
            clear hX hq
            go_wp2
            go_roundw
            case rel => exact ⟨v'.tdiv 10, _, k', rfl, rfl, hqb, by have := HQ.out; rw [Nat.pow_succ] at hvk; omega, HS.out, HX.out, H1.out.2.trans (Keeps.new _ _)⟩
            case measure =>
              show (v'.tdiv 10).natAbs < v'.natAbs
              rw [HQ.out]
              omega
    · have hn' : 0 ≤ v := by omega
      go_enter Try.func25, Try.ntmps25
      go_wp2
      go_loopw [0, 3, 4] (fun v' s _ wr => ∃ (v'' : Int) (s' : ByteArray) (k : Nat), v' = .int .i64 v'' ∧ s = .string s' ∧ (-9223372036854775808 ≤ v'' ∧ v'' ≤ 9223372036854775807) ∧ v''.natAbs < 10 ^ k ∧ s'.size + k ≤ 21 ∧ Hid (txL k v'' s' = TX v ∧ Keeps (fun _ => False) w wr)) (fun v' _ _ _ => (intOf v').natAbs)
      case atStart => exact ⟨v, _, 20, rfl, rfl, hv, hvn, by decide, by rw [HT.out, if_neg (by omega)], Keeps.refl _ _⟩
      case round =>
        obtain ⟨v', s', k, rfl, rfl, hvb, hvk, hsk, H1⟩ := hrel
        by_cases hz : v' = 0
        · subst hz
          have HE := Hid.mk' (show s' = TX v by rw [← H1.out.1, txL_zero])
          go_wp2
          go_ret
          exact ⟨ret_string HE.out, H1.out.2⟩
        · have hzb : (v' == 0) = false := by simpa using hz
          have hzc : (v' != 0) = true := by simpa using hz
          obtain ⟨k', rfl⟩ : ∃ k', k = k' + 1 := by
            cases k with
            | zero => simp at hvk; exact absurd hvk hz
            | succ k' => exact ⟨k', rfl⟩
          have hr1 := Int.emod_eq_tmod (a := v') (b := 10)
          have hr2 := Int.emod_lt_of_pos v' (show (0 : Int) < 10 by omega)
          have hr3 := Int.emod_nonneg v' (show (10 : Int) ≠ 0 by omega)
          have hlt : -10 < v'.tmod 10 ∧ v'.tmod 10 < 10 := by split at hr1 <;> omega
          clear hr1 hr2 hr3
          by_cases hd : v'.tmod 10 < 0
          · have hd' : -10 < v'.tmod 10 := hlt.1
            have hX : dgt v' = 48 + -v'.tmod 10 := by unfold dgt; omega
            have hcv := conv_one wr (48 + -v'.tmod 10)
            have hadd := fun W => run_string_add_sum (P := Try.prog) W s' (strOfNums [48 + -v'.tmod 10]) (by rw [strOfNums_size]; simp; omega)
            have HX : Hid (txL k' (v'.tdiv 10) (s' ++ strOfNums [48 + -v'.tmod 10]) = TX v) := by rw [← txL_next hz hX]; exact H1.out.1
            have HS : Hid ((s' ++ strOfNums [48 + -v'.tmod 10]).size + k' ≤ 21) := by
              have : (s' ++ strOfNums [48 + -v'.tmod 10]).size = s'.size + 1 := by rw [ByteArray.size_append, strOfNums_size]; rfl
              show _ ≤ _
              omega
            have hq : (v'.tdiv 10).natAbs = v'.natAbs / 10 := by rw [Int.natAbs_tdiv]; rfl
            have HQ := Hid.mk' hq
            have hqb : -9223372036854775808 ≤ v'.tdiv 10 ∧ v'.tdiv 10 ≤ 9223372036854775807 := by omega
            clear hX hq
            go_wp2
            go_roundw
            case rel => exact ⟨v'.tdiv 10, _, k', rfl, rfl, hqb, by have := HQ.out; rw [Nat.pow_succ] at hvk; omega, HS.out, HX.out, H1.out.2.trans (Keeps.new _ _)⟩
            case measure =>
              show (v'.tdiv 10).natAbs < v'.natAbs
              rw [HQ.out]
              omega
          · have hd' : 0 ≤ v'.tmod 10 := by omega
            have hX : dgt v' = 48 + v'.tmod 10 := by unfold dgt; omega
            have hcv := conv_one wr (48 + v'.tmod 10)
            have hadd := fun W => run_string_add_sum (P := Try.prog) W s' (strOfNums [48 + v'.tmod 10]) (by rw [strOfNums_size]; simp; omega)
            have HX : Hid (txL k' (v'.tdiv 10) (s' ++ strOfNums [48 + v'.tmod 10]) = TX v) := by rw [← txL_next hz hX]; exact H1.out.1
            have HS : Hid ((s' ++ strOfNums [48 + v'.tmod 10]).size + k' ≤ 21) := by
              have : (s' ++ strOfNums [48 + v'.tmod 10]).size = s'.size + 1 := by rw [ByteArray.size_append, strOfNums_size]; rfl
              show _ ≤ _
              omega
            have hq : (v'.tdiv 10).natAbs = v'.natAbs / 10 := by rw [Int.natAbs_tdiv]; rfl
            have HQ := Hid.mk' hq
            have hqb : -9223372036854775808 ≤ v'.tdiv 10 ∧ v'.tdiv 10 ≤ 9223372036854775807 := by omega
            clear hX hq
            go_wp2
            go_roundw
            case rel => exact ⟨v'.tdiv 10, _, k', rfl, rfl, hqb, by have := HQ.out; rw [Nat.pow_succ] at hvk; omega, HS.out, HX.out, H1.out.2.trans (Keeps.new _ _)⟩
            case measure =>
              show (v'.tdiv 10).natAbs < v'.natAbs
              rw [HQ.out]
              omega

end Go.Proofs.Ytndojlacdggfcaa
