import Derived.Test.YtnafocbgapianabE2
import Derived.Test.YtnafocbgapianabB5
namespace Go.Proofs.Ytnafocbgapianab
open Go.RowKit

theorem hasI_sup {m : Nat} {O : Nat → Bool} (h : ∀ i, O i = true → i < m) (i : Nat) : hasI m O (i : Int) = O i := by
  by_cases hi : i < m
  · exact hasI_in hi
  · rw [hasI_out (by omega)]
    cases hO : O i with
    | false => rfl
    | true => exact absurd (h i hO) hi

set_option maxHeartbeats 1000000 in
theorem bcount_any (w : World) (b n : Nat) (S : Nat → Bool) (h : BmAt w b n S) :
    Calls Try.prog 27 #[.pointer (some ⟨b, 0, none⟩)] w fun e w' => e = .returned (.int .i64 (cn S n)) ∧ w' = w := by
  have hc := count_any w b n S [] 97 h.at_
  rw [cn_beyond h.sup h.le] at hc
  clear h
  go_enter Try.func27, Try.ntmps27
  go_wp2_with (first | (go_at_call 46; refine hc.mono ?_; rintro e w1 ⟨rfl, hw⟩; subst w1))
  go_ret
  exact ⟨rfl, rfl⟩

theorem eq_false_fun (S : Nat → Bool) : (fun j => S j == false) = (fun j => !S j) := by funext j; cases S j <;> rfl

set_option maxHeartbeats 1000000 in
theorem bholes_any (w : World) (b n : Nat) (S : Nat → Bool) (h : BmAt w b n S) (lo hi : Int) :
    Calls Try.prog 31 #[.pointer (some ⟨b, 0, none⟩), .int .i64 lo, .int .i64 hi] w fun e w' => ∃ v, e = .returned v ∧ SpAt w' w.heap.size v (sp (fun j => !S j) (clamp n lo) (clamp n hi - clamp n lo)) ∧ Keeps (fun k => w.heap.size ≤ k) w w' := by
  have hc := spans_any w b n lo hi false S [] 97 h.at_ h.le
  rw [eq_false_fun] at hc
  clear h
  go_enter Try.func31, Try.ntmps31
  go_wp2_with (first | (go_at_call 44; refine hc.mono ?_; rintro e w1 ⟨v, rfl, hx⟩; have HX := Hid.mk' hx; clear hx))
  go_ret
  exact ⟨_, rfl, HX.out⟩

/-- Marks of the one, and of the other's first k. -/
def uni (S O : Nat → Bool) (k : Nat) : Nat → Bool := fun j => S j || (decide (j < k) && O j)
theorem uni_zero (S O : Nat → Bool) : uni S O 0 = S := by funext j; simp [uni]
theorem uni_next (S O : Nat → Bool) (k : Nat) (h : O k = true) : uni S O (k + 1) = upd (uni S O k) k true := by
  funext j; unfold uni upd
  by_cases hj : j = k
  · subst hj; simp [h]
  · have : (j < k + 1) ↔ (j < k) := by omega
    simp [hj, this]
theorem uni_skip (S O : Nat → Bool) (k : Nat) (h : O k = false) : uni S O (k + 1) = uni S O k := by
  funext j; unfold uni
  by_cases hj : j = k
  · subst hj; simp [h]
  · have : (j < k + 1) ↔ (j < k) := by omega
    simp [this]
theorem uni_at (S O : Nat → Bool) (k : Nat) : uni S O k k = S k := by simp [uni]

/-- The least of the first k that both have; -1. -/
def lst (S O : Nat → Bool) : Nat → Int
  | 0 => -1
  | k + 1 => if lst S O k < 0 ∧ (S k = true ∧ O k = true) then (k : Int) else lst S O k
theorem lst_bd (S O : Nat → Bool) (k : Nat) : -1 ≤ lst S O k ∧ lst S O k < k := by
  induction k with
  | zero => exact ⟨by simp [lst], by simp [lst]⟩
  | succ k ih =>
    simp only [lst]
    split
    · omega
    · omega

set_option maxHeartbeats 4000000 in
theorem merge_any (w : World) (b o n m : Nat) (S O : Nat → Bool) (h : BmAt w b n S) (ho : BmAt w o m O) (hne : b ≠ o) :
    Calls Try.prog 29 #[.pointer (some ⟨b, 0, none⟩), .pointer (some ⟨o, 0, none⟩)] w fun e w' => e = .returned (.int .i64 (lst S O n)) ∧ BmAt w' b n (uni S O n) ∧ Keeps (fun k => k = b) w w' := by
  have h0 := mk_len h.at_
  have hle := h.le
  have HB := Hid.mk' h
  have HO := Hid.mk' ho
  clear h ho
  go_enter Try.func29, Try.ntmps29
  go_wp2
  go_loopw [5, 15] (fun bv iv wr => ∃ k : Nat, k ≤ n ∧ bv = .int .i64 (lst S O k) ∧ iv = .int .i64 k ∧ Hid (BmAt wr b n (uni S O k) ∧ Keeps (fun k => k = b) w wr)) (fun _ iv _ => n - (intOf iv).toNat)
  case atStart => exact ⟨0, by omega, rfl, rfl, by rw [uni_zero]; exact HB.out, Keeps.refl _ _⟩
  case round =>
    obtain ⟨k, hk, rfl, rfl, hrel⟩ := hrel
    by_cases hlt : k < n
    · have hlt' : (k : Int) < (n : Int) := by omega
      have hO := HO.out.kept hrel.out.2 (Ne.symm hne)
      have hh := has_any wr o m (k : Int) O [] 97 hO.at_ hO.le
      rw [hasI_sup hO.sup] at hh
      have hset := fun x => set_do (wr.drewN x) b n k (uni S O k) [] 97 hrel.out.1.at_ hle hlt
      rw [uni_at] at hset
      have hbd := lst_bd S O k
      have HREL := hrel
      have HL : Hid (lst S O (k + 1) = if lst S O k < 0 ∧ (S k = true ∧ O k = true) then (k : Int) else lst S O k) := rfl
      clear hrel
      cases hOk : O k with
      | false =>
        rw [hOk] at hh
        have HU := Hid.mk' (uni_skip S O k hOk)
        have HLN : Hid (lst S O (k + 1) = lst S O k) := by show _ = _; rw [HL.out, if_neg (by simp [hOk])]
        clear hOk
        go_wp2_with (first | (go_at_call 51; refine hh.mono ?_; clear hh; rintro e w1 ⟨rfl, m1, hw⟩; subst w1))
        go_roundw
        case rel =>
          refine ⟨k + 1, by omega, by rw [HLN.out], by go_num, ?_, HREL.out.2.trans (Keeps.drewN _ _ _)⟩
          rw [HU.out]
          exact HREL.out.1.kept (Keeps.drewN (fun _ => False) _ _) (by simp)
        case measure => simp [intOf]; omega
      | true =>
        rw [hOk] at hh
        have HU := Hid.mk' (uni_next S O k hOk)
        rw [← HU.out] at hset
        have HSUP : Hid (∀ i, uni S O (k + 1) i = true → i < n) := by
          intro i hi
          rw [HU.out] at hi
          unfold upd at hi
          split at hi
          · omega
          · exact HREL.out.1.sup i hi
        cases hSk : S k with
        | false =>
          rw [hSk] at hset
          have HLN : Hid (lst S O (k + 1) = lst S O k) := by show _ = _; rw [HL.out, if_neg (by simp [hSk])]
          clear hSk hOk
          go_wp2_with (first | (go_at_call 51; refine hh.mono ?_; clear hh; rintro e w1 ⟨rfl, m1, hw⟩; subst w1) | (go_at_call 41; refine (hset _).mono ?_; clear hset; rintro e w2 ⟨rfl, hx⟩; have HX := Hid.mk' hx; clear hx))
          go_roundw
          case rel => exact ⟨k + 1, by omega, by rw [HLN.out], by go_num, ⟨HX.out.1, hle, HSUP.out⟩, (HREL.out.2.trans (Keeps.drewN _ _ m1)).trans HX.out.2.1⟩
          case measure => simp [intOf]; omega
        | true =>
          rw [hSk] at hset
          by_cases hlz : lst S O k < 0
          · have HLN : Hid (lst S O (k + 1) = (k : Int)) := by show _ = _; rw [HL.out, if_pos ⟨hlz, hSk, hOk⟩]
            clear hSk hOk
            go_wp2_with (first | (go_at_call 51; refine hh.mono ?_; clear hh; rintro e w1 ⟨rfl, m1, hw⟩; subst w1) | (go_at_call 41; refine (hset _).mono ?_; clear hset; rintro e w2 ⟨rfl, hx⟩; have HX := Hid.mk' hx; clear hx))
            go_roundw
            case rel => exact ⟨k + 1, by omega, by rw [HLN.out], by go_num, ⟨HX.out.1, hle, HSUP.out⟩, (HREL.out.2.trans (Keeps.drewN _ _ m1)).trans HX.out.2.1⟩
            case measure => simp [intOf]; omega
          · have HLN : Hid (lst S O (k + 1) = lst S O k) := by show _ = _; rw [HL.out, if_neg (by omega)]
            clear hSk hOk
            go_wp2_with (first | (go_at_call 51; refine hh.mono ?_; clear hh; rintro e w1 ⟨rfl, m1, hw⟩; subst w1) | (go_at_call 41; refine (hset _).mono ?_; clear hset; rintro e w2 ⟨rfl, hx⟩; have HX := Hid.mk' hx; clear hx))
            go_roundw
            case rel => exact ⟨k + 1, by omega, by rw [HLN.out], by go_num, ⟨HX.out.1, hle, HSUP.out⟩, (HREL.out.2.trans (Keeps.drewN _ _ m1)).trans HX.out.2.1⟩
            case measure => simp [intOf]; omega
    · have hlt' : ¬ (k : Int) < (n : Int) := by omega
      have HK := Hid.mk' (show k = n by omega)
      have HREL := hrel
      clear hrel
      go_wp2
      go_ret
      rw [← HK.out]
      exact ⟨rfl, by have := HREL.out.1; rwa [HK.out] at this ⊢, HREL.out.2⟩

end Go.Proofs.Ytnafocbgapianab
