import Derived.Test.YtnafocbgapianabW1
namespace Go.Proofs.Ytnafocbgapianab
open Go.RowKit

/-- Marks of the one, and of the other's from k on (below n). -/
def und (S O : Nat → Bool) (n k : Nat) : Nat → Bool := fun j => S j || (decide (k ≤ j) && (decide (j < n) && O j))
theorem und_top (S O : Nat → Bool) (n : Nat) : und S O n n = S := by
  funext j; unfold und
  by_cases h : n ≤ j
  · have : ¬ j < n := by omega
    simp [this]
  · simp [h]
theorem und_all (S O : Nat → Bool) (n : Nat) : und S O n 0 = uni S O n := by funext j; simp [und, uni]
theorem und_at (S O : Nat → Bool) (n k : Nat) : und S O n (k + 1) k = S k := by
  unfold und
  rw [decide_eq_false (show ¬ k + 1 ≤ k by omega)]
  simp
theorem und_next {S O : Nat → Bool} {n k : Nat} (hk : k < n) (h : O k = true) : und S O n k = upd (und S O n (k + 1)) k true := by
  funext j; unfold und upd
  by_cases hj : j = k
  · subst hj; simp [h, hk]
  · have : k ≤ j ↔ k + 1 ≤ j := by omega
    simp [hj, this]
theorem und_skip {S O : Nat → Bool} {n k : Nat} (h : O k = false) : und S O n k = und S O n (k + 1) := by
  funext j; unfold und
  by_cases hj : j = k
  · subst hj; simp [h]
  · have : k ≤ j ↔ k + 1 ≤ j := by omega
    simp [this]
theorem und_self (S : Nat → Bool) (n k : Nat) : und S S n k = S := by funext j; unfold und; cases S j <;> simp

/-- The least from k on that both have; -1. -/
def lsd (S O : Nat → Bool) (n : Nat) : Nat → Int
  | 0 => -1
  | d + 1 => if S (n - (d + 1)) = true ∧ O (n - (d + 1)) = true then ((n - (d + 1) : Nat) : Int) else lsd S O n d

theorem lst_spec (S O : Nat → Bool) (n : Nat) : (lst S O n = -1 ∧ ∀ i, i < n → ¬ (S i = true ∧ O i = true)) ∨ (∃ q, q < n ∧ lst S O n = (q : Int) ∧ (S q = true ∧ O q = true) ∧ ∀ i, i < q → ¬ (S i = true ∧ O i = true)) := by
  induction n with
  | zero => left; exact ⟨rfl, fun i hi => by omega⟩
  | succ n ih =>
    rcases ih with ⟨h1, h2⟩ | ⟨q, h1, h2, h3, h4⟩
    · by_cases hb : S n = true ∧ O n = true
      · right; exact ⟨n, by omega, by simp only [lst]; rw [if_pos ⟨by omega, hb⟩], hb, h2⟩
      · left
        refine ⟨by simp only [lst]; rw [if_neg (fun h => hb h.2), h1], fun i hi => ?_⟩
        by_cases he : i = n
        · rw [he]; exact hb
        · exact h2 i (by omega)
    · right; exact ⟨q, by omega, by simp only [lst]; rw [if_neg (by omega), h2], h3, h4⟩
theorem lsd_spec (S O : Nat → Bool) (n d : Nat) (hd : d ≤ n) : (lsd S O n d = -1 ∧ ∀ i, n - d ≤ i → i < n → ¬ (S i = true ∧ O i = true)) ∨ (∃ q, n - d ≤ q ∧ q < n ∧ lsd S O n d = (q : Int) ∧ (S q = true ∧ O q = true) ∧ ∀ i, n - d ≤ i → i < q → ¬ (S i = true ∧ O i = true)) := by
  induction d with
  | zero => left; exact ⟨rfl, fun i h1 h2 => by omega⟩
  | succ d ih =>
    by_cases hb : S (n - (d + 1)) = true ∧ O (n - (d + 1)) = true
    · right; exact ⟨n - (d + 1), by omega, by omega, by simp only [lsd]; rw [if_pos hb], hb, fun i h1 h2 => by omega⟩
    · rcases ih (by omega) with ⟨h1, h2⟩ | ⟨q, h0, h1, h2, h3, h4⟩
      · left
        refine ⟨by simp only [lsd]; rw [if_neg hb, h1], fun i h3 h4 => ?_⟩
        by_cases he : i = n - (d + 1)
        · rw [he]; exact hb
        · exact h2 i (by omega) h4
      · right
        refine ⟨q, by omega, h1, by simp only [lsd]; rw [if_neg hb, h2], h3, fun i h5 h6 => ?_⟩
        by_cases he : i = n - (d + 1)
        · rw [he]; exact hb
        · exact h4 i (by omega) h6
theorem lsd_lst (S O : Nat → Bool) (n : Nat) : lsd S O n n = lst S O n := by
  rcases lst_spec S O n with ⟨h1, h2⟩ | ⟨q, h1, h2, h3, h4⟩
  · rcases lsd_spec S O n n (Nat.le_refl _) with ⟨g1, _⟩ | ⟨p, _, g1, _, g3, _⟩
    · rw [h1, g1]
    · exact absurd g3 (h2 p g1)
  · rcases lsd_spec S O n n (Nat.le_refl _) with ⟨_, g2⟩ | ⟨p, _, g1, g2, g3, g4⟩
    · exact absurd h3 (g2 q (by omega) h1)
    · have : p = q := by
        rcases Nat.lt_trichotomy p q with h | h | h
        · exact absurd g3 (h4 p h)
        · exact h
        · exact absurd h3 (g4 q (by omega) h)
      rw [h2, g2, this]
theorem lsd_bd (S O : Nat → Bool) (n d : Nat) (hd : d ≤ n) : -1 ≤ lsd S O n d ∧ lsd S O n d < n ∨ lsd S O n d = -1 := by
  rcases lsd_spec S O n d hd with ⟨h1, _⟩ | ⟨q, _, h1, h2, _⟩
  · exact Or.inr h1
  · left; omega

set_option maxHeartbeats 1000000 in
theorem rmerge_nil (w : World) (e : Nat) :
    Calls Try.prog 56 #[.pointer (some ⟨e, 0, none⟩), .pointer none] w fun r w' => r = .returned (.int .i64 (-1)) ∧ w' = w := by
  go_enter Try.func56, Try.ntmps56
  go_wp2
  go_ret
  exact ⟨rfl, rfl⟩

set_option maxHeartbeats 4000000 in
theorem rmerge_gen (w : World) (e n : Nat) (v : Value) (S : Nat → Bool) (h : RbAt w e v n S) (e2 m : Nat) (v2 : Value) (O : Nat → Bool) (hs : ∀ i, O i = true → i < m)
    (hoth : ∀ wr k, RbAt wr e v n (und S O n k) → Keeps (fun j => v.ownBlock = some j) w wr → RbAt wr e2 v2 m O) :
    Calls Try.prog 56 #[.pointer (some ⟨e, 0, none⟩), .pointer (some ⟨e2, 0, none⟩)] w fun r w' => r = .returned (.int .i64 (lst S O n)) ∧ RbAt w' e v n (uni S O n) ∧ Keeps (fun j => v.ownBlock = some j) w w' := by
  have hf := h.field
  have hle := h.le
  have HR := Hid.mk' h
  have HO := Hid.mk' hoth
  obtain ⟨p, cap, rfl⟩ := h.slice
  clear h hoth
  go_enter Try.func56, Try.ntmps56
  go_wp2
  go_loopw [5, 6] (fun lv iv wr => ∃ k : Nat, k ≤ n ∧ lv = .int .i64 (lsd S O n (n - k)) ∧ iv = .int .i64 ((k : Int) - 1) ∧ Hid (RbAt wr e (.slice p n cap) n (und S O n k) ∧ Keeps (fun j => (Value.slice p n cap).ownBlock = some j) w wr)) (fun _ iv _ => (intOf iv + 1).toNat)
  case atStart => exact ⟨n, by omega, by simp [lsd], by go_num, by rw [und_top]; exact HR.out, Keeps.refl _ _⟩
  case round =>
    obtain ⟨k, hk, rfl, rfl, hrel⟩ := hrel
    have hRb := hrel.out.1
    have hf := hRb.field
    by_cases h0 : 0 < k
    · obtain ⟨j, rfl⟩ : ∃ j, k = j + 1 := ⟨k - 1, by omega⟩
      have e0 : ((j + 1 : Nat) : Int) - 1 = (j : Int) := by omega
      rw [e0]
      have hj0 : (0 : Int) ≤ (j : Int) := by omega
      have hjn : (j : Int) < (n : Int) := by omega
      obtain ⟨g, cap', hv, hg, hc, hfz, hge⟩ := hRb.form (by omega)
      cases hv
      have hb := hc j (by omega)
      have hz := hfz j
      rw [und_at] at hb
      have hh := rhas_any wr e2 m v2 O (HO.out wr (j + 1) hRb hrel.out.2) (j : Int)
      rw [hasI_sup hs] at hh
      have HT := Hid.mk' (hRb.turn j true hge)
      have HREL := hrel
      have HLS : Hid (lsd S O n (n - j) = if S j = true ∧ O j = true then (j : Int) else lsd S O n (n - (j + 1))) := by
        show _ = _
        rw [show n - j = (n - (j + 1)) + 1 by omega]
        simp only [lsd]
        rw [show n - (n - (j + 1) + 1) = j by omega]
      have hjw : IntKind.i64.wrap ((j : Int) - 1) = (j : Int) - 1 := i64_id (by omega) (by omega)
      clear hrel hRb hc hfz
      cases hOj : O j with
      | false =>
        rw [hOj] at hh
        have HL2 : Hid (lsd S O n (n - j) = lsd S O n (n - (j + 1))) := by show _ = _; rw [HLS.out, if_neg (by simp [hOj])]
        have HU := Hid.mk' (und_skip (S := S) (n := n) hOj)
        clear hOj
        go_wp2_with (first | (go_at_call 54; refine hh.mono ?_; clear hh; rintro r w1 ⟨rfl, hw⟩; subst w1))
        go_roundw
        case rel => exact ⟨j, by omega, by rw [HL2.out], by go_num, by rw [HU.out]; exact HREL.out.1, HREL.out.2⟩
        case measure => simp [intOf]
      | true =>
        rw [hOj] at hh
        have HU := Hid.mk' (und_next (S := S) (show j < n by omega) hOj)
        cases hSj : S j with
        | true =>
          rw [hSj] at hb
          have HL2 : Hid (lsd S O n (n - j) = (j : Int)) := by show _ = _; rw [HLS.out, if_pos ⟨hSj, hOj⟩]
          clear hOj hSj
          go_wp2_with (first | (go_at_call 54; refine hh.mono ?_; clear hh; rintro r w1 ⟨rfl, hw⟩; subst w1))
          go_roundw
          case rel => exact ⟨j, by omega, by rw [HL2.out], by go_num, by rw [HU.out]; exact HT.out.1, HREL.out.2.then HT.out.2 (fun i hi => by left; rw [hi]; rfl)⟩
          case measure => simp [intOf]
        | false =>
          rw [hSj] at hb
          have HL2 : Hid (lsd S O n (n - j) = lsd S O n (n - (j + 1))) := by show _ = _; rw [HLS.out, if_neg (by simp [hSj])]
          clear hOj hSj
          go_wp2_with (first | (go_at_call 54; refine hh.mono ?_; clear hh; rintro r w1 ⟨rfl, hw⟩; subst w1))
          go_roundw
          case rel => exact ⟨j, by omega, by rw [HL2.out], by go_num, by rw [HU.out]; exact HT.out.1, HREL.out.2.then HT.out.2 (fun i hi => by left; rw [hi]; rfl)⟩
          case measure => simp [intOf]
    · obtain rfl : k = 0 := by omega
      have HREL := hrel
      have HLL := Hid.mk' (lsd_lst S O n)
      rw [Nat.sub_zero, HLL.out]
      clear hrel hRb
      go_wp2
      go_ret
      refine ⟨rfl, ?_, HREL.out.2⟩
      have := HREL.out.1
      rwa [und_all] at this

end Go.Proofs.Ytnafocbgapianab
