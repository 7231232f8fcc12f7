import Derived.Test.YtndojlacdggfcaaG3
namespace Go.Proofs.Ytndojlacdggfcaa
open Go.RowKit

theorem els_snoc (g : Nat → Int) (lo : Int) (k : Nat) (hk : k < 512) : els g lo 0 (k + 1) = els g lo 0 k ++ (if lo ≤ (k : Int) ∧ g k ≠ 0 then [(⟨k, hk⟩, g k)] else []) := by
  rw [els_add, Nat.zero_add]
  congr 1
  split
  · rename_i h
    exact els_one hk h.1 h.2
  · rename_i h
    refine els_none fun o h1 h2 => ?_
    obtain rfl : o = k := by omega
    by_cases h3 : lo ≤ (o : Int)
    · right
      by_cases h4 : g o = 0
      · exact h4
      · exact absurd ⟨h3, h4⟩ h
    · left; omega

theorem wrap_wrap_add (x y : Int) : wrap64 (wrap64 x + y) = wrap64 (x + y) := by unfold wrap64; omega
theorem wrap_id5 {x : Int} (h0 : 0 ≤ x) (h1 : x ≤ 1024) : wrap64 x = x := wrap64_id (by omega) (by omega)

/-- What is known of the runs of the offsets below k. -/
def RInv (f : Nat → Int) (k : Nat) : Prop :=
  (runsOf (els f 0 0 k) = [] ∧ (k = 0 ∨ f (k - 1) = 0)) ∨ ∃ l r, runsOf (els f 0 0 k) = l ++ [r] ∧ 0 ≤ r.1 ∧ 1 ≤ r.2.2 ∧ r.1 + r.2.2 ≤ (k : Int) ∧ r.2.2 ≤ 512 ∧
    ((1 ≤ k ∧ f (k - 1) ≠ 0 ∧ r.1 + r.2.2 = (k : Int) ∧ wrap64 (r.2.1 + r.2.2) = wrap64 (f (k - 1) + 1)) ∨ ((k = 0 ∨ f (k - 1) = 0) ∧ r.1 + r.2.2 < (k : Int)))

theorem runs_one (f : Nat → Int) (k : Nat) (hk : k < 512) (h : f k ≠ 0) : runsOf (els f 0 0 (k + 1)) = runStep (runsOf (els f 0 0 k)) (k : Int) (f k) := by
  rw [els_snoc f 0 k hk, if_pos ⟨by omega, h⟩, runsOf_snoc]
theorem runs_none (f : Nat → Int) (k : Nat) (hk : k < 512) (h : f k = 0) : runsOf (els f 0 0 (k + 1)) = runsOf (els f 0 0 k) := by
  rw [els_snoc f 0 k hk, if_neg (by simp [h]), List.append_nil]

theorem runs_inv (f : Nat → Int) : ∀ k, k ≤ 512 → RInv f k
  | 0, _ => .inl ⟨rfl, .inl rfl⟩
  | k + 1, hk => by
    have ih := runs_inv f k (by omega)
    by_cases h : f k = 0
    · rw [RInv, runs_none f k (by omega) h]
      rcases ih with ⟨e, _⟩ | ⟨l, r, e, h0, h1, h2, h5, _⟩
      · exact .inl ⟨e, .inr h⟩
      · exact .inr ⟨l, r, e, h0, h1, by omega, h5, .inr ⟨.inr h, by omega⟩⟩
    · rw [RInv, runs_one f k (by omega) h]
      have new : ∀ l : List Rn, ∃ l' r', l ++ [((k : Int), f k, (1 : Int))] = l' ++ [r'] ∧ 0 ≤ r'.1 ∧ 1 ≤ r'.2.2 ∧ r'.1 + r'.2.2 ≤ ((k + 1 : Nat) : Int) ∧ r'.2.2 ≤ 512 ∧
          ((1 ≤ k + 1 ∧ f (k + 1 - 1) ≠ 0 ∧ r'.1 + r'.2.2 = ((k + 1 : Nat) : Int) ∧ wrap64 (r'.2.1 + r'.2.2) = wrap64 (f (k + 1 - 1) + 1)) ∨ ((k + 1 = 0 ∨ f (k + 1 - 1) = 0) ∧ r'.1 + r'.2.2 < ((k + 1 : Nat) : Int))) := fun l =>
        ⟨l, _, rfl, by simp, by simp, by simp, by simp, .inl ⟨by omega, h, by simp, rfl⟩⟩
      right
      rcases ih with ⟨e, _⟩ | ⟨l, r, e, h0, h1, h2, h5, hc⟩
      · rw [e, runStep_nil]; exact new []
      · rw [e]
        cases hg : goes r (k : Int) (f k) with
        | false => rw [runStep_no hg]; exact new (l ++ [r])
        | true =>
          rw [runStep_yes hg]
          have hg' : (k : Int) = wrap64 (r.1 + r.2.2) ∧ f k = wrap64 (r.2.1 + r.2.2) := by simpa [goes] using hg
          rw [wrap_id5 (by omega) (by omega)] at hg'
          have hw : wrap64 (r.2.2 + 1) = r.2.2 + 1 := wrap_id5 (by omega) (by omega)
          refine ⟨l, _, rfl, h0, ?_, ?_, ?_, .inl ⟨by omega, h, ?_, ?_⟩⟩
          · simp only [hw]; omega
          · simp only [hw]; omega
          · simp only [hw]; omega
          · simp only [hw]; omega
          · simp only [hw]
            show wrap64 (r.2.1 + (r.2.2 + 1)) = wrap64 (f k + 1)
            rw [hg'.2, wrap_wrap_add, Int.add_assoc]

/-- Where the document begins a run, and where it goes on. -/
theorem runs_begin (f : Nat → Int) (k : Nat) (hk : k < 512) (h : f k ≠ 0) (hb : k = 0 ∨ f (k - 1) = 0 ∨ wrap64 (f (k - 1) + 1) ≠ f k) : runsOf (els f 0 0 (k + 1)) = runsOf (els f 0 0 k) ++ [((k : Int), f k, 1)] := by
  rw [runs_one f k hk h]
  rcases runs_inv f k (by omega) with ⟨e, _⟩ | ⟨l, r, e, h0, h1, h2, h5, hc⟩
  · rw [e, runStep_nil]; rfl
  · rw [e, runStep_no]
    cases hg : goes r (k : Int) (f k) with
    | false => rfl
    | true =>
      have hg' : (k : Int) = wrap64 (r.1 + r.2.2) ∧ f k = wrap64 (r.2.1 + r.2.2) := by simpa [goes] using hg
      rw [wrap_id5 (by omega) (by omega)] at hg'
      exfalso
      rcases hc with ⟨c1, c2, c3, c4⟩ | ⟨_, c2⟩
      · rcases hb with b | b | b
        · omega
        · exact c2 b
        · exact b (by rw [hg'.2, c4])
      · omega
theorem runs_goon (f : Nat → Int) (k : Nat) (hk : k < 512) (h : f k ≠ 0) (h0 : 1 ≤ k) (h1 : f (k - 1) ≠ 0) (h2 : wrap64 (f (k - 1) + 1) = f k) :
    ∃ l r, runsOf (els f 0 0 k) = l ++ [r] ∧ runsOf (els f 0 0 (k + 1)) = l ++ [(r.1, r.2.1, r.2.2 + 1)] ∧ 1 ≤ r.2.2 ∧ r.2.2 ≤ 512 := by
  rw [runs_one f k hk h]
  rcases runs_inv f k (by omega) with ⟨e, b⟩ | ⟨l, r, e, g0, g1, g2, h5, hc⟩
  · rcases b with b | b
    · omega
    · exact absurd b h1
  · rcases hc with ⟨c1, c2, c3, c4⟩ | ⟨b, _⟩
    · refine ⟨l, r, e, ?_, g1, h5⟩
      rw [e, runStep_yes, wrap_id5 (show 0 ≤ r.2.2 + 1 by omega) (by omega)]
      simp only [goes, c3, c4, h2]
      rw [wrap_id5 (by omega) (by omega)]
      simp
    · rcases b with b | b
      · omega
      · exact absurd b h1

end Go.Proofs.Ytndojlacdggfcaa
