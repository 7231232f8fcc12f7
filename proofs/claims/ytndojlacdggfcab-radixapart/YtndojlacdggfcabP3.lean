import Derived.Test.YtndojlacdggfcabP2
namespace Go.Proofs.Ytndojlacdggfcab
open Go.RowKit

/-- A run that tells g. -/
def OkR (g : Nat → Int) (k : Nat) (r : Rn) : Prop := 0 ≤ r.1 ∧ 1 ≤ r.2.2 ∧ r.1 + r.2.2 ≤ (k : Int) ∧ ∀ j : Nat, (j : Int) < r.2.2 → g (r.1.toNat + j) = wrap64 (r.2.1 + (j : Int)) ∧ g (r.1.toNat + j) ≠ 0
/-- Two runs that rise, and don't go on in one another. -/
def Sep (p r : Rn) : Prop := p.1 + p.2.2 ≤ r.1 ∧ ¬ (p.1 + p.2.2 = r.1 ∧ wrap64 (p.2.1 + p.2.2) = r.2.1)
def ChainR (l : List Rn) : Prop := ∀ i, i + 1 < l.length → Sep (l.getD i rz) (l.getD (i + 1) rz)
def cntR (l : List Rn) : Int := l.foldl (fun n r => n + r.2.2) 0
theorem cntR_snoc (l : List Rn) (r : Rn) : cntR (l ++ [r]) = cntR l + r.2.2 := by simp [cntR]
theorem getD_left {l : List Rn} {r : Rn} {i : Nat} (h : i < l.length) : (l ++ [r]).getD i rz = l.getD i rz := by
  simp [List.getD_eq_getElem?_getD, List.getElem?_append_left h]
theorem getD_last (l : List Rn) (r : Rn) : (l ++ [r]).getD l.length rz = r := by simp [List.getD_eq_getElem?_getD]
theorem ChainR.turn {l : List Rn} {r r' : Rn} (h : ChainR (l ++ [r])) (h1 : r'.1 = r.1) (h2 : r'.2.1 = r.2.1) : ChainR (l ++ [r']) := by
  intro i hi
  have := h i (by simpa using hi)
  simp at hi
  rw [getD_left hi] at this ⊢
  by_cases e : i + 1 < l.length
  · rw [getD_left e] at this ⊢; exact this
  · obtain e : i + 1 = l.length := by omega
    rw [e, getD_last] at this ⊢
    unfold Sep at this ⊢
    rw [h1, h2]; exact this
theorem ChainR.snoc {l : List Rn} {p r : Rn} (h : ChainR (l ++ [p])) (hs : Sep p r) : ChainR (l ++ [p] ++ [r]) := by
  intro i hi
  simp at hi
  by_cases e : i + 1 < (l ++ [p]).length
  · rw [getD_left (show i < (l ++ [p]).length by omega), getD_left e]
    exact h i e
  · simp at e
    obtain rfl : i = l.length := by omega
    rw [getD_left (by simp), getD_last]
    have : (l ++ [p] ++ [r]).getD (l.length + 1) rz = r := by
      simp
    rw [this]
    exact hs

theorem runs_good (g : Nat → Int) (hb : ∀ o, o < 512 → -9223372036854775808 ≤ g o ∧ g o ≤ 9223372036854775807) : ∀ k, k ≤ 512 →
    (∀ r ∈ runsOf (els g 0 0 k), OkR g k r) ∧ ChainR (runsOf (els g 0 0 k)) ∧ cntR (runsOf (els g 0 0 k)) = ((els g 0 0 k).length : Int)
  | 0, _ => ⟨by simp [els_zero, runsOf], by intro i hi; simp [els_zero, runsOf] at hi, by simp [els_zero, runsOf, cntR]⟩
  | k + 1, hk => by
    obtain ⟨ih1, ih2, ih3⟩ := runs_good g hb k (by omega)
    have up : ∀ r, OkR g k r → OkR g (k + 1) r := fun r h => ⟨h.1, h.2.1, by have := h.2.2.1; omega, h.2.2.2⟩
    by_cases h : g k = 0
    · rw [runs_none g k (by omega) h, els_snoc g 0 k (by omega), if_neg (by simp [h]), List.append_nil]
      exact ⟨fun r hr => up r (ih1 r hr), ih2, ih3⟩
    · have hlen : ((els g 0 0 (k + 1)).length : Int) = ((els g 0 0 k).length : Int) + 1 := by rw [els_snoc g 0 k (by omega), if_pos ⟨by omega, h⟩]; simp
      rw [runs_one g k (by omega) h, hlen]
      have hnew : OkR g (k + 1) ((k : Int), g k, 1) := by
        refine ⟨by simp, by simp, by simp, fun j hj => ?_⟩
        obtain rfl : j = 0 := by simp at hj; omega
        have := hb k (by omega)
        simp only [Int.toNat_natCast, Nat.add_zero]
        refine ⟨?_, h⟩
        rw [show g k + ((0 : Nat) : Int) = g k by simp]
        exact (wrap64_id this.1 this.2).symm
      generalize runsOf (els g 0 0 k) = l at *
      rcases List.eq_nil_or_concat l with rfl | ⟨l, r, rfl⟩
      · rw [runStep_nil]
        refine ⟨fun r hr => by rw [List.mem_singleton.1 hr]; exact hnew, by intro i hi; simp at hi, ?_⟩
        rw [← ih3]; simp [cntR]
      · rw [List.concat_eq_append] at *
        have hr := ih1 r (by simp)
        obtain ⟨r0, r1, r2, r3⟩ := id hr
        have hw : wrap64 (r.1 + r.2.2) = r.1 + r.2.2 := wrap_id5 (by omega) (by omega)
        cases hg : goes r (k : Int) (g k) with
        | false =>
          rw [runStep_no hg]
          refine ⟨fun x hx => ?_, ih2.snoc ⟨r2, fun hc => ?_⟩, by rw [cntR_snoc, ih3]⟩
          · rcases List.mem_append.1 hx with hx | hx
            · exact up x (ih1 x hx)
            · rw [List.mem_singleton.1 hx]; exact hnew
          · have : goes r (k : Int) (g k) = true := by
              simp only [goes, hw, Bool.and_eq_true, decide_eq_true_eq]
              exact ⟨hc.1.symm, hc.2.symm⟩
            rw [hg] at this; cases this
        | true =>
          rw [runStep_yes hg]
          have hg' : (k : Int) = r.1 + r.2.2 ∧ g k = wrap64 (r.2.1 + r.2.2) := by simpa [goes, hw] using hg
          have hw2 : wrap64 (r.2.2 + 1) = r.2.2 + 1 := wrap_id5 (by omega) (by omega)
          rw [hw2]
          refine ⟨fun x hx => ?_, ih2.turn rfl rfl, ?_⟩
          · rcases List.mem_append.1 hx with hx | hx
            · exact up x (ih1 x (List.mem_append.2 (.inl hx)))
            · rw [List.mem_singleton.1 hx]
              refine ⟨r0, by simp only; omega, by simp only; omega, fun j hj => ?_⟩
              simp only at hj ⊢
              by_cases hj2 : (j : Int) < r.2.2
              · exact r3 j hj2
              · have hjr : (j : Int) = r.2.2 := by omega
                have hk2 : r.1.toNat + j = k := by omega
                rw [hk2, hjr]
                exact ⟨hg'.2, h⟩
          · rw [cntR_snoc] at ih3 ⊢
            simp only
            omega

end Go.Proofs.Ytndojlacdggfcab
