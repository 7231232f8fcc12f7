import Derived.Test.YtndojlacdggfcabP4
namespace Go.Proofs.Ytndojlacdggfcab
open Go.RowKit

theorem els_succ (g : Nat → Int) (lo : Int) (k : Nat) (hk : k < 512) : (els g lo 0 (k + 1)).length = (els g lo 0 k).length + (if lo ≤ (k : Int) ∧ g k ≠ 0 then 1 else 0) := by
  rw [els_add, List.length_append, Nat.zero_add]
  congr 1
  split
  · rename_i h
    rw [els_one hk h.1 h.2]; rfl
  · rename_i h
    rw [els_none]
    · rfl
    · intro o h1 h2
      obtain rfl : o = k := by omega
      by_cases h3 : lo ≤ (o : Int)
      · right
        by_cases h4 : g o = 0
        · exact h4
        · exact absurd ⟨h3, h4⟩ h
      · left; omega
theorem getF_nat (g : Nat → Int) {o : Nat} (h : o < 512) : getF g (o : Int) = g o := by simp [getF, isOff_of h]
theorem getF_no (g : Nat → Int) {x : Int} (h : isOff x = false) : getF g x = 0 := by simp [getF, h]

/-- What was loaded of runs is what they were read of. -/
theorem load_runs (g : Nat → Int) (hb : ∀ o, o < 512 → -9223372036854775808 ≤ g o ∧ g o ≤ 9223372036854775807) : ∀ k, k ≤ 512 →
    (∀ o, loadTo (runsOf (els g 0 0 k)) o = if o < k then g o else 0) ∧ ∀ r ∈ runsOf (els g 0 0 k), r.2.1 = g r.1.toNat
  | 0, _ => ⟨by intro o; simp [els_zero, runsOf, loadTo], by simp [els_zero, runsOf]⟩
  | k + 1, hk => by
    obtain ⟨ih1, ih2⟩ := load_runs g hb k (by omega)
    have hgood := (runs_good g hb k (by omega)).1
    by_cases h : g k = 0
    · rw [runs_none g k (by omega) h]
      refine ⟨fun o => ?_, ih2⟩
      rw [ih1]
      by_cases e : o < k
      · rw [if_pos e, if_pos (by omega)]
      · rw [if_neg e]
        by_cases e2 : o = k
        · rw [if_pos (by omega), e2, h]
        · rw [if_neg (by omega)]
    · rw [runs_one g k (by omega) h]
      have hbk := hb k (by omega)
      have hnew : ∀ l : List Rn, (∀ o, loadTo l o = if o < k then g o else 0) → ∀ o, loadTo (l ++ [((k : Int), g k, (1 : Int))]) o = if o < k + 1 then g o else 0 := fun l hl o => by
        rw [loadTo_snoc]
        simp only [layN, Int.toNat_natCast, show (1 : Int).toNat = 1 from rfl]
        by_cases e : o = k
        · rw [if_pos (by omega), if_pos (by omega), e, Nat.sub_self, show g k + ((0 : Nat) : Int) = g k by simp, wrap64_id hbk.1 hbk.2]
        · rw [if_neg (by omega), hl]
          by_cases e2 : o < k
          · rw [if_pos e2, if_pos (by omega)]
          · rw [if_neg e2, if_neg (by omega)]
      generalize runsOf (els g 0 0 k) = l at *
      rcases List.eq_nil_or_concat l with rfl | ⟨l, r, rfl⟩
      · rw [runStep_nil]
        exact ⟨fun o => hnew [] ih1 o, fun r hr => by rw [List.mem_singleton.1 hr]; simp⟩
      · rw [List.concat_eq_append] at *
        obtain ⟨r0, r1, r2, r3⟩ := hgood r (by simp)
        have hw : wrap64 (r.1 + r.2.2) = r.1 + r.2.2 := wrap_id5 (by omega) (by omega)
        cases hg : goes r (k : Int) (g k) with
        | false =>
          rw [runStep_no hg]
          refine ⟨hnew _ ih1, fun x hx => ?_⟩
          rcases List.mem_append.1 hx with hx | hx
          · exact ih2 x hx
          · rw [List.mem_singleton.1 hx]; simp
        | true =>
          rw [runStep_yes hg]
          have hg' : (k : Int) = r.1 + r.2.2 ∧ g k = wrap64 (r.2.1 + r.2.2) := by simpa [goes, hw] using hg
          have hw2 : wrap64 (r.2.2 + 1) = r.2.2 + 1 := wrap_id5 (by omega) (by omega)
          rw [hw2]
          constructor
          · intro o
            have h1 := ih1 o
            rw [loadTo_snoc] at h1 ⊢
            have e : layN (loadTo l) (r.1, r.2.1, r.2.2 + 1) ((r.2.2 + 1).toNat) = layN (loadTo l) r (r.2.2.toNat + 1) := by
              rw [show (r.2.2 + 1).toNat = r.2.2.toNat + 1 by omega]; rfl
            rw [e, layN_succ]
            simp only [upd]
            by_cases ho : o = k
            · rw [if_pos (by omega), if_pos (by omega), ho, hg'.2, show ((r.2.2.toNat : Nat) : Int) = r.2.2 by omega]
            · rw [if_neg (by omega), h1]
              by_cases e2 : o < k
              · rw [if_pos e2, if_pos (by omega)]
              · rw [if_neg e2, if_neg (by omega)]
          · intro x hx
            rcases List.mem_append.1 hx with hx | hx
            · exact ih2 x (List.mem_append.2 (.inl hx))
            · rw [List.mem_singleton.1 hx]
              exact ih2 r (by simp)

theorem lastW_sat (P : Int → Prop) (h0 : P 0) (l : List Put) (off : Int) (h : ∀ q ∈ l, P q.2.2) : P (lastW l off) := by
  have : ∀ v, P v → P (l.foldl (lastS off) v) := by
    induction l with
    | nil => intro v hv; exact hv
    | cons q l ih =>
      intro v hv
      simp only [List.foldl_cons]
      refine ih (fun q' hq' => h q' (List.mem_cons_of_mem _ hq')) _ ?_
      unfold lastS
      split
      · split
        · exact h0
        · exact hv
      · split
        · exact h q (List.mem_cons_self ..)
        · exact hv
  exact this 0 h0
theorem play_sat (P : Int → Prop) (h0 : P 0) (l : List Put) (h : ∀ q ∈ l, P q.2.2) (o : Nat) (ho : o < 512) : P (play (l.take 400) o) := by
  rw [play_last _ o ho]
  exact lastW_sat P h0 _ _ fun q hq => h q (List.mem_of_mem_take hq)

/-- The script that good makes. -/
def goodS (q : Put) : Put := (q.1, q.2.1, (plc q.2.2 1000000 : Int))
def goodL (l : List Put) : List Put := l.map goodS
theorem goodL_len (l : List Put) : (goodL l).length = l.length := by simp [goodL]
theorem goodL_sat {l : List Put} : ∀ q ∈ goodL l, 0 ≤ q.2.2 ∧ q.2.2 ≤ 999999 := by
  intro q hq
  obtain ⟨p, _, rfl⟩ := List.mem_map.1 hq
  have := plc_lt p.2.2 (n := 1000000) (by omega)
  simp only [goodS]
  omega

/-- The runs of a tree whose values are no less than 1: each is one that Load takes. -/
theorem runs_ok (g : Nat → Int) (hg : ∀ o, o < 512 → 0 ≤ g o ∧ g o ≤ 999999) : (runsOf (els g 0 0 512)).all okRun = true ∧ (∀ r ∈ runsOf (els g 0 0 512), bdR r) ∧ ∀ o, o < 512 → loadTo (runsOf (els g 0 0 512)) o = g o := by
  have hb : ∀ o, o < 512 → -9223372036854775808 ≤ g o ∧ g o ≤ 9223372036854775807 := fun o ho => by have := hg o ho; omega
  obtain ⟨h1, h2⟩ := load_runs g hb 512 (by omega)
  have h3 := (runs_good g hb 512 (by omega)).1
  have each : ∀ r ∈ runsOf (els g 0 0 512), 1 ≤ r.2.2 ∧ 1 ≤ r.2.1 ∧ r.2.1 ≤ 999999 ∧ 0 ≤ r.1 ∧ r.2.2 ≤ 512 - r.1 := fun r hr => by
    obtain ⟨r0, r1, r2, r3⟩ := h3 r hr
    have hp := h2 r hr
    have h0 := r3 0 (by simp; omega)
    rw [Nat.add_zero] at h0
    have hv := hg r.1.toNat (by omega)
    have hne := h0.2
    rw [← hp] at hv hne
    omega
  refine ⟨?_, fun r hr => ?_, fun o ho => by rw [h1, if_pos ho]⟩
  · rw [List.all_eq_true]
    intro r hr
    have := each r hr
    simp only [okRun, decide_eq_true_eq]
    omega
  · have := each r hr
    unfold bdR
    omega

end Go.Proofs.Ytndojlacdggfcab
