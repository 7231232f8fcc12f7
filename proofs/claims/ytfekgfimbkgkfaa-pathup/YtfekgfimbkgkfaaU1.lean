import Derived.Test.YtfekgfimbkgkfaaF2
namespace Go.Proofs.Ytfekgfimbkgkfaa
open Go.RowKit Go.Maps

def upS : ByteArray := ⟨#[46, 46]⟩
theorem up_isUp : isUp upS = true ∧ isDot upS = false := by unfold isUp isDot; rw [ByteArray.toList_eq]; exact ⟨rfl, rfl⟩
theorem rsv_up (F : Dr) : rsv F [upS] true = (1, true, 0) := by
  unfold rsv lead wlk wlk step1
  simp [up_isUp.1, up_isUp.2]
/-- A name and '..' behind a path. -/
theorem up_cases (F : Dr) (p : List ByteArray) (s : ByteArray) (hD : isDot s = false) (hU : isUp s = false) (h : (rsv F p false).2.2 = 0) :
    (∃ e, e ≠ 0 ∧ rsv F (p ++ [s]) false = (0, false, e) ∧ rsv F (p ++ [s] ++ [upS]) false = (0, false, e)) ∨
    (∃ i, 1 ≤ i ∧ rsv F (p ++ [s]) false = (i, false, 0) ∧ rsv F (p ++ [s] ++ [upS]) false = (0, false, 144)) ∨
    (∃ i, rsv F (p ++ [s]) false = (i, true, 0) ∧ rsv F (p ++ [s] ++ [upS]) false = rsv F p false) := by
  cases hl : lead F p with
  | bad e =>
    unfold rsv at h
    rw [hl] at h
    rcases lead_bad hl with rfl | rfl <;> simp at h
  | ok a r =>
    have h1 := lead_snoc F p s
    rw [hl] at h1
    simp only at h1
    have h2 := lead_snoc F (p ++ [s]) upS
    by_cases ha : a.2 = true
    · have hs : step1 F a r s = if (F a.1 s).1 < 1 then .bad 143 else .ok (F a.1 s) (a :: r) := by
        unfold step1
        rw [if_pos ha, if_neg (by simp [hD]), if_neg (by simp [hU])]
      rw [hs] at h1
      by_cases hf : (F a.1 s).1 < 1
      · rw [if_pos hf] at h1
        rw [h1] at h2
        left
        exact ⟨143, by decide, by unfold rsv; rw [h1], by unfold rsv; rw [h2]⟩
      · rw [if_neg hf] at h1
        rw [h1] at h2
        simp only at h2
        right
        cases hb : (F a.1 s).2 with
        | false =>
          left
          have h3 : step1 F (F a.1 s) (a :: r) upS = .bad 144 := by unfold step1; rw [if_neg (by simp [hb])]
          rw [h3] at h2
          exact ⟨(F a.1 s).1, by omega, by unfold rsv; rw [h1]; simp [hb], by unfold rsv; rw [h2]⟩
        | true =>
          right
          have h3 : step1 F (F a.1 s) (a :: r) upS = .ok a r := by
            unfold step1
            rw [if_pos hb, if_neg (by simp [up_isUp.2]), if_pos up_isUp.1]
          rw [h3] at h2
          exact ⟨(F a.1 s).1, by unfold rsv; rw [h1]; simp [hb], by unfold rsv; rw [h2, hl]⟩
    · have hs : step1 F a r s = .bad 144 := by unfold step1; rw [if_neg ha]
      rw [hs] at h1
      rw [h1] at h2
      left
      exact ⟨144, by decide, by unfold rsv; rw [h1], by unfold rsv; rw [h2]⟩
end Go.Proofs.Ytfekgfimbkgkfaa
