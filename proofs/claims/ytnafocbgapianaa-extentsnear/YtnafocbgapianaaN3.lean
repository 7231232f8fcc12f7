import Derived.Test.YtnafocbgapianaaN2
import Derived.Test.YtnafocbgapianaaL1
namespace Go.Proofs.Ytnafocbgapianaa
open Go.RowKit

/-- How many pages were free in each area, as far as they were counted. -/
def befL (s : Sh) (S : Nat → Bool) (t : Nat) : List Value := (List.range s.cores).map fun j => .int .i64 ((if j < t then (fa s S j).length else 0 : Nat) : Int)
theorem befL_zero (s : Sh) (S : Nat → Bool) : (befL s S 0).toArray = madeCells #[.int .i64 0] s.cores := by
  apply Array.ext
  · simp [madeCells, befL]
  · intro i h1 h2
    simp [madeCells, befL, Nat.mod_one]
theorem befL_get (s : Sh) (S : Nat → Bool) (t j : Nat) (hj : j < s.cores) : (befL s S t)[j]? = some (.int .i64 ((if j < t then (fa s S j).length else 0 : Nat) : Int)) := by
  simp [befL, hj]
theorem befL_set (s : Sh) (S : Nat → Bool) (t : Nat) : (befL s S t).toArray.setIfInBounds t (.int .i64 ((fa s S t).length : Nat)) = (befL s S (t + 1)).toArray := by
  rw [List.setIfInBounds_toArray]
  congr 1
  apply List.ext_getElem?
  intro j
  rw [List.getElem?_set]
  by_cases h : t = j
  · subst h
    by_cases ht : t < s.cores
    · simp [befL, ht]
    · have : s.cores ≤ t := by omega
      simp [befL, this]
  · rw [if_neg h]
    by_cases hj : j < s.cores
    · rw [befL_get s S t j hj, befL_get s S (t + 1) j hj]
      have : j < t ↔ j < t + 1 := by omega
      simp [this]
    · have : s.cores ≤ j := by omega
      simp [befL, this]

/-- One round of the statement's look at the areas. -/
theorem near_round {s : Sh} (hg : s.Good) {c want t : Nat} {S S1 : Nat → Bool} {T : List Nat} (ht : t < s.cores) (hT : T = (tk s c S want).2.2) (hS : ∀ j, S1 j = (S j && decide (j ∉ T))) :
    let o := (c + t) % s.cores; let P := (pre s S c t).length; let m := min (want - min want P) (fa s S o).length
    ins T (bord s o) (bord s (o + 1)) = m ∧ fa s S1 o = (fa s S o).drop m ∧ (∀ j, j < m → ∃ q, T[min want P + j]? = some q ∧ (fa s S o)[j]? = some q) ∧ (pre s S c (t + 1)).length = P + (fa s S o).length := by
  intro o P m
  obtain ⟨A, R, h1, h2, h3, h4⟩ := tk_part hg (c := c) (S := S) (n := want) ht
  rw [← hT] at h1
  refine ⟨ins_part h1 h3 h4, ?_, ?_, ?_⟩
  · rw [fa_left hS h1 h3 h4]
    show _ = (fa s S o).drop (min (want - min want P) (fa s S o).length)
    rcases Nat.le_total (want - min want P) (fa s S o).length with h | h
    · rw [Nat.min_eq_left h]
    · rw [Nat.min_eq_right h, List.drop_eq_nil_of_le h, List.drop_eq_nil_of_le (Nat.le_refl _)]
  · intro j hj
    have hj1 : j < (fa s S o).length := by omega
    have hj2 : j < want - min want P := by omega
    refine ⟨(fa s S o)[j], ?_, List.getElem?_eq_getElem hj1⟩
    rw [h1, List.append_assoc, List.getElem?_append_right (by rw [h2]; omega), h2, Nat.add_sub_cancel_left, List.getElem?_append_left (by simp; omega), List.getElem?_take_of_lt hj2]
    exact List.getElem?_eq_getElem hj1
  · rw [pre_succ, List.length_append]

theorem fa_lt' {s : Sh} {S : Nat → Bool} {c i j x y : Nat} (hij : i < j) (hx : (fa s S c)[i]? = some x) (hy : (fa s S c)[j]? = some y) : x < y := by
  obtain ⟨h1, h2⟩ := List.getElem?_eq_some_iff.1 hx
  obtain ⟨h3, h4⟩ := List.getElem?_eq_some_iff.1 hy
  have := fa_lt hij h3
  rw [h2, h4] at this
  exact this
theorem fa_pages (s : Sh) (S : Nat → Bool) (c : Nat) : pagesOf (sp S (bord s c) (bord s (c + 1) - bord s c)) = fa s S c := sp_pages _ _ _

end Go.Proofs.Ytnafocbgapianaa
