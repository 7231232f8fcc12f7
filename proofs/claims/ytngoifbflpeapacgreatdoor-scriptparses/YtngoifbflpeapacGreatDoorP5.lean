import Derived.Test.YtngoifbflpeapacGreatDoorP4
namespace Go.Proofs.YtngoifbflpeapacGreatDoor
open Go.RowKit Go.Maps
set_option maxRecDepth 100000

/-! Each kind is found by its word, and by its number. -/
theorem kd_finds : ∀ k ∈ kds, kdOf k.word = some k ∧ numOf k.num = some k := by
  intro k hk
  obtain ⟨i, hi, rfl⟩ := List.mem_iff_getElem.1 hk
  have hl : kds.length = 21 := rfl
  rw [hl] at hi
  rcases i with _ | _ | _ | _ | _ | _ | _ | _ | _ | _ | _ | _ | _ | _ | _ | _ | _ | _ | _ | _ | _ | i
  all_goals first
    | omega
    | exact ⟨by kernel_rfl, by kernel_rfl⟩
/-- A written line's words name the kind that wrote it. -/
theorem kind_line {k : Kd} (hk : k ∈ kds) (t : St) : kindOf (lineW k t) = some k := by
  show (if (false : Bool) = true then none else kdOf k.word) = some k
  rw [if_neg (by decide), (kd_finds k hk).1]
/-- Numbers' words are read as they were written. -/
theorem numW_num {n : Int} (h : -9223372036854775808 ≤ n ∧ n ≤ 9223372036854775807) : num (numW n).text.data.toList = some n := num_itoa n h.1 h.2
end Go.Proofs.YtngoifbflpeapacGreatDoor

