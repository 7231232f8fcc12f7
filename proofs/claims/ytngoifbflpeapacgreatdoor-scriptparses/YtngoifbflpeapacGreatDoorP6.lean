import Derived.Test.YtngoifbflpeapacGreatDoorP5
namespace Go.Proofs.YtngoifbflpeapacGreatDoor
open Go.RowKit Go.Maps
set_option maxRecDepth 100000

/-! A list's words, read back. -/
theorem stF_list {l : List Ar} : ∀ (xs : List Int) (i : Nat) (t : St), (∀ j, i ≤ j → argAt l j = some .L) → OkI xs → stF l i t (xs.map numW) = some { t with l := t.l ++ xs }
  | [], i, t, _, _ => by simp [stF]
  | n :: xs, i, t, ha, ho => by
    have hn := numW_num (ho n (by simp))
    rw [List.map_cons]
    unfold stF
    rw [ha i (Nat.le_refl _)]
    simp only [rdF, hn, Option.isSome_some, if_true, Option.getD_some]
    rw [stF_list xs (i + 1) _ (fun j hj => ha j (by omega)) (fun m hm => ho m (by simp [hm]))]
    simp
theorem tkF_list {l : List Ar} : ∀ (xs : List Int) (i : Nat), (∀ j, i ≤ j → argAt l j = some .L) → tkF l i (xs.map numW) = true
  | [], i, _ => by simp [tkF]
  | n :: xs, i, ha => by
    rw [List.map_cons]
    unfold tkF
    rw [ha i (Nat.le_refl _)]
    simp only [tkF_list xs (i + 1) (fun j hj => ha j (by omega))]
    rfl
end Go.Proofs.YtngoifbflpeapacGreatDoor

