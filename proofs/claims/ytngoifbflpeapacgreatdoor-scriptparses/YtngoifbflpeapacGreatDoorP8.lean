import Derived.Test.YtngoifbflpeapacGreatDoorP7
namespace Go.Proofs.YtngoifbflpeapacGreatDoor
open Go.RowKit Go.Maps
set_option maxRecDepth 100000

/-! What Line answers to a written line. -/
theorem nds_words (t : St) : ∀ l : List Ar, nds l ≤ (l.flatMap fun a => tlW a t).length
  | [] => by simp [nds]
  | a :: l => by
    have h := nds_words t l
    unfold nds at h ⊢
    rw [List.flatMap_cons, List.length_append, List.filter_cons]
    generalize (l.filter fun a => !a.lst) = X at *
    generalize (l.flatMap fun a => tlW a t).length = Y at *
    cases a with
    | L => show X.length ≤ _; omega
    | A => show X.length + 1 ≤ 1 + Y; omega
    | B => show X.length + 1 ≤ 1 + Y; omega
    | N => show X.length + 1 ≤ 1 + Y; omega
    | M => show X.length + 1 ≤ 1 + Y; omega
    | K => show X.length + 1 ≤ 1 + Y; omega
theorem mem_kds {n : Int} {k : Kd} (h : numOf n = some k) : k ∈ kds ∧ k.num = n := ⟨List.mem_of_find?_eq_some h, by have := List.find?_some h; simpa using this⟩
/-- A step as its line tells it. -/
def bkS (k : Kd) (t : St) : St := k.args.foldl (fld t) (st0 k.num)
theorem line_back {t : St} (ho : OkS t) {k : Kd} (hk : k ∈ kds) (n : Nat) (hl : (line k t ++ List.replicate n 32).length ≤ 20000) :
    lnE (line k t ++ List.replicate n 32) = 0 ∧ lnS (line k t ++ List.replicate n 32) = bkS k t := by
  have hw := wds_line hk t n
  have hb := back_any ho k.args k.args [] (st0 k.num) rfl (kd_lists k hk)
  have hd : (lineW k t).drop 1 = k.args.flatMap fun a => tlW a t := rfl
  have ht : takesF k.args ((lineW k t).drop 1) = true := by
    unfold takesF
    rw [hd, decide_eq_true (nds_words t k.args)]
    exact hb.2
  have hs : stF k.args 0 (st0 k.num) ((lineW k t).drop 1) = some (bkS k t) := by rw [hd]; exact hb.1
  constructor
  · unfold lnE
    rw [if_neg (by omega), hw]
    simp only [kind_line hk t, ht, if_true, hs]
  · unfold lnS
    rw [if_neg (by omega), hw]
    simp only [kind_line hk t, ht, if_true, hs, Option.getD_some]
end Go.Proofs.YtngoifbflpeapacGreatDoor

