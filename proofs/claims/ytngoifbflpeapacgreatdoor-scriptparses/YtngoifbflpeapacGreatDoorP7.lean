import Derived.Test.YtngoifbflpeapacGreatDoorP6
namespace Go.Proofs.YtngoifbflpeapacGreatDoor
open Go.RowKit Go.Maps
set_option maxRecDepth 100000

/-! A written line's words, read back. -/
def fld (t r : St) (a : Ar) : St := match a with
  | .A => { r with a := t.a }
  | .B => { r with b := t.b }
  | .N => { r with n := t.n }
  | .M => { r with m := t.m }
  | .K => { r with k := t.k }
  | .L => { r with l := r.l ++ t.l }
/-- The word of an argument that has but one. -/
theorem tlW_one {a : Ar} (h : a ≠ .L) {t : St} (ho : OkS t) (r : St) : ∃ x, tlW a t = [x] ∧ rdF a r x = (fld t r a, true) ∧ (a.quo == x.quoted) = true := by
  cases a with
  | A => exact ⟨_, rfl, rfl, rfl⟩
  | B => exact ⟨_, rfl, rfl, rfl⟩
  | N => exact ⟨_, rfl, by simp only [rdF, numW_num ho.n]; rfl, rfl⟩
  | M => exact ⟨_, rfl, by simp only [rdF, numW_num ho.m]; rfl, rfl⟩
  | K => exact ⟨_, rfl, by simp only [rdF, numW_num ho.k]; rfl, rfl⟩
  | L => exact absurd rfl h
theorem at_mid {l pre suf : List Ar} {a : Ar} (h : l = pre ++ a :: suf) : argAt l pre.length = some a := argAt_some (by rw [h]; simp)
theorem at_last {l pre : List Ar} (h : l = pre ++ [Ar.L]) : ∀ j, pre.length ≤ j → argAt l j = some .L := by
  intro j hj
  by_cases hj2 : j < l.length
  · have : j = pre.length := by rw [h] at hj2; simp at hj2; omega
    rw [this]; exact at_mid h
  · rw [argAt_end hj2 (a := .L) (by rw [h]; simp)]; rfl
theorem back_any {t : St} (ho : OkS t) (l : List Ar) : ∀ (suf pre : List Ar) (r : St), l = pre ++ suf → (∀ a ∈ suf.dropLast, a ≠ .L) →
    stF l pre.length r (suf.flatMap fun a => tlW a t) = some (suf.foldl (fld t) r) ∧ tkF l pre.length (suf.flatMap fun a => tlW a t) = true
  | [], pre, r, _, _ => by simp [stF, tkF]
  | [a], pre, r, hl, _ => by
    by_cases hL : a = .L
    · subst hL
      have e : ([Ar.L].flatMap fun a => tlW a t) = t.l.map numW := by simp [tlW]
      rw [e]
      exact ⟨stF_list t.l pre.length r (at_last hl) ho.o, tkF_list t.l pre.length (at_last hl)⟩
    · obtain ⟨x, hx, hr, hq⟩ := tlW_one hL ho r
      have e : ([a].flatMap fun a => tlW a t) = [x] := by simp [hx]
      rw [e]
      constructor
      · unfold stF; rw [at_mid hl]; simp only [hr, if_true]; simp [stF]
      · unfold tkF; rw [at_mid hl]; simp only [hq]; simp [tkF]
  | a :: b :: s, pre, r, hl, hd => by
    have hL : a ≠ .L := hd a (by simp)
    obtain ⟨x, hx, hr, hq⟩ := tlW_one hL ho r
    have e : ((a :: b :: s).flatMap fun a => tlW a t) = x :: ((b :: s).flatMap fun a => tlW a t) := by rw [List.flatMap_cons, hx]; rfl
    have h := back_any ho l (b :: s) (pre ++ [a]) (fld t r a) (by rw [hl]; simp) (fun c hc => hd c (by rw [List.dropLast_cons_cons]; exact List.mem_cons_of_mem _ hc))
    rw [List.length_append] at h
    rw [e]
    constructor
    · unfold stF; rw [at_mid hl]; simp only [hr, if_true]; exact h.1
    · unfold tkF; rw [at_mid hl]; simp only [hq, Bool.true_and]; exact h.2
theorem kd_lists : ∀ k ∈ kds, ∀ a ∈ k.args.dropLast, a ≠ .L := by
  intro k hk
  obtain ⟨i, hi, rfl⟩ := List.mem_iff_getElem.1 hk
  have hl : kds.length = 21 := rfl
  rw [hl] at hi
  rcases i with _ | _ | _ | _ | _ | _ | _ | _ | _ | _ | _ | _ | _ | _ | _ | _ | _ | _ | _ | _ | _ | i
  all_goals first
    | omega
    | (intro a ha; simp [kds] at ha; done)
    | (intro a ha; simp [kds] at ha; rintro rfl; simp at ha)
end Go.Proofs.YtngoifbflpeapacGreatDoor

