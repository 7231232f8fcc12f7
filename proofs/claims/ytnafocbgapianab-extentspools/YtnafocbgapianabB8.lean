import Derived.Test.YtnafocbgapianabB7
namespace Go.Proofs.Ytnafocbgapianab
open Go.RowKit

/-- What a fold of taking does. -/
theorem fold_stp (ps : List Nat) (S : Nat → Bool) (n : Nat) (T : List Nat) : ∃ U S' n', ps.foldl stp (S, n, T) = (S', n', T ++ U) ∧ U.length + n' = n ∧ U.Nodup ∧ (∀ q ∈ U, S q = true ∧ q ∈ ps) ∧ (∀ j, S' j = (S j && decide (j ∉ U))) ∧ (n' = 0 ∨ ∀ q ∈ ps, S' q = false) := by
  induction ps generalizing S n T with
  | nil => exact ⟨[], S, n, by simp, by simp, by simp, by simp, by simp, Or.inr (by simp)⟩
  | cons p ps ih =>
    cases n with
    | zero =>
      refine ⟨[], S, 0, ?_, by simp, by simp, by simp, by simp, Or.inl rfl⟩
      rw [fold_zero]; simp
    | succ n =>
      cases hp : S p with
      | false =>
        obtain ⟨U, S', n', h1, h2, h3, h4, h5, h6⟩ := ih S (n + 1) T
        refine ⟨U, S', n', ?_, h2, h3, fun q hq => ⟨(h4 q hq).1, by simp [(h4 q hq).2]⟩, h5, ?_⟩
        · rw [List.foldl_cons, stp_held _ _ hp]; exact h1
        · rcases h6 with h6 | h6
          · exact Or.inl h6
          · refine Or.inr fun q hq => ?_
            rcases List.mem_cons.1 hq with rfl | hq
            · rw [h5, hp]; rfl
            · exact h6 q hq
      | true =>
        obtain ⟨U, S', n', h1, h2, h3, h4, h5, h6⟩ := ih (upd S p false) n (T ++ [p])
        have hpU : p ∉ U := fun h => by have := (h4 p h).1; rw [upd_same] at this; exact absurd this (by decide)
        refine ⟨p :: U, S', n', ?_, by simp; omega, ?_, ?_, ?_, ?_⟩
        · rw [List.foldl_cons, stp_free _ _ hp, h1]; simp
        · exact List.nodup_cons.2 ⟨hpU, h3⟩
        · intro q hq
          rcases List.mem_cons.1 hq with rfl | hq
          · exact ⟨hp, by simp⟩
          · have h7 := (h4 q hq).1
            have hne : q ≠ p := fun e => hpU (e ▸ hq)
            rw [upd_other hne] at h7
            exact ⟨h7, by simp [(h4 q hq).2]⟩
        · intro j
          rw [h5]
          unfold upd
          by_cases hj : j = p
          · subst hj; simp
          · simp [hj]
        · rcases h6 with h6 | h6
          · exact Or.inl h6
          · refine Or.inr fun q hq => ?_
            rcases List.mem_cons.1 hq with rfl | hq
            · rw [h5, upd_same]; rfl
            · exact h6 q hq

theorem bord_find {s : Sh} (hg : s.Good) {p : Nat} (h1 : s.data ≤ p) (h2 : p < s.pages) : ∃ c, c < s.cores ∧ bord s c ≤ p ∧ p < bord s (c + 1) := by
  have key : ∀ n, p < bord s n → ∃ c, c < n ∧ bord s c ≤ p ∧ p < bord s (c + 1) := by
    intro n
    induction n with
    | zero => intro h; rw [bord_zero] at h; omega
    | succ n ih =>
      intro h
      by_cases hn : p < bord s n
      · obtain ⟨c, hc, h3⟩ := ih hn
        exact ⟨c, by omega, h3⟩
      · exact ⟨n, by omega, by omega, h⟩
  exact key s.cores (by rw [bord_all hg]; exact h2)

theorem mem_ord {s : Sh} (hg : s.Good) {core p : Nat} (h1 : s.data ≤ p) (h2 : p < s.pages) (hc : core < s.cores) : p ∈ ordTo s core s.cores := by
  obtain ⟨c, hc1, h3, h4⟩ := bord_find hg h1 h2
  unfold ordTo
  rw [List.mem_flatMap]
  refine ⟨(c + (s.cores - core)) % s.cores, by simp; exact Nat.mod_lt _ (by omega), ?_⟩
  have e : (core + (c + (s.cores - core)) % s.cores) % s.cores = c := by
    rw [Nat.add_mod, Nat.mod_mod, ← Nat.add_mod, show core + (c + (s.cores - core)) = c + s.cores by omega, Nat.add_mod_right, Nat.mod_eq_of_lt hc1]
  rw [e]
  unfold ar
  rw [List.mem_range'_1]
  omega

theorem cn_zero {f : Nat → Bool} {n : Nat} (h : ∀ i, i < n → f i = false) : cn f n = 0 := by
  induction n with
  | zero => rfl
  | succ n ih => rw [cn_succ, ih (fun i hi => h i (by omega)), h n (by omega)]; rfl
theorem cn_not (f : Nat → Bool) (n : Nat) : cn (fun j => !f j) n + cn f n = n := by
  induction n with
  | zero => rfl
  | succ n ih =>
    rw [cn_succ, cn_succ]
    cases f n <;> simp <;> omega
theorem cn_minus {S S' : Nat → Bool} {n : Nat} (U : List Nat) (hn : U.Nodup) (h : ∀ q ∈ U, S q = true ∧ q < n) (hS : ∀ j, S' j = (S j && decide (j ∉ U))) : cn S' n + U.length = cn S n := by
  induction U generalizing S with
  | nil =>
    have : S' = S := by funext j; rw [hS]; simp
    rw [this]; simp
  | cons q U ih =>
    have h1 := h q (by simp)
    have h2 := List.nodup_cons.1 hn
    have h3 := ih (S := upd S q false) h2.2 (fun x hx => by
      have hne : x ≠ q := fun e => h2.1 (e ▸ hx)
      rw [upd_other hne]; exact h x (by simp [hx])) (fun j => by
      rw [hS]; unfold upd
      by_cases hj : j = q
      · simp [hj]
      · simp [hj])
    have h4 := cn_upd (S := S) (b := false) h1.2
    rw [h1.1] at h4
    simp at h4 ⊢
    omega

/-- What Take takes: so many free pages, none twice; the others stay. -/
theorem tk_all {s : Sh} (hg : s.Good) {S : Nat → Bool} (hs : ∀ i, S i = true → s.data ≤ i ∧ i < s.pages) {core n : Nat} (hc : core < s.cores) (hn : n ≤ cn S s.pages) :
    (tk s core S n).2.2.length = n ∧ (tk s core S n).2.2.Nodup ∧ (∀ q ∈ (tk s core S n).2.2, S q = true) ∧ (∀ j, (tk s core S n).1 j = (S j && decide (j ∉ (tk s core S n).2.2))) := by
  obtain ⟨U, S', n', h1, h2, h3, h4, h5, h6⟩ := fold_stp (ordTo s core s.cores) S n []
  have e : tk s core S n = (S', n', U) := by unfold tk; rw [h1]; simp
  rw [e]
  simp only
  refine ⟨?_, h3, fun q hq => (h4 q hq).1, h5⟩
  rcases h6 with h6 | h6
  · omega
  · have h7 : cn S' s.pages = 0 := cn_zero fun i hi => by
      cases hx : S' i with
      | false => rfl
      | true =>
        have h8 := h5 i
        rw [hx] at h8
        have h9 := (Bool.and_eq_true_iff.1 h8.symm).1
        rw [h6 i (mem_ord hg (hs i h9).1 hi hc)] at hx
        exact hx.symm
    have h8 := cn_minus (n := s.pages) U h3 (fun q hq => ⟨(h4 q hq).1, (hs q (h4 q hq).1).2⟩) h5
    omega

/-- Pages that aren't free come back. -/
theorem gv_all (T : List Nat) (S : Nat → Bool) (hn : T.Nodup) (h : ∀ q ∈ T, S q = false) : gv S T = some (setH S T) := by
  induction T generalizing S with
  | nil => rw [setH_nil]; rfl
  | cons q T ih =>
    have h2 := List.nodup_cons.1 hn
    rw [gv, if_neg (by rw [h q (by simp)]; decide), ih (upd S q true) h2.2 (fun x hx => by
      have hne : x ≠ q := fun e => h2.1 (e ▸ hx)
      rw [upd_other hne]; exact h x (by simp [hx]))]
    congr 1
    funext j
    unfold setH upd
    by_cases hj : j = q
    · simp [hj]
    · simp [hj]

theorem hc_setH {s : Sh} {H : Nat → Bool} (T : List Nat) (hn : T.Nodup) (h : ∀ q ∈ T, s.data ≤ q ∧ q < s.pages ∧ H q = false) : hc s (setH H T) = hc s H + T.length := by
  induction T generalizing H with
  | nil => rw [setH_nil]; simp
  | cons q T ih =>
    have h2 := List.nodup_cons.1 hn
    have h1 := h q (by simp)
    have e : setH H (q :: T) = setH (upd H q true) T := by
      funext j
      unfold setH upd
      by_cases hj : j = q
      · simp [hj]
      · simp [hj]
    rw [e, ih h2.2 (fun x hx => by
      have hne : x ≠ q := fun e => h2.1 (e ▸ hx)
      rw [upd_other hne]; exact h x (by simp [hx]))]
    have := hc_upd (H := H) (b := true) h1.1 h1.2.1
    rw [h1.2.2] at this
    simp at this ⊢
    omega

/-- What is free, what is held: their numbers. -/
theorem mark_num {s : Sh} (hg : s.Good) {S H : Nat → Bool} (hs : ∀ i, S i = true → s.data ≤ i ∧ i < s.pages) (hm : ∀ j, s.data ≤ j → j < s.pages → S j = !H j) : cn S s.pages + hc s H + s.data = s.pages := by
  have h9 := hg.2.2.2.2.2.2.2.2
  have e1 : cn S s.pages = cn S s.data + cn (fun j => S (s.data + j)) (s.pages - s.data) := by
    rw [← cn_add]; congr 1; omega
  have e2 : cn S s.data = 0 := cn_zero fun i hi => by
    cases hx : S i with
    | false => rfl
    | true => have := hs i hx; omega
  have e3 : cn (fun j => S (s.data + j)) (s.pages - s.data) = cn (fun j => !H (s.data + j)) (s.pages - s.data) := cn_congr fun i hi => hm _ (by omega) (by omega)
  have e4 := cn_not (fun j => H (s.data + j)) (s.pages - s.data)
  unfold hc
  omega

end Go.Proofs.Ytnafocbgapianab
