import Derived.Test.YtendmohjodeelaaE1
namespace Go.Proofs.Ytendmohjodeelaa
open Go.RowKit Go.Maps Go.Great Go.Sort Go.Shelf

/-! The steps that Order keeps: good ones, each name of a directory once. -/
def uqStep (U : List OpT) (t : OpT) : List OpT := if U.any (sameK t) then U else if valid t.s then U ++ [t] else U
def uqL (l : List OpT) : List OpT := l.foldl uqStep []
def Unlike (U : List OpT) : Prop := (∀ t ∈ U, valid t.s = true) ∧ U.Pairwise (fun u t => sameK t u = false)
theorem sameK_comm (t u : OpT) : sameK t u = sameK u t := by
  unfold sameK
  rw [decide_eq_decide.2 (show u.s = t.s ↔ t.s = u.s from ⟨Eq.symm, Eq.symm⟩), decide_eq_decide.2 (show inoF u.d = inoF t.d ↔ inoF t.d = inoF u.d from ⟨Eq.symm, Eq.symm⟩)]
theorem uq_take {l : List OpT} {i : Nat} (h : i < l.length) : uqL (l.take (i + 1)) = uqStep (uqL (l.take i)) (l.getD i opZ) := by
  rw [take_getD opZ h]; simp [uqL, List.foldl_append]
theorem uqStep_unlike {U : List OpT} (h : Unlike U) (t : OpT) : Unlike (uqStep U t) := by
  unfold uqStep
  split
  · exact h
  · rename_i ha
    split
    · rename_i hv
      refine ⟨fun u hu => ?_, List.pairwise_append.2 ⟨h.2, List.pairwise_singleton .., fun u hu v hv' => ?_⟩⟩
      · rcases List.mem_append.1 hu with hu | hu
        · exact h.1 u hu
        · rw [List.mem_singleton.1 hu]; exact hv
      · rw [List.mem_singleton.1 hv']
        rw [Bool.not_eq_true, List.any_eq_false] at ha
        simpa using ha u hu
    · exact h
theorem uqStep_len (U : List OpT) (t : OpT) : (uqStep U t).length ≤ U.length + 1 := by
  unfold uqStep; split
  · omega
  · split
    · simp
    · omega
theorem uq_unlike (l : List OpT) : ∀ i, i ≤ l.length → Unlike (uqL (l.take i)) ∧ (uqL (l.take i)).length ≤ i
  | 0, _ => ⟨⟨by simp [uqL], by simp [uqL]⟩, by simp [uqL]⟩
  | i + 1, h => by
    have ih := uq_unlike l i (by omega)
    rw [uq_take (by omega)]
    refine ⟨uqStep_unlike ih.1 _, ?_⟩
    have := uqStep_len (uqL (l.take i)) (l.getD i opZ)
    omega
def rowT (t : OpT) : Rw := (inoF t.d, t.s, inoF t.i)
theorem unlike_snoc {U : List OpT} {t : OpT} (h : Unlike (U ++ [t])) : Unlike U ∧ valid t.s = true ∧ U.any (sameK t) = false := by
  have h2 := List.pairwise_append.1 h.2
  refine ⟨⟨fun u hu => h.1 u (List.mem_append_left _ hu), h2.1⟩, h.1 t (by simp), ?_⟩
  rw [List.any_eq_false]
  intro u hu
  have := h2.2.2 u hu t (by simp)
  simpa using this
theorem unlike_rev {U : List OpT} (h : Unlike U) : Unlike U.reverse :=
  ⟨fun t ht => h.1 t (List.mem_reverse.1 ht), List.pairwise_reverse.2 (h.2.imp fun h => by rw [sameK_comm]; exact h)⟩
theorem unlike_sub {U V : List OpT} (h : Unlike U) (hs : V.Sublist U) : Unlike V := ⟨fun t ht => h.1 t (hs.subset ht), h.2.sublist hs⟩
/-- One more unlike good step: put in, told OK. -/
theorem fill_put {U : List OpT} {t : OpT} (h : Unlike (U ++ [t])) : putE (fillS U) (inoF t.d) t.s (inoF t.i) = 0 ∧ fillS (U ++ [t]) = insS (rowT t) (fillS U) := by
  obtain ⟨_, hv, ha⟩ := unlike_snoc h
  have hh := fill_has t hv U.length U (Nat.le_refl _)
  rw [List.take_length, ha] at hh
  refine ⟨?_, by rw [fill_snoc]; exact puts_new hv hh⟩
  unfold putE
  rw [hh, hv, inoF_is, inoF_is]
  simp
theorem fill_perm : ∀ (n : Nat) (U : List OpT), U.length = n → Unlike U → (fillS U).Perm (U.map rowT)
  | 0, U, hn, _ => by rw [List.length_eq_zero_iff.1 hn]; exact List.Perm.nil
  | n + 1, U, hn, h => by
    have hne : U ≠ [] := fun e => by rw [e] at hn; simp at hn
    have e := List.dropLast_concat_getLast hne
    obtain ⟨V, hV⟩ : ∃ V, U.dropLast = V := ⟨_, rfl⟩
    obtain ⟨t, ht⟩ : ∃ t, U.getLast hne = t := ⟨_, rfl⟩
    rw [hV, ht] at e
    rw [← e] at h hn ⊢
    have ih := fill_perm n V (by simpa using hn) (unlike_snoc h).1
    rw [(fill_put h).2, List.map_append]
    exact (ins_perm _ _).trans ((ih.cons _).trans (List.perm_append_comm (l₁ := [rowT t])))
theorem rise_unique : ∀ {S T : List Rw}, Rise S → Rise T → S.Perm T → S = T
  | [], T, _, _, hp => (List.perm_nil.1 hp.symm).symm
  | a :: S, [], _, _, hp => (List.not_perm_cons_nil hp).elim
  | a :: S, b :: T, hS, hT, hp => by
    have hS' := List.pairwise_cons.1 hS
    have hT' := List.pairwise_cons.1 hT
    have hab : a = b := by
      rcases List.mem_cons.1 (hp.mem_iff.1 (List.mem_cons_self ..)) with h | h
      · exact h
      · rcases List.mem_cons.1 (hp.mem_iff.2 (List.mem_cons_self ..)) with h2 | h2
        · exact h2.symm
        · have h3 := hT'.1 a h
          have h4 := hS'.1 b h2
          exact absurd (rlt_trans h3 h4) (fun h5 => rlt_ne h5 ⟨rfl, rfl⟩)
    subst hab
    rw [rise_unique hS'.2 hT'.2 (List.Perm.cons_inv hp)]
/-- Put from the last on: the same names. -/
theorem fill_back {U : List OpT} (h : Unlike U) : fillS U.reverse = fillS U :=
  rise_unique (fillS_ok _).1 (fillS_ok _).1 ((fill_perm _ _ rfl (unlike_rev h)).trans (((List.reverse_perm U).map rowT).trans (fill_perm _ _ rfl h).symm))
theorem fill_count {U : List OpT} (h : Unlike U) : (fillS U).length = U.length := by rw [(fill_perm _ _ rfl h).length_eq, List.length_map]
theorem drop_rev {U : List OpT} {i : Nat} (hi : i < U.length) : (U.drop i).reverse = (U.drop (i + 1)).reverse ++ [U.getD i opZ] := by
  rw [List.drop_eq_getElem_cons hi, List.reverse_cons]
  simp [List.getD_eq_getElem?_getD, hi]
theorem back_step {U : List OpT} (h : Unlike U) {i : Nat} (hi : i < U.length) {t : OpT} (ht : U.getD i opZ = t) :
    putE (fillS (U.drop (i + 1)).reverse) (inoF t.d) t.s (inoF t.i) = 0 ∧ putS (fillS (U.drop (i + 1)).reverse) (inoF t.d) t.s (inoF t.i) = fillS (U.drop i).reverse := by
  have e := drop_rev hi
  rw [ht] at e
  have h2 : Unlike ((U.drop (i + 1)).reverse ++ [t]) := by rw [← e]; exact unlike_rev (unlike_sub h (List.drop_sublist ..))
  exact ⟨(fill_put h2).1, by rw [e, fill_snoc]⟩

end Go.Proofs.Ytendmohjodeelaa
