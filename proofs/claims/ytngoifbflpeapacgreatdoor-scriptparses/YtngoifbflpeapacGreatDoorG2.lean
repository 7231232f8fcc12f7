import Derived.Test.YtngoifbflpeapacGreatDoorG1
namespace Go.Proofs.YtngoifbflpeapacGreatDoor
open Go.RowKit Go.Maps
set_option maxRecDepth 100000

theorem unq_len : ∀ (n : Nat) (t acc : Bs) (k : Nat), t.length ≤ n → ∀ a m, unq acc k t = some (a, m) → a.length + k ≤ acc.length + m := by
  intro n
  induction n with
  | zero =>
    intro t acc k h a m e
    have : t = [] := List.length_eq_zero_iff.1 (by omega)
    subst this
    rw [unq_nil] at e; cases e
  | succ n ih =>
    intro t acc k h a m e
    match t with
    | [] => rw [unq_nil] at e; cases e
    | b :: r =>
      rw [List.length_cons] at h
      by_cases h34 : b = 34
      · subst h34
        rw [unq_end] at e
        cases e
        omega
      · by_cases h92 : b = 92
        · subst h92
          by_cases hm : (mnt r).2 = 0
          · rw [unq_bad _ _ _ hm] at e; cases e
          · rw [unq_esc _ _ _ hm] at e
            have hle := mnt_le r
            have := ih (r.drop (mnt r).2) _ _ (by rw [List.length_drop]; omega) a m e
            rw [List.length_append, List.length_singleton] at this
            omega
        · cases hp : prt b with
          | true =>
            rw [unq_prt _ _ _ _ h34 h92 hp] at e
            have := ih r _ _ (by omega) a m e
            rw [List.length_append, List.length_singleton] at this
            omega
          | false => rw [unq_not _ _ _ _ h34 h92 hp] at e; cases e
theorem uq_len {t a : Bs} {m : Nat} (h : uq t = some (a, m)) : a.length ≤ t.length := by
  have h1 := (uq_le h).1
  match t with
  | [] => cases h
  | b :: r =>
    have e : (if b = 34 then unq [] 1 r else none) = some (a, m) := h
    by_cases hb : b = 34
    · rw [if_pos hb] at e
      have := unq_len r.length r [] 1 (Nat.le_refl _) a m e
      rw [List.length_nil] at this
      omega
    · rw [if_neg hb] at e; cases e
theorem fw_text (t : Bs) : (fw t).1.text.size ≤ t.length := by
  unfold fw
  split
  · unfold fwQ
    split
    · exact Nat.zero_le _
    · rename_i a n h
      split
      · exact Nat.zero_le _
      · show (mkB a).size ≤ _
        rw [mkB_size]; exact uq_len h
  · unfold fwP
    split
    · show (mkB _).size ≤ _
      rw [mkB_size, List.length_take]; omega
    · exact Nat.zero_le _
theorem wds_texts : ∀ (n : Nat) (t : Bs) (acc : List Wd) (M : Nat), t.length ≤ n → t.length ≤ M → (∀ x ∈ acc, x.text.size ≤ M) → ∀ ws, wds acc t = some ws → (∀ x ∈ ws, x.text.size ≤ M) ∧ ws.length ≤ acc.length + t.length := by
  intro n
  induction n with
  | zero =>
    intro t acc M h hM ha ws e
    have : t = [] := List.length_eq_zero_iff.1 (by omega)
    subst this
    rw [wds_nil] at e
    cases e
    exact ⟨ha, by simp⟩
  | succ n ih =>
    intro t acc M h hM ha ws e
    match t with
    | [] =>
      rw [wds_nil] at e
      cases e
      exact ⟨ha, by simp⟩
    | b :: r =>
      rw [List.length_cons] at h hM
      by_cases hb : b = 32
      · subst hb
        rw [wds_blank] at e
        have := ih r acc M (by omega) (by omega) ha ws e
        exact ⟨this.1, by rw [List.length_cons]; omega⟩
      · by_cases hf : (fw (b :: r)).2 = 0
        · rw [wds_bad hb hf] at e; cases e
        · rw [wds_word hb hf] at e
          have hle := fw_le (b :: r)
          rw [List.length_cons] at hle
          have hd : ((b :: r).drop (fw (b :: r)).2).length = r.length + 1 - (fw (b :: r)).2 := by rw [List.length_drop, List.length_cons]
          have := ih _ _ M (by rw [hd]; omega) (by rw [hd]; omega) (by
            intro x hx
            rcases List.mem_append.1 hx with hx | hx
            · exact ha x hx
            · have : x = (fw (b :: r)).1 := by simpa using hx
              rw [this]
              have := fw_text (b :: r)
              rw [List.length_cons] at this
              omega) ws e
          rw [hd, List.length_append, List.length_singleton] at this
          exact ⟨this.1, by rw [List.length_cons]; omega⟩
/-- Line's answer. -/
def lnE (t : Bs) : Int := if 20000 < t.length then 191 else match wds [] t with
  | none => 194
  | some ws => match kindOf ws with
    | none => 190
    | some k => if takesF k.args (ws.drop 1) = true then (match stF k.args 0 (st0 k.num) (ws.drop 1) with
      | none => 193
      | some _ => 0) else 192
def lnS (t : Bs) : St := if 20000 < t.length then st0 0 else match wds [] t with
  | none => st0 0
  | some ws => match kindOf ws with
    | none => st0 0
    | some k => if takesF k.args (ws.drop 1) = true then (stF k.args 0 (st0 k.num) (ws.drop 1)).getD (st0 0) else st0 0
theorem wcells_drop : ∀ (l : List Wd), wcells (l.drop 1) = (wcells l).drop 2
  | [] => rfl
  | _ :: _ => rfl
/-- A list of words without its first. -/
theorem Row.tail {W : World} {g n c : Nat} {l : List Wd} (h : Row W (.slice (some ⟨g, 0, none⟩) n c) l.length (wcells l)) (_ : 1 ≤ l.length) : Row W (.slice (some ⟨g, 2, none⟩) (n - 1) (c - 1)) (l.drop 1).length (wcells (l.drop 1)) ∧ (l.length = 1 → ∀ o c', Row W (.slice (some ⟨g, o, none⟩) 0 c') (l.drop 1).length (wcells (l.drop 1))) := by
  obtain ⟨p, c', e, hc, hr⟩ := h
  cases e
  constructor
  · refine ⟨_, _, by rw [List.length_drop], by rw [List.length_drop]; omega, fun h0 => ?_⟩
    rw [List.length_drop] at h0
    obtain ⟨b, o, e2, hb, hcell⟩ := hr (by omega)
    cases e2
    refine ⟨_, _, rfl, hb, fun j u hj => ?_⟩
    rw [wcells_drop, List.getElem?_drop] at hj
    have := hcell _ _ hj
    rw [Nat.zero_add] at this
    exact this
  · intro h1 o c'
    have : l.drop 1 = [] := List.drop_of_length_le (by omega)
    rw [this]
    exact ⟨_, _, rfl, Nat.zero_le _, fun h => absurd h (by simp)⟩
end Go.Proofs.YtngoifbflpeapacGreatDoor

