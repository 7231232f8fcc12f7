import Derived.Test.YtngoifbflpeapabDoorP9
namespace Go.Proofs.YtngoifbflpeapabDoor
open Go.RowKit Go.Maps
set_option maxRecDepth 100000

/-! A line that is read is no shorter than the line of what it tells. -/
theorem esc_four (b : UInt8) : (esc b).length ≤ 4 := by
  unfold esc
  split
  · decide
  split
  · decide
  split
  · decide
  split
  · show 1 ≤ 4; omega
  · show 4 ≤ 4; omega
theorem esc_mnt (r : Bs) (h : (mnt r).2 ≠ 0) : (esc (mnt r).1).length ≤ 1 + (mnt r).2 := by
  match r, h with
  | [], h => exact absurd rfl h
  | b :: r, h =>
    by_cases h34 : b = 34
    · subst h34; show (esc 34).length ≤ 2; decide
    by_cases h92 : b = 92
    · subst h92; show (esc 92).length ≤ 2; decide
    by_cases h110 : b = 110
    · subst h110; show (esc 10).length ≤ 2; decide
    by_cases h120 : b = 120
    · have e : mnt (b :: r) = xd r := by subst h120; rfl
      rw [e] at h ⊢
      have h4 := esc_four (xd r).1
      have : (xd r).2 = 0 ∨ (xd r).2 = 3 := by
        unfold xd
        split
        · split
          · right; rfl
          · left; rfl
        · left; rfl
      omega
    · exfalso
      apply h
      show (if b = 34 then ((34 : UInt8), 1) else if b = 92 then (92, 1) else if b = 110 then (10, 1) else if b = 120 then xd r else (0, 0)).2 = 0
      rw [if_neg h34, if_neg h92, if_neg h110, if_neg h120]
theorem unq_short : ∀ (n : Nat) (t acc : Bs) (k : Nat), t.length ≤ n → ∀ a m, unq acc k t = some (a, m) → ∃ s, a = acc ++ s ∧ (s.flatMap esc).length + k + 1 ≤ m := by
  intro n
  induction n with
  | zero =>
    intro t acc k h a m e
    have : t = [] := List.length_eq_zero_iff.1 (by omega)
    subst this
    rw [unq_nil] at e; cases e
  | succ n ih =>
    intro t acc k h a m e
    match t with
    | [] => rw [unq_nil] at e; cases e
    | b :: r =>
      rw [List.length_cons] at h
      by_cases h34 : b = 34
      · subst h34
        rw [unq_end] at e
        cases e
        exact ⟨[], by simp, by simp⟩
      · by_cases h92 : b = 92
        · subst h92
          by_cases hm : (mnt r).2 = 0
          · rw [unq_bad _ _ _ hm] at e; cases e
          · rw [unq_esc _ _ _ hm] at e
            have hle := mnt_le r
            obtain ⟨s, e1, e2⟩ := ih (r.drop (mnt r).2) _ _ (by rw [List.length_drop]; omega) a m e
            have h3 := esc_mnt r hm
            refine ⟨(mnt r).1 :: s, by rw [e1]; simp, ?_⟩
            rw [List.flatMap_cons, List.length_append]
            omega
        · cases hp : prt b with
          | true =>
            rw [unq_prt _ _ _ _ h34 h92 hp] at e
            obtain ⟨s, e1, e2⟩ := ih r _ _ (by omega) a m e
            have h10 : ¬ b = 10 := by rintro rfl; cases hp
            have h3 : esc b = [b] := by unfold esc; rw [if_neg h34, if_neg h92, if_neg h10, if_pos hp]
            refine ⟨b :: s, by rw [e1]; simp, ?_⟩
            rw [List.flatMap_cons, List.length_append, h3, List.length_singleton]
            omega
          | false => rw [unq_not _ _ _ _ h34 h92 hp] at e; cases e
theorem uq_short {t a : Bs} {m : Nat} (h : uq t = some (a, m)) : (quo a).length ≤ m := by
  match t with
  | [] => cases h
  | b :: r =>
    have e : (if b = 34 then unq [] 1 r else none) = some (a, m) := h
    by_cases hb : b = 34
    · rw [if_pos hb] at e
      obtain ⟨s, e1, e2⟩ := unq_short r.length r [] 1 (Nat.le_refl _) a m e
      rw [List.nil_append] at e1
      subst e1
      unfold quo
      rw [List.length_cons, List.length_append, List.length_singleton]
      omega
    · rw [if_neg hb] at e; cases e
theorem upto_drop (t : Bs) : t.drop (upto 32 t) = [] ∨ ∃ r, t.drop (upto 32 t) = 32 :: r := by
  induction t with
  | nil => left; rfl
  | cons b t ih =>
    by_cases hb : b = 32
    · right
      subst hb
      exact ⟨t, by unfold upto; rw [List.takeWhile_cons, if_neg (by simp)]; rfl⟩
    · rw [upto_cons hb, List.drop_succ_cons]
      exact ih
theorem text_sizes : ∀ k ∈ kds, ∀ {xs : List Wd} {t : St} {M : Nat}, k.args.foldl (fld t) (st0 k.num) = t → (k.args.flatMap fun a => tlW a t) = xs → (∀ y ∈ xs, y.text.size ≤ M) → t.a.size ≤ M ∧ t.b.size ≤ M := by
  intro k hk xs t M hb hw h
  have key : ∀ (l : List Ar), (∀ y ∈ (l.flatMap fun a => tlW a t), y.text.size ≤ M) → (Ar.A ∈ l → t.a.size ≤ M) ∧ (Ar.B ∈ l → t.b.size ≤ M) := by
    intro l hl
    constructor
    · intro hA
      exact hl ⟨t.a, true⟩ (List.mem_flatMap.2 ⟨.A, hA, List.mem_singleton.2 rfl⟩)
    · intro hB
      exact hl ⟨t.b, true⟩ (List.mem_flatMap.2 ⟨.B, hB, List.mem_singleton.2 rfl⟩)
  have hh := key k.args (by rw [hw]; exact h)
  have non : (Ar.A ∉ k.args → t.a.size = 0) ∧ (Ar.B ∉ k.args → t.b.size = 0) := by
    simp only [kds, List.mem_cons, List.not_mem_nil, or_false] at hk
    rcases hk with rfl | rfl | rfl | rfl | rfl | rfl | rfl | rfl | rfl | rfl | rfl | rfl | rfl | rfl | rfl | rfl | rfl | rfl | rfl | rfl | rfl
    all_goals
      rw [← hb]
      constructor
      · first | (intro _; rfl) | (intro hn; exact absurd (by simp) hn)
      · first | (intro _; rfl) | (intro hn; exact absurd (by simp) hn)
  constructor
  · rcases Classical.em (Ar.A ∈ k.args) with h1 | h1
    · exact hh.1 h1
    · rw [non.1 h1]; omega
  · rcases Classical.em (Ar.B ∈ k.args) with h1 | h1
    · exact hh.2 h1
    · rw [non.2 h1]; omega
/-- The first word is no shorter than it is written, and a blank follows, or nothing. -/
theorem fw_short (t : Bs) (h : (fw t).2 ≠ 0) : (tk (fw t).1).length ≤ (fw t).2 ∧ (t.drop (fw t).2 = [] ∨ ∃ r, t.drop (fw t).2 = 32 :: r) := by
  unfold fw at h ⊢
  split at h
  · rename_i h34
    rw [if_pos h34]
    unfold fwQ at h ⊢
    cases hu : uq t with
    | none => rw [hu] at h; exact absurd rfl h
    | some p =>
      obtain ⟨a, n⟩ := p
      rw [hu] at h
      simp only at h ⊢
      by_cases hc : n < t.length ∧ t.getD n 0 ≠ 32
      · rw [if_pos hc] at h; exact absurd rfl h
      · rw [if_neg hc]
        refine ⟨?_, ?_⟩
        · show (if true = true then quo (mkB a).data.toList else _).length ≤ n
          rw [if_pos rfl, data_mkB]
          exact uq_short hu
        · show t.drop n = [] ∨ ∃ r, t.drop n = 32 :: r
          by_cases hn : n < t.length
          · right
            have : t.getD n 0 = 32 := by
              rcases Classical.em (t.getD n 0 = 32) with h1 | h1
              · exact h1
              · exact absurd ⟨hn, h1⟩ hc
            exact ⟨t.drop (n + 1), by rw [drop_cons hn, this]⟩
          · left; exact List.drop_of_length_le (by omega)
  · rename_i h34
    rw [if_neg h34]
    unfold fwP at h ⊢
    by_cases hc : (t.take (upto 32 t)).all (· != 34) = true
    · rw [if_pos hc]
      refine ⟨?_, ?_⟩
      · show (if false = true then _ else (mkB (t.take (upto 32 t))).data.toList).length ≤ upto 32 t
        rw [if_neg (by decide), data_mkB, List.length_take]
        omega
      · show t.drop (upto 32 t) = [] ∨ ∃ r, t.drop (upto 32 t) = 32 :: r
        exact upto_drop t
    · rw [if_neg hc] at h; exact absurd rfl h
theorem wds_short : ∀ (n : Nat) (t : Bs) (acc : List Wd), t.length ≤ n → ∀ ws, wds acc t = some ws → ∃ new, ws = acc ++ new ∧ (joinB new).length ≤ t.length := by
  intro n
  induction n with
  | zero =>
    intro t acc h ws e
    have : t = [] := List.length_eq_zero_iff.1 (by omega)
    subst this
    rw [wds_nil] at e
    cases e
    exact ⟨[], by simp, by simp [joinB]⟩
  | succ n ih =>
    intro t acc h ws e
    match t with
    | [] =>
      rw [wds_nil] at e
      cases e
      exact ⟨[], by simp, by simp [joinB]⟩
    | b :: r =>
      rw [List.length_cons] at h
      by_cases hb : b = 32
      · subst hb
        rw [wds_blank] at e
        obtain ⟨new, e1, e2⟩ := ih r acc (by omega) ws e
        exact ⟨new, e1, by rw [List.length_cons]; omega⟩
      · by_cases hf : (fw (b :: r)).2 = 0
        · rw [wds_bad hb hf] at e; cases e
        · rw [wds_word hb hf] at e
          have hle := fw_le (b :: r)
          rw [List.length_cons] at hle
          obtain ⟨h1, h2⟩ := fw_short (b :: r) hf
          have hd : ((b :: r).drop (fw (b :: r)).2).length = r.length + 1 - (fw (b :: r)).2 := by rw [List.length_drop, List.length_cons]
          rcases h2 with h2 | ⟨r2, h2⟩
          · rw [h2, wds_nil] at e
            cases e
            refine ⟨[(fw (b :: r)).1], rfl, ?_⟩
            show (tk (fw (b :: r)).1).length ≤ _
            rw [List.length_cons]
            omega
          · rw [h2, wds_blank] at e
            rw [h2, List.length_cons] at hd
            obtain ⟨new, e1, e2⟩ := ih r2 _ (by omega) ws e
            refine ⟨(fw (b :: r)).1 :: new, by rw [e1]; simp, ?_⟩
            match new, e2 with
            | [], _ =>
              show (tk (fw (b :: r)).1).length ≤ _
              rw [List.length_cons]; omega
            | y :: new, e2 =>
              show (tk (fw (b :: r)).1 ++ 32 :: joinB (y :: new)).length ≤ _
              rw [List.length_append, List.length_cons, List.length_cons]
              omega
/-- A line that is read: what it tells has a line, which is no longer and is read as the same. -/
theorem back_all {x : Bs} (h : lnE x = 0) : x.length ≤ 20000 ∧ OkS (lnS x) ∧ prF (lnS x) ≠ [] ∧ (prF (lnS x)).length ≤ x.length ∧ lnE (prF (lnS x)) = 0 ∧ lnS (prF (lnS x)) = lnS x := by
  have hE := h
  unfold lnE at h
  by_cases hx : 20000 < x.length
  · rw [if_pos hx] at h; cases h
  rw [if_neg hx] at h
  cases hw : wds [] x with
  | none => rw [hw] at h; cases h
  | some ws =>
    rw [hw] at h
    simp only at h
    cases hk : kindOf ws with
    | none => rw [hk] at h; cases h
    | some k =>
      rw [hk] at h
      simp only at h
      by_cases ht : takesF k.args (ws.drop 1) = true
      · rw [if_pos ht] at h
        cases hs : stF k.args 0 (st0 k.num) (ws.drop 1) with
        | none => rw [hs] at h; cases h
        | some t =>
          have eS : lnS x = t := by
            unfold lnS
            rw [if_neg hx, hw]
            simp only [hk, ht, if_true, hs, Option.getD_some]
          rw [eS]
          match ws, hk with
          | x0 :: xs, hk =>
            have hq : x0.quoted = false := by
              cases hq : x0.quoted with
              | false => rfl
              | true => simp [kindOf, hq] at hk
            have hkd : kdOf x0.text = some k := by simpa [kindOf, hq] using hk
            have hmem : k ∈ kds := List.mem_of_find?_eq_some hkd
            have hword : k.word = x0.text := toList_inj (by have := List.find?_some hkd; simpa using this)
            rw [List.drop_one, List.tail_cons] at ht hs
            have T := told_any k hmem ht hs
            have htx := wds_texts _ _ [] 20000 (Nat.le_refl _) (by omega) (fun x hx => by cases hx) _ hw
            have hlen : t.l.length ≤ 20000 := by have := lnS_len x; rw [eS] at this; exact this
            have elW : lineW k t = x0 :: xs := by
              show (⟨k.word, false⟩ : Wd) :: (k.args.flatMap fun a => tlW a t) = x0 :: xs
              rw [T.w, hword]
              obtain ⟨tx, q⟩ := x0
              simp only at hq
              rw [hq]
            have hA : t.a.size ≤ 20000 ∧ t.b.size ≤ 20000 := text_sizes k hmem T.b T.w (fun y hy => htx.1 y (List.mem_cons_of_mem _ hy))
            have ok : OkS t := ⟨by omega, by omega, T.n, T.m, T.k, by omega, T.o⟩
            obtain ⟨new, e1, e2⟩ := wds_short _ x [] (Nat.le_refl _) _ hw
            rw [List.nil_append] at e1
            subst e1
            have el : (line k t).length ≤ x.length := by rw [line_W, elW]; exact e2
            have hp := pr_line ok hmem T.b (by omega)
            have hb := line_back ok hmem 0 (by simp; omega)
            have e0 : line k t ++ List.replicate 0 32 = line k t := by simp
            rw [e0] at hb
            rw [hp]
            exact ⟨by omega, ok, line_ne hmem t, el, hb.1, by rw [hb.2]; exact T.b⟩
      · rw [if_neg ht] at h; cases h
end Go.Proofs.YtngoifbflpeapabDoor

