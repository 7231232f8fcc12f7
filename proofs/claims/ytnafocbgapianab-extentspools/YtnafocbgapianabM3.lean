import Derived.Test.YtnafocbgapianabM2
namespace Go.Proofs.Ytnafocbgapianab
open Go

/-- withPage: a list of spans with a page more. -/
def addP (l : List (Nat × Nat)) (p : Nat) : List (Nat × Nat) :=
  match l.getLast? with
  | none => [(p, 1)]
  | some s => if s.1 + s.2 = p then l.dropLast ++ [(s.1, s.2 + 1)] else l ++ [(p, 1)]

theorem addP_nil (p : Nat) : addP [] p = [(p, 1)] := rfl
theorem addP_join (l : List (Nat × Nat)) (f c : Nat) : addP (l ++ [(f, c)]) (f + c) = l ++ [(f, c + 1)] := by
  simp [addP]
theorem addP_new (l : List (Nat × Nat)) (f c p : Nat) (h : f + c ≠ p) : addP (l ++ [(f, c)]) p = l ++ [(f, c)] ++ [(p, 1)] := by
  simp [addP, h]
theorem addP_ne (l : List (Nat × Nat)) (p : Nat) : addP l p ≠ [] := by
  unfold addP; split
  · simp
  · split <;> simp

theorem list_snoc {α : Type} (l : List α) : l = [] ∨ ∃ l' x, l = l' ++ [x] := by
  rcases List.eq_nil_or_concat l with h | ⟨l', x, h⟩
  · exact Or.inl h
  · exact Or.inr ⟨l', x, by simpa using h⟩

theorem addP_app (x l : List (Nat × Nat)) (p : Nat) (h : l ≠ []) : addP (x ++ l) p = x ++ addP l p := by
  rcases list_snoc l with rfl | ⟨l', ⟨f, c⟩, rfl⟩
  · exact absurd rfl h
  · rw [← List.append_assoc]
    by_cases e : f + c = p
    · subst e
      rw [addP_join, addP_join, List.append_assoc]
    · rw [addP_new _ _ _ _ e, addP_new _ _ _ _ e]; simp

theorem foldl_app (ps : List Nat) (x l : List (Nat × Nat)) (h : l ≠ []) : ps.foldl addP (x ++ l) = x ++ ps.foldl addP l := by
  induction ps generalizing l with
  | nil => rfl
  | cons p ps ih => rw [List.foldl_cons, List.foldl_cons, addP_app _ _ _ h, ih _ (addP_ne _ _)]

/-- The pages of a list of spans, in order. -/
def pagesOf (l : List (Nat × Nat)) : List Nat := l.flatMap fun s => List.range' s.1 s.2

theorem pagesOf_app (a b : List (Nat × Nat)) : pagesOf (a ++ b) = pagesOf a ++ pagesOf b := by simp [pagesOf]

theorem pagesOf_addP (l : List (Nat × Nat)) (p : Nat) : pagesOf (addP l p) = pagesOf l ++ [p] := by
  rcases list_snoc l with rfl | ⟨l', ⟨f, c⟩, rfl⟩
  · simp [addP_nil, pagesOf]
  · by_cases e : f + c = p
    · subst e
      rw [addP_join, pagesOf_app, pagesOf_app]
      simp [pagesOf, List.range'_concat]
    · rw [addP_new _ _ _ _ e, pagesOf_app]
      simp [pagesOf]

theorem pagesOf_fold (ps : List Nat) (l : List (Nat × Nat)) : pagesOf (ps.foldl addP l) = pagesOf l ++ ps := by
  induction ps generalizing l with
  | nil => simp
  | cons p ps ih => rw [List.foldl_cons, ih, pagesOf_addP]; simp

/-- Spans of one page at least, no two neighbours of which touch in this order. -/
def Neat : List (Nat × Nat) → Prop
  | [] => True
  | [s] => 1 ≤ s.2
  | s :: t :: l => 1 ≤ s.2 ∧ s.1 + s.2 ≠ t.1 ∧ Neat (t :: l)

theorem neat_snoc (l : List (Nat × Nat)) (f c p d : Nat) : Neat (l ++ [(f, c)]) → 1 ≤ d → f + c ≠ p → Neat (l ++ [(f, c)] ++ [(p, d)]) := by
  induction l with
  | nil => intro h hd e; exact ⟨h, e, hd⟩
  | cons s l ih =>
    intro h hd e
    cases l with
    | nil => exact ⟨h.1, h.2.1, ih h.2.2 hd e⟩
    | cons t l => exact ⟨h.1, h.2.1, ih h.2.2 hd e⟩

theorem neat_grow (l : List (Nat × Nat)) (f c : Nat) : Neat (l ++ [(f, c)]) → Neat (l ++ [(f, c + 1)]) := by
  induction l with
  | nil => intro h; show 1 ≤ c + 1; omega
  | cons s l ih =>
    intro h
    cases l with
    | nil => exact ⟨h.1, h.2.1, ih h.2.2⟩
    | cons t l => exact ⟨h.1, h.2.1, ih h.2.2⟩

theorem neat_addP (l : List (Nat × Nat)) (p : Nat) (h : Neat l) : Neat (addP l p) := by
  rcases list_snoc l with rfl | ⟨l', ⟨f, c⟩, rfl⟩
  · exact Nat.le_refl 1
  · by_cases e : f + c = p
    · subst e; rw [addP_join]; exact neat_grow _ _ _ h
    · rw [addP_new _ _ _ _ e]; exact neat_snoc _ _ _ _ _ h (Nat.le_refl 1) e

theorem neat_fold (ps : List Nat) (l : List (Nat × Nat)) (h : Neat l) : Neat (ps.foldl addP l) := by
  induction ps generalizing l with
  | nil => exact h
  | cons p ps ih => exact ih _ (neat_addP _ _ h)

theorem neat_get {l : List (Nat × Nat)} (h : Neat l) (i : Nat) (hi : i < l.length) : 1 ≤ (l[i]).2 ∧ ∀ h2 : i + 1 < l.length, (l[i]).1 + (l[i]).2 ≠ (l[i + 1]).1 := by
  induction l generalizing i with
  | nil => simp at hi
  | cons s l ih =>
    cases l with
    | nil =>
      have : i = 0 := by simp at hi; omega
      subst this
      exact ⟨h, fun h2 => by simp at h2⟩
    | cons t l =>
      cases i with
      | zero => exact ⟨h.1, fun _ => h.2.1⟩
      | succ i =>
        obtain ⟨h1, h2⟩ := ih h.2.2 i (by simpa using hi)
        exact ⟨h1, fun h3 => h2 (by simpa using h3)⟩

/-- The numbers from lo on, n of them, whose mark is on. -/
def fl (f : Nat → Bool) (lo n : Nat) : List Nat := (List.range' lo n).filter f

theorem fl_zero (f : Nat → Bool) (lo : Nat) : fl f lo 0 = [] := rfl
theorem fl_succ (f : Nat → Bool) (lo n : Nat) : fl f lo (n + 1) = fl f lo n ++ (if f (lo + n) = true then [lo + n] else []) := by
  unfold fl
  rw [List.range'_concat, List.filter_append]
  congr 1
  cases h : f (lo + 1 * n) <;> simp_all
theorem fl_cons (f : Nat → Bool) (lo n : Nat) : fl f lo (n + 1) = (if f lo = true then [lo] else []) ++ fl f (lo + 1) n := by
  unfold fl
  rw [List.range'_succ, List.filter_cons]
  split <;> simp_all
theorem fl_add (f : Nat → Bool) (lo a b : Nat) : fl f lo (a + b) = fl f lo a ++ fl f (lo + a) b := by
  unfold fl
  rw [← List.filter_append, List.range'_append_1]
theorem mem_fl {f : Nat → Bool} {lo n p : Nat} : p ∈ fl f lo n ↔ lo ≤ p ∧ p < lo + n ∧ f p = true := by
  simp [fl, List.mem_range'_1, and_assoc]
theorem fl_all {f : Nat → Bool} {lo n : Nat} (h : ∀ i, lo ≤ i → i < lo + n → f i = true) : fl f lo n = List.range' lo n := by
  unfold fl
  rw [List.filter_eq_self]
  intro a ha
  rw [List.mem_range'_1] at ha
  exact h a ha.1 ha.2
theorem fl_none {f : Nat → Bool} {lo n : Nat} (h : ∀ i, lo ≤ i → i < lo + n → f i = false) : fl f lo n = [] := by
  rw [List.eq_nil_iff_forall_not_mem]
  intro a ha
  rw [mem_fl] at ha
  rw [h a ha.1 ha.2.1] at ha
  exact absurd ha.2.2 (by decide)
theorem fl_congr {f g : Nat → Bool} {lo n : Nat} (h : ∀ i, lo ≤ i → i < lo + n → f i = g i) : fl f lo n = fl g lo n := by
  unfold fl
  apply List.filter_congr
  intro a ha
  rw [List.mem_range'_1] at ha
  exact h a ha.1 ha.2
theorem fl_length (f : Nat → Bool) (lo n : Nat) : (fl f lo n).length = cn (fun j => f (lo + j)) n := by
  induction n with
  | zero => rfl
  | succ n ih =>
    rw [fl_succ, cn_succ, List.length_append, ih]
    congr 1
    cases h : f (lo + n) <;> simp
theorem fl_nodup (f : Nat → Bool) (lo n : Nat) : (fl f lo n).Nodup := List.Pairwise.filter _ List.nodup_range'

/-- The spans of these numbers. -/
def sp (f : Nat → Bool) (lo n : Nat) : List (Nat × Nat) := (fl f lo n).foldl addP []

theorem sp_zero (f : Nat → Bool) (lo : Nat) : sp f lo 0 = [] := rfl
theorem sp_succ (f : Nat → Bool) (lo n : Nat) : sp f lo (n + 1) = if f (lo + n) = true then addP (sp f lo n) (lo + n) else sp f lo n := by
  unfold sp
  rw [fl_succ, List.foldl_append]
  split <;> simp
theorem sp_skip {f : Nat → Bool} {lo : Nat} (n : Nat) (h : f lo = false) : sp f lo (n + 1) = sp f (lo + 1) n := by
  unfold sp
  rw [fl_cons, h]; simp
theorem sp_neat (f : Nat → Bool) (lo n : Nat) : Neat (sp f lo n) := neat_fold _ _ trivial
theorem sp_pages (f : Nat → Bool) (lo n : Nat) : pagesOf (sp f lo n) = fl f lo n := by
  unfold sp; rw [pagesOf_fold]; simp [pagesOf]
theorem sp_congr {f g : Nat → Bool} {lo n : Nat} (h : ∀ i, lo ≤ i → i < lo + n → f i = g i) : sp f lo n = sp g lo n := by
  unfold sp; rw [fl_congr h]

theorem fold_range (n f c : Nat) (hc : 1 ≤ c) : (List.range' (f + c) n).foldl addP [(f, c)] = [(f, c + n)] := by
  induction n generalizing c with
  | zero => rfl
  | succ n ih =>
    rw [List.range'_succ, List.foldl_cons]
    have : addP [(f, c)] (f + c) = [(f, c + 1)] := addP_join [] f c
    rw [this, show f + c + 1 = f + (c + 1) by omega, ih (c + 1) (by omega)]
    simp; omega

theorem fold_apart (ps : List Nat) (f c : Nat) (h : ∀ p, p ∈ ps → f + c < p) : ps.foldl addP [(f, c)] = (f, c) :: ps.foldl addP [] := by
  cases ps with
  | nil => rfl
  | cons p ps =>
    rw [List.foldl_cons, List.foldl_cons]
    have e : addP [(f, c)] p = [(f, c)] ++ [(p, 1)] := addP_new [] f c p (by have := h p (by simp); omega)
    rw [e, foldl_app _ _ _ (by simp)]; rfl

theorem sp_run {f : Nat → Bool} {lo n m : Nat} (hn : 1 ≤ n) (h : ∀ i, i < n → f (lo + i) = true) (he : m = 0 ∨ f (lo + n) = false) : sp f lo (n + m) = (lo, n) :: sp f (lo + n) m := by
  unfold sp
  rw [fl_add, List.foldl_append, fl_all (fun i h1 h2 => by have := h (i - lo) (by omega); rwa [show lo + (i - lo) = i by omega] at this)]
  obtain ⟨k, rfl⟩ : ∃ k, n = k + 1 := ⟨n - 1, by omega⟩
  rw [List.range'_succ, List.foldl_cons, addP_nil, fold_range _ _ _ (by omega)]
  rw [show 1 + k = k + 1 by omega]
  apply fold_apart
  intro p hp
  rw [mem_fl] at hp
  rcases he with rfl | he
  · omega
  · have : p ≠ lo + (k + 1) := by rintro rfl; rw [he] at hp; exact absurd hp.2.2 (by decide)
    omega

end Go.Proofs.Ytnafocbgapianab
