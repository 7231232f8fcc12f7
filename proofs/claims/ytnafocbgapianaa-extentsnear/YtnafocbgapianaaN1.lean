import Derived.Test.YtnafocbgapianaaB8
namespace Go.Proofs.Ytnafocbgapianaa
open Go.RowKit

/-! What Take takes: the first of the free pages, area by area. -/

theorem filter_upd {S : Nat → Bool} {p : Nat} {ps : List Nat} (h : p ∉ ps) : ps.filter (upd S p false) = ps.filter S := by
  apply List.filter_congr
  intro x hx
  rw [upd_other]
  rintro rfl
  exact h hx

theorem fold_take (ps : List Nat) (hn : ps.Nodup) (S : Nat → Bool) (n : Nat) (T : List Nat) :
    (ps.foldl stp (S, n, T)).2.2 = T ++ (ps.filter S).take n := by
  induction ps generalizing S n T with
  | nil => simp
  | cons p ps ih =>
    obtain ⟨h1, h2⟩ := List.nodup_cons.1 hn
    rw [List.foldl_cons]
    cases n with
    | zero => rw [stp_zero, fold_zero]; simp
    | succ n =>
      cases hp : S p with
      | true => rw [stp_free n T hp, ih h2, filter_upd h1, List.filter_cons, if_pos hp]; simp
      | false => rw [stp_held _ T hp, ih h2, List.filter_cons, if_neg (by simp [hp])]

/-- The free pages of an area. -/
def fa (s : Sh) (S : Nat → Bool) (c : Nat) : List Nat := fl S (bord s c) (bord s (c + 1) - bord s c)

theorem mem_ar {s : Sh} {c q : Nat} : q ∈ ar s c ↔ bord s c ≤ q ∧ q < bord s (c + 1) := by
  unfold ar
  rw [List.mem_range'_1]
  omega
theorem mem_fa {s : Sh} {S : Nat → Bool} {c q : Nat} : q ∈ fa s S c ↔ (bord s c ≤ q ∧ q < bord s (c + 1)) ∧ S q = true := by
  unfold fa
  rw [mem_fl]
  constructor
  · rintro ⟨h1, h2, h3⟩; exact ⟨⟨h1, by omega⟩, h3⟩
  · rintro ⟨⟨h1, h2⟩, h3⟩; exact ⟨h1, by omega, h3⟩

theorem ar_apart {s : Sh} (hg : s.Good) {a b q : Nat} (h : a ≠ b) (h1 : q ∈ ar s a) (h2 : q ∈ ar s b) : False := by
  rw [mem_ar] at h1 h2
  rcases Nat.lt_or_ge a b with hab | hab
  · have := bord_mono hg (show a + 1 ≤ b by omega); omega
  · have := bord_mono hg (show b + 1 ≤ a by omega); omega

theorem turn_inj {c n i j : Nat} (hi : i < n) (hj : j < n) (h : (c + i) % n = (c + j) % n) : i = j := by
  have h1 := Nat.div_add_mod (c + i) n
  have h2 := Nat.div_add_mod (c + j) n
  rw [h] at h1
  generalize (c + j) % n = r at *
  generalize (c + i) / n = a at *
  generalize (c + j) / n = b at *
  rcases Nat.lt_trichotomy a b with hab | hab | hab
  · obtain ⟨k, rfl⟩ : ∃ k, b = a + 1 + k := ⟨b - a - 1, by omega⟩
    rw [Nat.mul_add, Nat.mul_add] at h2
    omega
  · subst hab; omega
  · obtain ⟨k, rfl⟩ : ∃ k, a = b + 1 + k := ⟨a - b - 1, by omega⟩
    rw [Nat.mul_add, Nat.mul_add] at h1
    omega

theorem mem_ordTo {s : Sh} {c t q : Nat} : q ∈ ordTo s c t ↔ ∃ i, i < t ∧ q ∈ ar s ((c + i) % s.cores) := by
  unfold ordTo
  rw [List.mem_flatMap]
  constructor
  · rintro ⟨i, hi, hq⟩; exact ⟨i, by simpa using hi, hq⟩
  · rintro ⟨i, hi, hq⟩; exact ⟨i, by simpa using hi, hq⟩

theorem ordTo_nodup {s : Sh} (hg : s.Good) (c : Nat) : ∀ t, t ≤ s.cores → (ordTo s c t).Nodup := by
  intro t
  induction t with
  | zero => intro _; simp [ordTo]
  | succ t ih =>
    intro ht
    rw [ordTo_succ, List.nodup_append]
    refine ⟨ih (by omega), by unfold ar; exact List.nodup_range', ?_⟩
    intro x hx y hy e
    subst e
    obtain ⟨i, hi, hq⟩ := mem_ordTo.1 hx
    exact ar_apart hg (fun e => by have := turn_inj (by omega) (by omega) e; omega) hq hy

/-- The free pages of the first t areas, from one core on. -/
def pre (s : Sh) (S : Nat → Bool) (c t : Nat) : List Nat := (ordTo s c t).filter S
theorem pre_zero (s : Sh) (S : Nat → Bool) (c : Nat) : pre s S c 0 = [] := rfl
theorem pre_succ (s : Sh) (S : Nat → Bool) (c t : Nat) : pre s S c (t + 1) = pre s S c t ++ fa s S ((c + t) % s.cores) := by
  unfold pre; rw [ordTo_succ, List.filter_append]; rfl
theorem pre_add (s : Sh) (S : Nat → Bool) (c t k : Nat) : ∃ R, pre s S c (t + k) = pre s S c t ++ R ∧ ∀ q ∈ R, ∃ i, t ≤ i ∧ i < t + k ∧ q ∈ ar s ((c + i) % s.cores) := by
  induction k with
  | zero => exact ⟨[], by simp, by simp⟩
  | succ k ih =>
    obtain ⟨R, h1, h2⟩ := ih
    refine ⟨R ++ fa s S ((c + (t + k)) % s.cores), ?_, ?_⟩
    · rw [← Nat.add_assoc, pre_succ, h1, List.append_assoc]
    · intro q hq
      rcases List.mem_append.1 hq with hq | hq
      · obtain ⟨i, a, b, e⟩ := h2 q hq; exact ⟨i, a, by omega, e⟩
      · exact ⟨t + k, by omega, by omega, mem_ar.2 (mem_fa.1 hq).1⟩

theorem tk_take {s : Sh} (hg : s.Good) (c : Nat) (S : Nat → Bool) (n : Nat) : (tk s c S n).2.2 = (pre s S c s.cores).take n := by
  unfold tk pre
  rw [fold_take _ (ordTo_nodup hg c _ (Nat.le_refl _))]; simp

/-- One area's part of what is taken. -/
theorem tk_part {s : Sh} (hg : s.Good) {c : Nat} {S : Nat → Bool} {n t : Nat} (ht : t < s.cores) :
    ∃ A R, (tk s c S n).2.2 = A ++ (fa s S ((c + t) % s.cores)).take (n - min n (pre s S c t).length) ++ R ∧ A.length = min n (pre s S c t).length ∧
      (∀ q ∈ A, q ∉ ar s ((c + t) % s.cores)) ∧ (∀ q ∈ R, q ∉ ar s ((c + t) % s.cores)) := by
  obtain ⟨R, h1, h2⟩ := pre_add s S c (t + 1) (s.cores - (t + 1))
  rw [show t + 1 + (s.cores - (t + 1)) = s.cores by omega, pre_succ] at h1
  generalize hP : pre s S c t = P at *
  generalize hF : fa s S ((c + t) % s.cores) = F at *
  refine ⟨P.take n, R.take (n - (P.length + F.length)), ?_, by simp, ?_, ?_⟩
  · rw [tk_take hg, h1, List.take_append, List.take_append, List.length_append]
    congr 3
    omega
  · intro q hq hx
    have hq := List.mem_of_mem_take hq
    rw [← hP] at hq
    obtain ⟨i, hi, hq⟩ := mem_ordTo.1 (List.mem_filter.1 hq).1
    exact ar_apart hg (fun e => by have := turn_inj (by omega) (by omega) e; omega) hq hx
  · intro q hq hx
    obtain ⟨i, h3, h4, hq⟩ := h2 q (List.mem_of_mem_take hq)
    exact ar_apart hg (fun e => by have := turn_inj (by omega) (by omega) e; omega) hq hx

theorem filter_notin_take (l : List Nat) (hn : l.Nodup) (m : Nat) : l.filter (fun q => decide (q ∉ l.take m)) = l.drop m := by
  induction l generalizing m with
  | nil => simp
  | cons x l ih =>
    obtain ⟨h1, h2⟩ := List.nodup_cons.1 hn
    cases m with
    | zero => simp
    | succ m =>
      rw [List.take_succ_cons, List.drop_succ_cons, List.filter_cons, if_neg (by simp), ← ih h2 m]
      apply List.filter_congr
      intro q hq
      have : q ≠ x := fun e => h1 (e ▸ hq)
      simp [this]

/-- What is left of an area. -/
theorem fa_left {s : Sh} {S S1 : Nat → Bool} {c : Nat} {T A R : List Nat} {m : Nat} (hS : ∀ j, S1 j = (S j && decide (j ∉ T))) (hT : T = A ++ (fa s S c).take m ++ R) (hA : ∀ q ∈ A, q ∉ ar s c) (hR : ∀ q ∈ R, q ∉ ar s c) : fa s S1 c = (fa s S c).drop m := by
  have hnd : (fa s S c).Nodup := fl_nodup _ _ _
  rw [← filter_notin_take _ hnd]
  unfold fa fl at hT ⊢
  rw [List.filter_filter]
  apply List.filter_congr
  intro q hq
  have hq' : q ∈ ar s c := hq
  rw [hS q, hT, Bool.and_comm]
  congr 1
  apply decide_eq_decide.2
  simp only [List.mem_append, not_or]
  constructor
  · rintro ⟨⟨_, h⟩, _⟩; exact h
  · intro h; exact ⟨⟨fun h1 => hA q h1 hq', h⟩, fun h1 => hR q h1 hq'⟩

/-- How many of a list lie from lo up to hi. -/
def ins (T : List Nat) (lo hi : Nat) : Nat := (T.filter fun q => decide (lo ≤ q) && decide (q < hi)).length
theorem ins_nil (lo hi : Nat) : ins [] lo hi = 0 := rfl
theorem ins_app (a b : List Nat) (lo hi : Nat) : ins (a ++ b) lo hi = ins a lo hi + ins b lo hi := by simp [ins]
theorem ins_none {T : List Nat} {lo hi : Nat} (h : ∀ q ∈ T, ¬ (lo ≤ q ∧ q < hi)) : ins T lo hi = 0 := by
  unfold ins
  rw [List.length_eq_zero_iff, List.filter_eq_nil_iff]
  intro q hq
  have := h q hq
  simp; omega
theorem ins_all {T : List Nat} {lo hi : Nat} (h : ∀ q ∈ T, lo ≤ q ∧ q < hi) : ins T lo hi = T.length := by
  unfold ins
  rw [List.filter_eq_self.2]
  intro q hq
  have := h q hq
  simp; omega
theorem ins_le (T : List Nat) (lo hi : Nat) : ins T lo hi ≤ T.length := List.length_filter_le _ _

theorem ins_part {s : Sh} {S : Nat → Bool} {c : Nat} {T A R : List Nat} {m : Nat} (hT : T = A ++ (fa s S c).take m ++ R) (hA : ∀ q ∈ A, q ∉ ar s c) (hR : ∀ q ∈ R, q ∉ ar s c) : ins T (bord s c) (bord s (c + 1)) = min m (fa s S c).length := by
  rw [hT, ins_app, ins_app, ins_none (fun q hq h => hA q hq (mem_ar.2 h)), ins_none (fun q hq h => hR q hq (mem_ar.2 h)), ins_all (fun q hq => (mem_fa.1 (List.mem_of_mem_take hq)).1)]
  simp

theorem fl_sorted (f : Nat → Bool) (lo n : Nat) : (fl f lo n).Pairwise (· < ·) := by
  unfold fl
  exact List.Pairwise.filter _ List.pairwise_lt_range'
theorem fa_lt {s : Sh} {S : Nat → Bool} {c i j : Nat} (hij : i < j) (hj : j < (fa s S c).length) : (fa s S c)[i]'(by omega) < (fa s S c)[j] := by
  have := List.pairwise_iff_getElem.1 (fl_sorted S (bord s c) (bord s (c + 1) - bord s c))
  exact this i j (by unfold fa at hj; omega) hj hij

/-- The first page of spans. -/
theorem sp_head {f : Nat → Bool} {lo n a b : Nat} {l : List (Nat × Nat)} (h : sp f lo n = (a, b) :: l) : ∃ r, fl f lo n = a :: r := by
  have hn := sp_neat f lo n
  have hp := sp_pages f lo n
  rw [h] at hn hp
  have h1 : 1 ≤ b := (neat_get hn 0 (by simp)).1
  obtain ⟨k, rfl⟩ : ∃ k, b = k + 1 := ⟨b - 1, by omega⟩
  rw [← hp]
  simp [pagesOf, List.range'_succ]

end Go.Proofs.Ytnafocbgapianaa
