import Derived.Test.YtfekgfimbkgkfabA5
namespace Go.Proofs.Ytfekgfimbkgkfab
open Go.RowKit Go.Maps

/-! A text that is told is read back. -/
theorem parts_skip (r : Bs) : parts (47 :: r) = parts r := by
  have := parts_slash (q := []) (r := r) rfl
  rw [List.nil_append] at this
  rw [this]; rfl
theorem ok_bytes {s : ByteArray} (h : okPart s = true) : s.data.toList ≠ [] ∧ s.data.toList.all (· != 47) = true ∧ s.data.toList.all (· != 0) = true ∧ s.size ≤ 28 := by
  have h1 := okPart_iff.1 h
  refine ⟨fun e => h1.1 (by rw [size_len, e]; rfl), ?_, ?_, h1.2.1⟩
  · rw [List.all_eq_true]
    intro b hb
    obtain ⟨j, hj, rfl⟩ := List.getElem_of_mem hb
    have := (h1.2.2 j hj).1
    rw [getD_eq 0 hj] at this
    exact bne_iff_ne.2 this
  · rw [List.all_eq_true]
    intro b hb
    obtain ⟨j, hj, rfl⟩ := List.getElem_of_mem hb
    have := (h1.2.2 j hj).2
    rw [getD_eq 0 hj] at this
    exact bne_iff_ne.2 this
theorem addL_ok {s : ByteArray} (h : okPart s = true) : addL [] (mkB s.data.toList) = [s] := by
  have h1 := okPart_iff.1 h
  rw [mkB_data]
  unfold addL
  rw [if_neg h1.1]; rfl
theorem bare_cons (s : ByteArray) (ps : List ByteArray) : bare (s :: ps) = 47 :: (s.data.toList ++ bare ps) := by simp [bare]
theorem bare_tail (ps : List ByteArray) (r : Bs) (hr : r = [] ∨ ∃ r', r = 47 :: r') : bare ps ++ r = [] ∨ ∃ y, bare ps ++ r = 47 :: y := by
  cases ps with
  | nil => exact hr
  | cons s ps => right; exact ⟨s.data.toList ++ bare ps ++ r, by rw [bare_cons]; simp⟩
theorem parts_bare : ∀ (ps : List ByteArray) (r : Bs), ps.all okPart = true → (r = [] ∨ ∃ r', r = 47 :: r') → parts (bare ps ++ r) = ps ++ parts r
  | [], r, _, _ => rfl
  | s :: ps, r, h, hr => by
    rw [List.all_cons, Bool.and_eq_true] at h
    have hb := ok_bytes h.1
    have ih := parts_bare ps r h.2 hr
    rw [bare_cons, List.cons_append, parts_skip, List.append_assoc]
    rcases bare_tail ps r hr with e | ⟨y, e⟩
    · rw [e] at ih ⊢
      rw [List.append_nil, parts_end hb.2.1, addL_ok h.1, List.cons_append, ← ih]
      rfl
    · rw [e] at ih ⊢
      rw [parts_slash hb.2.1, addL_ok h.1]
      show s :: parts y = s :: (ps ++ parts r)
      rw [← ih, parts_skip]
theorem bare_zero : ∀ ps : List ByteArray, ps.all okPart = true → (bare ps).all (· != 0) = true
  | [], _ => rfl
  | s :: ps, h => by
    rw [List.all_cons, Bool.and_eq_true] at h
    rw [bare_cons, List.all_cons, List.all_append, (ok_bytes h.1).2.2.1, bare_zero ps h.2]
    rfl
theorem bare_last : ∀ (ps : List ByteArray), ps.all okPart = true → ps ≠ [] → ((bare ps).getLast? == some 47) = false
  | [], _, h0 => absurd rfl h0
  | [s], h, _ => by
    rw [List.all_cons, Bool.and_eq_true] at h
    have hb := ok_bytes h.1
    have e : bare [s] = 47 :: s.data.toList := by simp [bare]
    rw [e]
    cases hl : s.data.toList with
    | nil => exact absurd hl hb.1
    | cons c l =>
      rw [List.getLast?_cons_cons, ← hl]
      have hne : s.data.toList ≠ [] := hb.1
      rw [List.getLast?_eq_some_getLast hne]
      have hm := List.getLast_mem hne
      have := hb.2.1
      rw [List.all_eq_true] at this
      have := this _ hm
      rw [bne_iff_ne] at this
      exact beq_eq_false_iff_ne.2 (fun e => this (by injection e))
  | s :: t :: ps, h, _ => by
    have h' := h
    rw [List.all_cons, Bool.and_eq_true] at h'
    have ih := bare_last (t :: ps) h'.2 (by simp)
    have hne : bare (t :: ps) ≠ [] := by rw [bare_cons]; simp
    rw [List.getLast?_eq_some_getLast hne] at ih
    rw [bare_cons s, ← List.cons_append, List.getLast?_append, List.getLast?_eq_some_getLast hne]
    exact ih
/-- What is told is read back. -/
theorem read_back {ps : List ByteArray} {sl : Bool} (h : tells ps sl = true) : prsE (txt ps sl) = 0 ∧ prsP (txt ps sl) = ps ∧ prsS (txt ps sl) = sl ∧ txt ps sl ≠ [] := by
  have h' := h
  unfold tells at h'
  simp only [Bool.and_eq_true, decide_eq_true_eq, Bool.not_eq_true'] at h'
  obtain ⟨⟨h1, h2⟩, h3⟩ := h'
  have hr : (if (sl || ps.isEmpty) = true then [47] else ([] : Bs)) = [] ∨ ∃ r', (if (sl || ps.isEmpty) = true then [47] else ([] : Bs)) = 47 :: r' := by
    split
    · exact Or.inr ⟨[], rfl⟩
    · exact Or.inl rfl
  have hP : parts (txt ps sl) = ps := by
    unfold txt
    rw [parts_bare ps _ h2 hr]
    have : parts (if (sl || ps.isEmpty) = true then [47] else ([] : Bs)) = [] := by split <;> rfl
    rw [this, List.append_nil]
  have hF : formed (txt ps sl) = true := by
    unfold formed
    rw [Bool.and_eq_true]
    constructor
    · cases ps with
      | nil => simp [txt, bare]
      | cons s ps => unfold txt; rw [bare_cons]; rfl
    · unfold txt
      rw [List.all_append, bare_zero ps h2, Bool.true_and]
      split <;> rfl
  have hL : long ps = false := by
    unfold long
    rw [List.any_eq_false]
    intro s hs
    rw [List.all_eq_true] at h2
    have := (ok_bytes (h2 s hs)).2.2.2
    simp; omega
  have hE : prsE (txt ps sl) = 0 := by
    unfold prsE
    rw [if_neg (by omega), if_neg (by rw [hF]; simp), hP, hL]
    rfl
  refine ⟨hE, by unfold prsP; rw [hE]; exact hP, ?_, ?_⟩
  · unfold prsS
    rw [hE, hP]
    cases ps with
    | nil =>
      have : sl = false := by simpa using h1
      rw [this]; rfl
    | cons s qs =>
      cases sl with
      | true =>
        have : (txt (s :: qs) true).getLast? = some 47 := by simp [txt]
        rw [this]; rfl
      | false =>
        have e : txt (s :: qs) false = bare (s :: qs) := by simp [txt]
        rw [e, bare_last _ h2 (by simp)]
        rfl
  · cases ps with
    | nil => simp [txt, bare]
    | cons s ps => unfold txt; rw [bare_cons]; simp

/-! What is read may be told, by a text that is no longer. -/
def widP (q : List Bs) : Nat := (q.map fun x => x.length + 1).sum
def endS (l : Bs) : Nat := if l.getLast? = some 47 then 1 else 0
theorem endS_cons (b : UInt8) (l : Bs) (h : l ≠ []) : endS (b :: l) = endS l := by
  cases l with
  | nil => exact absurd rfl h
  | cons c l => unfold endS; rw [List.getLast?_cons_cons]
theorem endS_le (b : UInt8) (l : Bs) : endS (b :: l) ≤ endS l + 1 := by
  unfold endS
  split <;> split <;> omega
theorem wid_pts : ∀ (l acc : Bs), widP (pts acc l) + endS l ≤ acc.length + l.length + 1
  | [], acc => by
    unfold pts
    split
    · simp [widP, endS]
    · simp [widP, endS]
  | b :: l, acc => by
    by_cases hb : b = 47
    · subst hb
      rw [pts_slash]
      have ih := wid_pts l []
      have he := endS_le 47 l
      simp only [List.length_nil, List.length_cons] at ih ⊢
      split
      · omega
      · have hw : widP (acc :: pts [] l) = acc.length + 1 + widP (pts [] l) := by simp [widP]
        rw [hw]
        by_cases hl : l = []
        · subst hl
          have h0 : widP (pts [] []) = 0 := rfl
          have h1 : endS (47 :: ([] : Bs)) = 1 := rfl
          rw [h0, h1]; simp
        · rw [endS_cons _ _ hl]; omega
    · rw [pts_other hb]
      have ih := wid_pts l (acc ++ [b])
      rw [List.length_append] at ih
      simp only [List.length_cons, List.length_nil] at ih ⊢
      by_cases hl : l = []
      · subst hl
        have h1 : endS (b :: ([] : Bs)) = 0 := by
          unfold endS
          rw [if_neg]
          intro e
          simp at e
          exact hb e
        rw [h1]; omega
      · rw [endS_cons _ _ hl]; omega
theorem wide_parts (t : Bs) : wide (parts t) = widP (pts [] t) := by
  unfold wide bare parts widP
  induction pts [] t with
  | nil => rfl
  | cons x q ih =>
    simp only [List.map_cons, List.flatMap_cons, List.length_append, List.length_cons, List.sum_cons] at ih ⊢
    rw [ih, data_mkB]
theorem pts_ok : ∀ (l acc : Bs), acc.all (· != 47) = true → ∀ q ∈ pts acc l, q ≠ [] ∧ q.all (· != 47) = true ∧ (∀ b ∈ q, b ∈ acc ∨ b ∈ l)
  | [], acc, ha, q, hq => by
    unfold pts at hq
    split at hq
    · cases hq
    · rename_i h
      simp only [List.mem_cons, List.not_mem_nil, or_false] at hq
      subst hq
      exact ⟨fun e => h (by rw [e]; rfl), ha, fun b hb => Or.inl hb⟩
  | b :: l, acc, ha, q, hq => by
    by_cases hb : b = 47
    · subst hb
      rw [pts_slash] at hq
      split at hq
      · obtain ⟨h1, h2, h3⟩ := pts_ok l [] rfl q hq
        exact ⟨h1, h2, fun c hc => (h3 c hc).elim (fun h => by cases h) (fun h => Or.inr (List.mem_cons_of_mem _ h))⟩
      · rename_i h
        rcases List.mem_cons.1 hq with rfl | hq
        · exact ⟨fun e => h (by rw [e]; rfl), ha, fun c hc => Or.inl hc⟩
        · obtain ⟨h1, h2, h3⟩ := pts_ok l [] rfl q hq
          exact ⟨h1, h2, fun c hc => (h3 c hc).elim (fun h => by cases h) (fun h => Or.inr (List.mem_cons_of_mem _ h))⟩
    · rw [pts_other hb] at hq
      obtain ⟨h1, h2, h3⟩ := pts_ok l (acc ++ [b]) (by rw [List.all_append, ha]; simp [hb]) q hq
      refine ⟨h1, h2, fun c hc => (h3 c hc).elim (fun h => ?_) (fun h => Or.inr (List.mem_cons_of_mem _ h))⟩
      rcases List.mem_append.1 h with h | h
      · exact Or.inl h
      · simp only [List.mem_cons, List.not_mem_nil, or_false] at h
        subst h
        exact Or.inr (List.mem_cons_self ..)
theorem told_of {t : Bs} (h : prsE t = 0) : tells (prsP t) (prsS t) = true ∧ (txt (prsP t) (prsS t)).length ≤ t.length := by
  have hP : prsP t = parts t := by unfold prsP; rw [h]; rfl
  have hS : prsS t = (!(parts t).isEmpty && (t.getLast? == some 47)) := by unfold prsS; rw [h]; rfl
  have h3 : t.length ≤ 200 ∧ formed t = true ∧ long (parts t) = false := by
    unfold prsE at h
    split at h
    · simp at h
    · split at h
      · simp at h
      · split at h
        · simp at h
        · rename_i a b c
          exact ⟨by omega, by simpa using b, by simpa using c⟩
  obtain ⟨hl, hF, hL⟩ := h3
  unfold formed at hF
  rw [Bool.and_eq_true] at hF
  obtain ⟨u, rfl⟩ : ∃ u, t = 47 :: u := by
    cases t with
    | nil => simp at hF
    | cons b u =>
      have := hF.1
      simp at this
      exact ⟨u, by rw [this]⟩
  have hok : (parts (47 :: u)).all okPart = true := by
    rw [List.all_eq_true]
    intro s hs
    have hs' := hs
    unfold parts at hs
    obtain ⟨q, hq, rfl⟩ := List.mem_map.1 hs
    obtain ⟨h1, h2, h3⟩ := pts_ok _ [] rfl q hq
    rw [okPart_iff, mkB_size, data_mkB]
    refine ⟨fun e => h1 (List.length_eq_zero_iff.1 e), ?_, fun j hj => ?_⟩
    · unfold long at hL
      rw [List.any_eq_false] at hL
      have := hL _ hs'
      simp only [decide_eq_true_eq, mkB_size] at this
      omega
    · have hm := getD_mem 0 hj
      rw [List.all_eq_true] at h2
      have hz := hF.2
      rw [List.all_eq_true] at hz
      refine ⟨bne_iff_ne.1 (h2 _ hm), bne_iff_ne.1 (hz _ ?_)⟩
      exact (h3 _ hm).elim (fun h => by cases h) id
  have hlen : (txt (parts (47 :: u)) (!(parts (47 :: u)).isEmpty && ((47 :: u).getLast? == some 47))).length ≤ (47 :: u).length := by
    unfold txt
    rw [List.length_append]
    have h1 : (bare (parts (47 :: u))).length = widP (pts [] u) := by
      have := wide_parts (47 :: u)
      unfold wide at this
      rw [this, pts_slash]; rfl
    rw [h1]
    have h2 := wid_pts u []
    have he := endS_le 47 u
    simp only [List.length_nil, List.length_cons] at h2 ⊢
    by_cases hp : (parts (47 :: u)).isEmpty = true
    · have h0 : widP (pts [] u) = 0 := by
        rw [← h1]
        rw [List.isEmpty_iff.1 hp]; rfl
      rw [h0, hp]; simp
    · have hp' : (parts (47 :: u)).isEmpty = false := by simpa using hp
      have hu : u ≠ [] := by
        rintro rfl
        exact hp rfl
      rw [hp']
      simp only [Bool.not_false, Bool.true_and, Bool.or_false]
      have hE : endS (47 :: u) = endS u := endS_cons _ _ hu
      unfold endS at hE
      split
      · rename_i hc
        rw [if_pos (beq_iff_eq.1 hc)] at hE
        unfold endS at h2
        simp only [List.length_cons, List.length_nil]
        omega
      · simp only [List.length_nil]
        omega
  rw [hP, hS]
  refine ⟨?_, hlen⟩
  unfold tells
  rw [hok]
  simp only [Bool.and_true, Bool.and_eq_true, decide_eq_true_eq, Bool.not_eq_true']
  refine ⟨?_, by omega⟩
  cases (parts (47 :: u)).isEmpty <;> rfl
end Go.Proofs.Ytfekgfimbkgkfab
