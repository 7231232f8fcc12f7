import Derived.Test.YtendmohjodeelabC9
namespace Go.Proofs.Ytendmohjodeelab
open Go.RowKit Go.Maps Go.Great

def ptr (x : Nat) : Value := .pointer (some ⟨x, 0, none⟩)
/-- Four cells. -/
def four (f : Nat → Value) : Array Value := ((List.range 4).map f).toArray
def updF {α : Type} (f : Nat → α) (a : Nat) (v : α) : Nat → α := fun i => if i = a then v else f i
theorem four_at (f : Nat → Value) (a : Nat) (h : a < 4) : (four f)[a]? = some (f a) := by simp [four, h]
theorem four_set (f : Nat → Value) (a : Nat) (v : Value) (h : a < 4) : (four f).setIfInBounds a v = four (updF f a v) := by
  unfold four
  rw [List.setIfInBounds_toArray]
  congr 1
  apply List.ext_getElem?
  intro i
  rw [List.getElem?_set]
  by_cases e : a = i
  · subst e; simp [h, updF]
  · by_cases hi : i < 4
    · simp [e, hi, updF, Ne.symm e]
    · simp [e, hi]
theorem four_congr {f g : Nat → Value} (h : ∀ a, a < 4 → f a = g a) : four f = four g := by
  unfold four
  rw [List.map_congr_left (fun a ha => h a (by simpa using ha))]

/-- Four indexes of each kind, side by side. -/
structure PS (W : World) (bx by_ : Nat) (X : Nat → Nat × Nat × List Rw) (Y : Nat → Nat × List Rw) (M : Nat) (w : World) : Prop where
  ax : w.heap[bx]? = some (.cells (four fun a => ptr (X a).1) 61 (0, 0))
  ay : w.heap[by_]? = some (.cells (four fun a => ptr (Y a).1) 63 (0, 0))
  ix : ∀ a, a < 4 → IxAt w (X a).1 (X a).2.1 (X a).2.2
  rf : ∀ a, a < 4 → RefAt w (Y a).1 (Y a).2
  few : ∀ a, a < 4 → (X a).2.2.length ≤ M ∧ (Y a).2.length ≤ M
  inj : ∀ a b, a < 4 → b < 4 → a ≠ b → (X a).2.1 ≠ (X b).2.1 ∧ (Y a).1 ≠ (Y b).1
  keep : Keeps (fun _ => False) W w
  low : W.heap.size ≤ bx ∧ W.heap.size ≤ by_ ∧ ∀ a, a < 4 → W.heap.size ≤ (X a).2.1 ∧ W.heap.size ≤ (Y a).1

theorem PS.cx {W : World} {bx by_ : Nat} {X : Nat → Nat × Nat × List Rw} {Y : Nat → Nat × List Rw} {M : Nat} {w : World} (h : PS W bx by_ X Y M w) (a : Nat) (ha : a < 4) : w.cell? ⟨bx, a, none⟩ = some (.pointer (some ⟨(X a).1, 0, none⟩)) := by
  rw [cell_of_row _ _ a _ _ _ h.ax, four_at _ a ha]; rfl
theorem PS.cy {W : World} {bx by_ : Nat} {X : Nat → Nat × Nat × List Rw} {Y : Nat → Nat × List Rw} {M : Nat} {w : World} (h : PS W bx by_ X Y M w) (a : Nat) (ha : a < 4) : w.cell? ⟨by_, a, none⟩ = some (.pointer (some ⟨(Y a).1, 0, none⟩)) := by
  rw [cell_of_row _ _ a _ _ _ h.ay, four_at _ a ha]; rfl
theorem PS.fx {W : World} {bx by_ : Nat} {X : Nat → Nat × Nat × List Rw} {Y : Nat → Nat × List Rw} {M : Nat} {w : World} (h : PS W bx by_ X Y M w) (a : Nat) : w.frozen? ⟨bx, a, none⟩ = false := by simp [World.frozen?, h.ax]
theorem PS.fy {W : World} {bx by_ : Nat} {X : Nat → Nat × Nat × List Rw} {Y : Nat → Nat × List Rw} {M : Nat} {w : World} (h : PS W bx by_ X Y M w) (a : Nat) : w.frozen? ⟨by_, a, none⟩ = false := by simp [World.frozen?, h.ay]
theorem PS.grown {W : World} {bx by_ : Nat} {X : Nat → Nat × Nat × List Rw} {Y : Nat → Nat × List Rw} {M : Nat} {w w' : World} (h : PS W bx by_ X Y M w) (k : Keeps (fun _ => False) w w') : PS W bx by_ X Y M w' :=
  ⟨k.at h.ax (fun h => h), k.at h.ay (fun h => h), fun a ha => (h.ix a ha).keep k (fun h => h) (fun h => h), fun a ha => (h.rf a ha).grown k, h.few, h.inj, h.keep.trans k, h.low⟩
theorem PS.more {W : World} {bx by_ : Nat} {X : Nat → Nat × Nat × List Rw} {Y : Nat → Nat × List Rw} {M M' : Nat} {w : World} (h : PS W bx by_ X Y M w) (hm : M ≤ M') : PS W bx by_ X Y M' w :=
  { h with few := fun a ha => by have := h.few a ha; omega }

/-- A step on slot a. -/
theorem PS.on {W : World} {bx by_ : Nat} {X : Nat → Nat × Nat × List Rw} {Y : Nat → Nat × List Rw} {M : Nat} {w w' : World} (h : PS W bx by_ X Y M w) {a : Nat} (ha : a < 4) {S' : List Rw} (hi : IxAt w' (X a).1 (X a).2.1 S') (hr : RefAt w' (Y a).1 S') (k : Keeps (fun i => i = (X a).2.1 ∨ i = (Y a).1) w w') (hl : S'.length ≤ M + 1) :
    PS W bx by_ (updF X a ((X a).1, (X a).2.1, S')) (updF Y a ((Y a).1, S')) (M + 1) w' := by
  obtain ⟨D, ⟨es, cl, hbm, _⟩, _⟩ := (h.ix a ha).map
  obtain ⟨vy, hy, _⟩ := h.rf a ha
  have hno : ∀ i c t f, w.heap[i]? = some (.cells c t f) → t ≠ 74 → ¬ (i = (X a).2.1 ∨ i = (Y a).1) := by
    rintro i c t f e ht (rfl | rfl)
    · rw [hbm] at e; cases e
    · rw [hy] at e; cases e; exact ht rfl
  refine ⟨?_, ?_, ?_, ?_, ?_, ?_, ?_, ?_⟩
  · rw [k.at h.ax (hno _ _ _ _ h.ax (by decide))]
    congr 2
    exact four_congr (fun i _ => by unfold updF; split <;> simp_all)
  · rw [k.at h.ay (hno _ _ _ _ h.ay (by decide))]
    congr 2
    exact four_congr (fun i _ => by unfold updF; split <;> simp_all)
  · intro i hi'
    by_cases e : i = a
    · subst e; simp only [updF, if_true]; exact hi
    · simp only [updF, if_neg e]
      refine (h.ix i hi').keep k (hno _ _ _ _ (h.ix i hi').cell (by decide)) ?_
      rintro (e2 | e2)
      · exact (h.inj i a hi' ha e).1 e2
      · obtain ⟨D2, ⟨es2, cl2, hb2, _⟩, _⟩ := (h.ix i hi').map
        rw [e2, hy] at hb2; cases hb2
  · intro i hi'
    by_cases e : i = a
    · subst e; simp only [updF, if_true]; exact hr
    · simp only [updF, if_neg e]
      refine (h.rf i hi').keep k ?_ ?_
      · rintro (e2 | e2)
        · obtain ⟨v2, hv2, _⟩ := h.rf i hi'
          rw [e2, hbm] at hv2; cases hv2
        · exact (h.inj i a hi' ha e).2 e2
      · rintro j (rfl | rfl) c f e2
        · rw [hbm] at e2; cases e2
        · rw [hy] at e2; cases e2
  · intro i hi'
    by_cases e : i = a
    · subst e; simp only [updF, if_true]; exact ⟨hl, hl⟩
    · simp only [updF, if_neg e]; have := h.few i hi'; omega
  · intro i j hi' hj hij
    have h1 := h.inj i j hi' hj hij
    constructor
    · have e1 : ∀ i, (updF X a ((X a).1, (X a).2.1, S') i).2.1 = (X i).2.1 := fun i => by unfold updF; split <;> simp_all
      rw [e1, e1]; exact h1.1
    · have e1 : ∀ i, (updF Y a ((Y a).1, S') i).1 = (Y i).1 := fun i => by unfold updF; split <;> simp_all
      rw [e1, e1]; exact h1.2
  · refine h.keep.then k ?_
    rintro i (rfl | rfl)
    · exact Or.inr (h.low.2.2 a ha).1
    · exact Or.inr (h.low.2.2 a ha).2
  · refine ⟨h.low.1, h.low.2.1, fun i hi' => ?_⟩
    by_cases e : i = a
    · subst e; simp only [updF, if_true]; exact h.low.2.2 i hi'
    · simp only [updF, if_neg e]; exact h.low.2.2 i hi'

/-- A new index of the program's kind is laid into slot b. -/
theorem PS.setX {W : World} {bx by_ : Nat} {X : Nat → Nat × Nat × List Rw} {Y : Nat → Nat × List Rw} {M : Nat} {w w' : World} (h : PS W bx by_ X Y M w) (k : Keeps (fun _ => False) w w') {b : Nat} (hb : b < 4) {x bm : Nat} {S : List Rw} (hi : IxAt w' x bm S) (hbm : w.heap.size ≤ bm) (hl : S.length ≤ M) :
    PS W bx by_ (updF X b (x, bm, S)) Y M (w'.setCell ⟨bx, b, none⟩ (.pointer (some ⟨x, 0, none⟩))) := by
  have h' := h.grown k
  have hk : Keeps (fun i => i = bx) w' (w'.setCell ⟨bx, b, none⟩ (.pointer (some ⟨x, 0, none⟩))) := Keeps.of (grownBy_setCell w' ⟨bx, b, none⟩ _) (by rintro i e; cases e; exact Or.inl rfl)
  have hno : ∀ i c t f, w'.heap[i]? = some (.cells c t f) → t ≠ 61 → i ≠ bx := by
    rintro i c t f e ht rfl
    rw [h'.ax] at e; cases e; exact ht rfl
  have hixk : ∀ {x bm : Nat} {S : List Rw}, IxAt w' x bm S → IxAt (w'.setCell ⟨bx, b, none⟩ (.pointer (some ⟨(updF X b (x, bm, S) b).1, 0, none⟩))) x bm S → True := fun _ _ => trivial
  have keepIx : ∀ {x2 bm2 : Nat} {S2 : List Rw}, IxAt w' x2 bm2 S2 → IxAt (w'.setCell ⟨bx, b, none⟩ (.pointer (some ⟨x, 0, none⟩))) x2 bm2 S2 := by
    intro x2 bm2 S2 h2
    refine h2.keep hk (hno _ _ _ _ h2.cell (by decide)) ?_
    rintro rfl
    obtain ⟨D2, ⟨es2, cl2, hb2, _⟩, _⟩ := h2.map
    rw [h'.ax] at hb2; cases hb2
  refine ⟨?_, ?_, ?_, ?_, ?_, ?_, ?_, ?_⟩
  · have h1 := setCell_block (w := w') (a := ⟨bx, b, none⟩) (v := .pointer (some ⟨x, 0, none⟩)) h'.ax rfl
    rw [h1]
    congr 2
    rw [four_set _ _ _ hb]
    exact four_congr (fun i _ => by unfold updF; split <;> simp_all [ptr])
  · exact hk.at h'.ay (hno _ _ _ _ h'.ay (by decide))
  · intro i hi'
    by_cases e : i = b
    · subst e; simp only [updF, if_true]; exact keepIx hi
    · simp only [updF, if_neg e]; exact keepIx (h'.ix i hi')
  · intro i hi'
    refine (h'.rf i hi').keep hk ?_ ?_
    · obtain ⟨v2, hv2, _⟩ := h'.rf i hi'
      exact hno _ _ _ _ hv2 (by decide)
    · rintro j rfl c f e2
      rw [h'.ax] at e2; cases e2
  · intro i hi'
    by_cases e : i = b
    · subst e; simp only [updF, if_true]; exact ⟨hl, (h.few i hi').2⟩
    · simp only [updF, if_neg e]; exact h.few i hi'
  · intro i j hi' hj hij
    refine ⟨?_, (h.inj i j hi' hj hij).2⟩
    have old : ∀ i, i < 4 → (X i).2.1 < w.heap.size := fun i hi' => (h.ix i hi').lt
    by_cases e : i = b
    · subst e
      simp only [updF, if_true, if_neg (Ne.symm hij)]
      have := old j hj; omega
    · by_cases e2 : j = b
      · subst e2
        simp only [updF, if_true, if_neg e]
        have := old i hi'; omega
      · simp only [updF, if_neg e, if_neg e2]; exact (h.inj i j hi' hj hij).1
  · exact h'.keep.then hk (fun i e => Or.inr (by have := h.low.1; omega))
  · refine ⟨h.low.1, h.low.2.1, fun i hi' => ?_⟩
    by_cases e : i = b
    · subst e; simp only [updF, if_true]; exact ⟨by have := h.keep.size; omega, (h.low.2.2 i hi').2⟩
    · simp only [updF, if_neg e]; exact h.low.2.2 i hi'
theorem PS.setY {W : World} {bx by_ : Nat} {X : Nat → Nat × Nat × List Rw} {Y : Nat → Nat × List Rw} {M : Nat} {w w' : World} (h : PS W bx by_ X Y M w) (k : Keeps (fun _ => False) w w') {b : Nat} (hb : b < 4) {y : Nat} {S : List Rw} (hi : RefAt w' y S) (hy : w.heap.size ≤ y) (hl : S.length ≤ M) :
    PS W bx by_ X (updF Y b (y, S)) M (w'.setCell ⟨by_, b, none⟩ (.pointer (some ⟨y, 0, none⟩))) := by
  have h' := h.grown k
  have hk : Keeps (fun i => i = by_) w' (w'.setCell ⟨by_, b, none⟩ (.pointer (some ⟨y, 0, none⟩))) := Keeps.of (grownBy_setCell w' ⟨by_, b, none⟩ _) (by rintro i e; cases e; exact Or.inl rfl)
  have hno : ∀ i c t f, w'.heap[i]? = some (.cells c t f) → t ≠ 63 → i ≠ by_ := by
    rintro i c t f e ht rfl
    rw [h'.ay] at e; cases e; exact ht rfl
  have keepRf : ∀ {y2 : Nat} {S2 : List Rw}, RefAt w' y2 S2 → RefAt (w'.setCell ⟨by_, b, none⟩ (.pointer (some ⟨y, 0, none⟩))) y2 S2 := by
    intro y2 S2 h2
    refine h2.keep hk ?_ ?_
    · obtain ⟨v2, hv2, _⟩ := h2
      exact hno _ _ _ _ hv2 (by decide)
    · rintro j rfl c f e2
      rw [h'.ay] at e2; cases e2
  refine ⟨?_, ?_, ?_, ?_, ?_, ?_, ?_, ?_⟩
  · exact hk.at h'.ax (hno _ _ _ _ h'.ax (by decide))
  · have h1 := setCell_block (w := w') (a := ⟨by_, b, none⟩) (v := .pointer (some ⟨y, 0, none⟩)) h'.ay rfl
    rw [h1]
    congr 2
    rw [four_set _ _ _ hb]
    exact four_congr (fun i _ => by unfold updF; split <;> simp_all [ptr])
  · intro i hi'
    refine (h'.ix i hi').keep hk (hno _ _ _ _ (h'.ix i hi').cell (by decide)) ?_
    rintro e
    obtain ⟨D2, ⟨es2, cl2, hb2, _⟩, _⟩ := (h'.ix i hi').map
    rw [e, h'.ay] at hb2; cases hb2
  · intro i hi'
    by_cases e : i = b
    · subst e; simp only [updF, if_true]; exact keepRf hi
    · simp only [updF, if_neg e]; exact keepRf (h'.rf i hi')
  · intro i hi'
    by_cases e : i = b
    · subst e; simp only [updF, if_true]; exact ⟨(h.few i hi').1, hl⟩
    · simp only [updF, if_neg e]; exact h.few i hi'
  · intro i j hi' hj hij
    refine ⟨(h.inj i j hi' hj hij).1, ?_⟩
    have old : ∀ i, i < 4 → (Y i).1 < w.heap.size := fun i hi' => by obtain ⟨v2, hv2, _⟩ := h.rf i hi'; exact heap_lt hv2
    by_cases e : i = b
    · subst e
      simp only [updF, if_true, if_neg (Ne.symm hij)]
      have := old j hj; omega
    · by_cases e2 : j = b
      · subst e2
        simp only [updF, if_true, if_neg e]
        have := old i hi'; omega
      · simp only [updF, if_neg e, if_neg e2]; exact (h.inj i j hi' hj hij).2
  · exact h'.keep.then hk (fun i e => Or.inr (by have := h.low.2.1; omega))
  · refine ⟨h.low.1, h.low.2.1, fun i hi' => ?_⟩
    by_cases e : i = b
    · subst e; simp only [updF, if_true]; exact ⟨(h.low.2.2 i hi').1, by have := h.keep.size; omega⟩
    · simp only [updF, if_neg e]; exact h.low.2.2 i hi'

end Go.Proofs.Ytendmohjodeelab
