import Derived.Test.YtndojlacdggfcabI2
namespace Go.Proofs.Ytndojlacdggfcab
open Go.RowKit

def bcells (ps rs : Nat → Option Addr) : Array Value := #[.pointer (ps 0), .pointer (ps 1), .pointer (ps 2), .pointer (rs 0), .pointer (rs 1), .pointer (rs 2)]
def BObj (W : World) (b : Nat) (ps rs : Nat → Option Addr) : Prop := W.heap[b]? = some (.cells (bcells ps rs) 79 (0, 0))
theorem b_cell {W : World} {b : Nat} {ps rs : Nat → Option Addr} (h : BObj W b ps rs) (k : Nat) (hk : k < 3) : W.cell? ⟨b, k, none⟩ = some (.pointer (ps k)) ∧ W.cell? ⟨b, 3 + k, none⟩ = some (.pointer (rs k)) := by
  have h' : W.heap[b]? = some (.cells (bcells ps rs) 79 (0, 0)) := h
  have : k = 0 ∨ k = 1 ∨ k = 2 := by omega
  rcases this with rfl | rfl | rfl <;> simp [World.cell?, h', bcells]
theorem b_frozen {W : World} {b : Nat} {ps rs : Nat → Option Addr} (h : BObj W b ps rs) (k : Nat) : W.frozen? ⟨b, k, none⟩ = false := by
  have h' : W.heap[b]? = some (.cells (bcells ps rs) 79 (0, 0)) := h
  simp [World.frozen?, h']
theorem b_setP {W : World} {b : Nat} {ps rs : Nat → Option Addr} (h : BObj W b ps rs) (k : Nat) (hk : k < 3) (p : Option Addr) : BObj (W.setCell ⟨b, k, none⟩ (.pointer p)) b (setq ps k p) rs := by
  have h1 := setCell_block (a := ⟨b, k, none⟩) (v := .pointer p) h rfl
  refine h1.trans ?_
  have : k = 0 ∨ k = 1 ∨ k = 2 := by omega
  rcases this with rfl | rfl | rfl <;> simp [bcells, setq]
theorem b_setR {W : World} {b : Nat} {ps rs : Nat → Option Addr} (h : BObj W b ps rs) (k : Nat) (hk : k < 3) (p : Option Addr) : BObj (W.setCell ⟨b, 3 + k, none⟩ (.pointer p)) b ps (setq rs k p) := by
  have h1 := setCell_block (a := ⟨b, 3 + k, none⟩) (v := .pointer p) h rfl
  refine h1.trans ?_
  have : k = 0 ∨ k = 1 ∨ k = 2 := by omega
  rcases this with rfl | rfl | rfl <;> simp [bcells, setq]
theorem one_keeps (W : World) (b k : Nat) (v : Value) : Keeps (fun c => c = b) W (W.setCell ⟨b, k, none⟩ v) := Keeps.of (grownBy_setCell W ⟨b, k, none⟩ v) (by rintro c hc; cases hc; exact .inl rfl)
theorem BObj.no_node {W : World} {b : Nat} {ps rs : Nat → Option Addr} (h : BObj W b ps rs) (q : Nat → Option Addr) (u : Nat → Int) : ¬ NodeAt W b q u := by
  intro hn
  have := (show W.heap[b]? = _ from h).symm.trans hn
  simp at this
theorem RefAt.no_node {W : World} {b : Nat} {f : Nat → Int} (h : RefAt W b f) (q : Nat → Option Addr) (u : Nat → Int) : ¬ NodeAt W b q u := by
  intro hn
  have := (show W.heap[b]? = _ from h).symm.trans hn
  simp at this
theorem tree_ne_b {W : World} {t b : Nat} {f : Nat → Int} {ps rs : Nat → Option Addr} (h : TreeAt W t f) (h' : BObj W b ps rs) : t ≠ b := by
  rintro rfl
  obtain ⟨p, v, ht, _⟩ := h
  have := ht.symm.trans h'
  simp at this
theorem ref_ne_b {W : World} {t b : Nat} {f : Nat → Int} {ps rs : Nat → Option Addr} (h : RefAt W t f) (h' : BObj W b ps rs) : t ≠ b := by
  rintro rfl
  have := (show W.heap[t]? = _ from h).symm.trans h'
  simp at this
theorem tree_ne_ref {W : World} {t b : Nat} {f g : Nat → Int} (h : TreeAt W t f) (h' : RefAt W b g) : t ≠ b := by
  rintro rfl
  obtain ⟨p, v, ht, _⟩ := h
  have := ht.symm.trans h'
  simp at this
/-- A tree, while a block that is neither it nor a node turns. -/
theorem TreeAt.past {A B : World} {t c : Nat} {f : Nat → Int} (h : TreeAt A t f) (hk : Keeps (fun x => x = c) A B) (hn : ∀ q u, ¬ NodeAt A c q u) (hne : t ≠ c) : TreeAt B t f :=
  h.keepN (hk.nodes (by rintro _ q u rfl; exact hn q u)) (hk.block _ h.lt hne)

/-- k trees of each kind stand in b. -/
structure BegAt (W : World) (b k : Nat) (ts rs : Nat → Nat) (fs : Nat → Nat → Int) (ps qs : Nat → Option Addr) : Prop where
  blk : BObj W b ps qs
  ps_eq : ∀ j, j < k → ps j = some ⟨ts j, 0, none⟩
  qs_eq : ∀ j, j < k → qs j = some ⟨rs j, 0, none⟩
  tree : ∀ j, j < k → TreeAt W (ts j) (fs j)
  ref : ∀ j, j < k → RefAt W (rs j) (fs j)
  tne : ∀ i j, i < k → j < k → i ≠ j → ts i ≠ ts j
  rne : ∀ i j, i < k → j < k → i ≠ j → rs i ≠ rs j

theorem BegAt.keep {A B : World} {b k : Nat} {ts rs : Nat → Nat} {fs : Nat → Nat → Int} {ps qs : Nat → Option Addr} (h : BegAt A b k ts rs fs ps qs) (hk : Keeps (fun _ => False) A B) : BegAt B b k ts rs fs ps qs :=
  ⟨hk.at h.blk id, h.ps_eq, h.qs_eq, fun j hj => (h.tree j hj).keep hk, fun j hj => hk.at (h.ref j hj) id, h.tne, h.rne⟩
def setT {α : Type} (f : Nat → α) (k : Nat) (x : α) : Nat → α := fun j => if j = k then x else f j

/-- Both trees of a place have turned alike. -/
theorem BegAt.turn {A B C : World} {b k d : Nat} {ts rs : Nat → Nat} {fs : Nat → Nat → Int} {ps qs : Nat → Option Addr} {f : Nat → Int} (h : BegAt A b k ts rs fs ps qs) (hd : d < k) (k1 : Keeps (fun c => c = ts d) A B) (hT : TreeAt B (ts d) f)
    (k2 : Keeps (fun c => c = rs d) B C) (hR : RefAt C (rs d) f) : BegAt C b k ts rs (setT fs d f) ps qs := by
  have hTd := h.tree d hd
  have hRd := h.ref d hd
  have hRB : RefAt B (rs d) (fs d) := k1.at hRd (fun e => tree_ne_ref hTd hRd e.symm)
  refine ⟨k2.at (k1.at h.blk (fun e => tree_ne_b hTd h.blk e.symm)) (fun e => ref_ne_b hRd h.blk e.symm), h.ps_eq, h.qs_eq, fun j hj => ?_, fun j hj => ?_, h.tne, h.rne⟩
  · by_cases e : j = d
    · subst e
      simp only [setT, if_pos]
      exact hT.past k2 hRB.no_node (tree_ne_ref hT hRB)
    · simp only [setT, if_neg e]
      have hB := (h.tree j hj).past k1 hTd.no_node (h.tne j d hj hd e)
      exact hB.past k2 hRB.no_node (tree_ne_ref hB hRB)
  · by_cases e : j = d
    · subst e
      simp only [setT, if_pos]
      exact hR
    · simp only [setT, if_neg e]
      exact k2.at (k1.at (h.ref j hj) (fun e' => tree_ne_ref hTd (h.ref j hj) e'.symm)) (h.rne j d hj hd e)

/-- New trees are put into place d (the next one, or one of those that are there). -/
theorem BegAt.put {A D : World} {b k d k' t r : Nat} {ts rs : Nat → Nat} {fs : Nat → Nat → Int} {ps qs : Nat → Option Addr} {f : Nat → Int} (h : BegAt A b k ts rs fs ps qs) (hk' : ∀ j, j < k' → j ≠ d → j < k)
    (kAD : Keeps (fun c => c = b) A D) (hD : BObj D b (setq ps d (some ⟨t, 0, none⟩)) (setq qs d (some ⟨r, 0, none⟩))) (hT : TreeAt D t f) (hR : RefAt D r f) (ht : A.heap.size ≤ t) (hr : A.heap.size ≤ r) :
    BegAt D b k' (setT ts d t) (setT rs d r) (setT fs d f) (setq ps d (some ⟨t, 0, none⟩)) (setq qs d (some ⟨r, 0, none⟩)) := by
  have pastT : ∀ {t f}, TreeAt A t f → TreeAt D t f := fun hT => hT.past kAD h.blk.no_node (tree_ne_b hT h.blk)
  have pastR : ∀ {t f}, RefAt A t f → RefAt D t f := fun hR => kAD.at hR (fun e => ref_ne_b hR h.blk e)
  refine ⟨hD, fun j hj => ?_, fun j hj => ?_, fun j hj => ?_, fun j hj => ?_, fun i j hi hj hij => ?_, fun i j hi hj hij => ?_⟩
  · by_cases e : j = d
    · simp [setq, setT, e]
    · simp only [setq, setT, if_neg e]; exact h.ps_eq j (hk' j hj e)
  · by_cases e : j = d
    · simp [setq, setT, e]
    · simp only [setq, setT, if_neg e]; exact h.qs_eq j (hk' j hj e)
  · by_cases e : j = d
    · simp only [setT, if_pos e]; exact hT
    · simp only [setT, if_neg e]; exact pastT (h.tree j (hk' j hj e))
  · by_cases e : j = d
    · simp only [setT, if_pos e]; exact hR
    · simp only [setT, if_neg e]; exact pastR (h.ref j (hk' j hj e))
  · have lt : ∀ j, j < k' → j ≠ d → ts j < A.heap.size := fun j hj e => (h.tree j (hk' j hj e)).lt
    by_cases e1 : i = d
    · by_cases e2 : j = d
      · omega
      · simp only [setT, if_pos e1, if_neg e2]; have := lt j hj e2; omega
    · by_cases e2 : j = d
      · simp only [setT, if_neg e1, if_pos e2]; have := lt i hi e1; omega
      · simp only [setT, if_neg e1, if_neg e2]; exact h.tne i j (hk' i hi e1) (hk' j hj e2) hij
  · have lt : ∀ j, j < k' → j ≠ d → rs j < A.heap.size := fun j hj e => heap_lt (h.ref j (hk' j hj e))
    by_cases e1 : i = d
    · by_cases e2 : j = d
      · omega
      · simp only [setT, if_pos e1, if_neg e2]; have := lt j hj e2; omega
    · by_cases e2 : j = d
      · simp only [setT, if_neg e1, if_pos e2]; have := lt i hi e1; omega
      · simp only [setT, if_neg e1, if_neg e2]; exact h.rne i j (hk' i hi e1) (hk' j hj e2) hij

end Go.Proofs.Ytndojlacdggfcab
