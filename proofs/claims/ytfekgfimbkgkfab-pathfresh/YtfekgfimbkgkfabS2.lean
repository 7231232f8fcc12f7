import Derived.Test.YtfekgfimbkgkfabS1
namespace Go.Proofs.Ytfekgfimbkgkfab
open Go.RowKit Go.Maps

/-- The document's Parse, in memory: its answer's box, its own box, the row. -/
structure RP (w W : World) (v : Value) (l : List Bs) : Prop where
  kp : Keeps (fun _ => False) w W
  rb : W.heap[w.heap.size]? = some (.cells #[.slice none 0 0, .bool false] 25)
  pb : W.heap[w.heap.size + 1]? = some (.cells #[v, .bool false] 25)
  row : W.ownsRow (w.heap.size + 2) 9 1 v l.length (strs (l.map mkB))
theorem RP.keep {w W W' : World} {v : Value} {l : List Bs} (h : RP w W v l) (k : Keeps (fun _ => False) W W') : RP w W' v l :=
  ⟨h.kp.trans k, k.at h.rb id, k.at h.pb id, own_grow h.row k⟩
theorem RP.size {w W : World} {v : Value} {l : List Bs} (h : RP w W v l) : w.heap.size + 2 ≤ W.heap.size := heap_lt h.pb
theorem RP.start (w : World) : RP w ((w.alloc (.cells #[.slice none 0 0, .bool false] 25)).alloc (.cells #[.slice none 0 0, .bool false] 25)) (.slice none 0 0) [] := by
  obtain ⟨n1, n2, n3, n4⟩ := two_blocks w (.cells #[.slice none 0 0, .bool false] 25) (.cells #[.slice none 0 0, .bool false] 25)
  exact ⟨n3, n1, n2, World.ownsRow_nil _ _ _ _⟩
/-- A row that has grown is put into its box. -/
theorem RP.put {w W W1 : World} {v v' : Value} {l l' : List Bs} (h : RP w W v l) (hg : W.grownBy W1 v.ownBlock) (hown : W1.ownsRow (w.heap.size + 2) 9 1 v' l'.length (strs (l'.map mkB))) : RP w (W1.setCell ⟨w.heap.size + 1, 0, none⟩ v') v' l' := by
  have hk1 : Keeps (fun k => w.heap.size + 2 ≤ k) W W1 := Keeps.of hg (fun k hk => Or.inl (h.row.lt k hk).1)
  have hp := hk1.at h.pb (by omega)
  have hk2 : Keeps (fun k => k = w.heap.size + 1) W1 (W1.setCell ⟨w.heap.size + 1, 0, none⟩ v') := Keeps.of (grownBy_setCell W1 ⟨w.heap.size + 1, 0, none⟩ v') (by rintro k hk; cases hk; exact Or.inl rfl)
  refine ⟨(h.kp.then hk1 (fun k hk => Or.inr (by omega))).then hk2 (fun k hk => Or.inr (by omega)), hk2.at (hk1.at h.rb (by omega)) (by omega), ?_, own_keep hown hk2 (fun g hg hk => by have := (hown.lt g hg).1; omega)⟩
  have := setCell_block (a := ⟨w.heap.size + 1, 0, none⟩) (v := v') hp rfl
  simpa using this
theorem RP.cells {w W : World} {v : Value} {l : List Bs} (h : RP w W v l) : W.cell? ⟨w.heap.size + 1, 0, none⟩ = some v ∧ W.cell? ⟨w.heap.size + 1, 1, none⟩ = some (.bool false) ∧ (∀ i, W.frozen? ⟨w.heap.size + 1, i, none⟩ = false) := cells2 h.pb
theorem formed_of (t : Bs) (h : t.head? = some 47) : formed t = t.all (· != 0) := by unfold formed; rw [h]; rfl
end Go.Proofs.Ytfekgfimbkgkfab
