import Derived.Test.YtfiekdgpdboolabF1
namespace Go.Proofs.Ytfiekdgpdboolab
open Go.RowKit Go.Maps

abbrev Note3 := Int × Int × Int

/-- A list of notes that lies in memory. -/
def NotesAt (w : World) (p : Option Addr) (l : List Note3) : Prop :=
  0 < l.length → ∃ b o, p = some ⟨b, o, none⟩ ∧ b < w.heap.size ∧ ∀ i, i < l.length →
    w.cell? ⟨b, o + i * 3, none⟩ = some (.int .i64 (l.getD i (0, 0, 0)).1) ∧ w.cell? ⟨b, o + i * 3 + 1, none⟩ = some (.int .i64 (l.getD i (0, 0, 0)).2.1) ∧
    w.cell? ⟨b, o + i * 3 + 2, none⟩ = some (.int .u64 (l.getD i (0, 0, 0)).2.2) ∧ (0 ≤ (l.getD i (0, 0, 0)).2.2 ∧ (l.getD i (0, 0, 0)).2.2 < 18446744073709551616)

theorem NotesAt.kept {w w' : World} {p : Option Addr} {l : List Note3} {X : Nat → Prop} (h : NotesAt w p l) (k : Keeps X w w') (hX : ∀ i, X i → w.heap.size ≤ i) : NotesAt w' p l := by
  intro h0
  obtain ⟨b, o, e, hb, hc⟩ := h h0
  have hn : ¬ X b := fun hx => by have := hX b hx; omega
  refine ⟨b, o, e, Nat.lt_of_lt_of_le hb k.size, fun i hi => ?_⟩
  obtain ⟨c1, c2, c3, c4⟩ := hc i hi
  exact ⟨k.cell c1 hn, k.cell c2 hn, k.cell c3 hn, c4⟩

/-- A device under way: its blocks lie from B on, nothing below B has turned since w0. -/
def Going (w0 : World) (B d n : Nat) (S : St) (w : World) : Prop :=
  (∃ F L, DevAt w F d S L ∧ ∀ k, F k → B ≤ k) ∧ Keeps (fun k => B ≤ k) w0 w ∧ S.old.length = n ∧ S.armed = false ∧ B ≤ w.heap.size

theorem Going.next {w0 : World} {B d n : Nat} {S T : St} {w w' : World} (h : Going w0 B d n S w) (F : Nat → Prop) (hF : ∀ k, F k → B ≤ k) (hx : ∃ F' L', DevAt w' F' d T L' ∧ Keeps F w w' ∧ Fresh F F' w) (hl : T.old.length = S.old.length) (ha : T.armed = S.armed) : Going w0 B d n T w' := by
  obtain ⟨_, h2, h3, h4, h5⟩ := h
  obtain ⟨F', L', d1, d2, d3⟩ := hx
  refine ⟨⟨F', L', d1, fun k hk => ?_⟩, h2.trans (d2.mono fun k _ hk => hF k hk), hl.trans h3, ha.trans h4, Nat.le_trans h5 d2.size⟩
  rcases d3 k hk with h6 | h6
  · exact hF k h6
  · omega

theorem u8s_zero (n : Nat) : u8s (List.replicate n 0) = List.replicate n (.int .u8 0) := by simp [u8s]

theorem going_made (w w1 : World) (n : Nat) (hn : n ≤ 4096)
    (h : w1 = ((w.alloc (.cells (List.replicate n (.int .u8 0)).toArray 5)).alloc (.map #[] 0)).alloc (devCells (.slice (some ⟨w.heap.size, 0, none⟩) n n) (.map (some (w.heap.size + 1))) 0 0 false 0)) :
    Going w w.heap.size (w.heap.size + 2) n (St.fresh (List.replicate n 0)) w1 := by
  have g1 := World.grownBy_alloc w (.cells (List.replicate n (.int .u8 0)).toArray 5) none
  have g2 := World.grownBy_alloc (w.alloc (.cells (List.replicate n (.int .u8 0)).toArray 5)) (.map #[] 0) none
  have g3 := World.grownBy_alloc ((w.alloc (.cells (List.replicate n (.int .u8 0)).toArray 5)).alloc (.map #[] 0)) (devCells (.slice (some ⟨w.heap.size, 0, none⟩) n n) (.map (some (w.heap.size + 1))) 0 0 false 0) none
  have b3 := (MapKept.heap_alloc ((w.alloc (.cells (List.replicate n (.int .u8 0)).toArray 5)).alloc (.map #[] 0)) (devCells (.slice (some ⟨w.heap.size, 0, none⟩) n n) (.map (some (w.heap.size + 1))) 0 0 false 0)).1
  have b2 := (MapKept.heap_alloc (w.alloc (.cells (List.replicate n (.int .u8 0)).toArray 5)) (.map #[] 0)).1
  have b1 := (MapKept.heap_alloc w (.cells (List.replicate n (.int .u8 0)).toArray 5)).1
  have b2' := (g3.block _ (heap_lt b2) (by simp)).trans b2
  have b1' := (g3.block _ (Nat.lt_of_lt_of_le (heap_lt b1) g2.size) (by simp)).trans ((g2.block _ (heap_lt b1) (by simp)).trans b1)
  rw [← h] at b3 b2' b1'
  have e1 : (w.alloc (.cells (List.replicate n (.int .u8 0)).toArray 5)).heap.size = w.heap.size + 1 := by simp
  have e2 : ((w.alloc (.cells (List.replicate n (.int .u8 0)).toArray 5)).alloc (.map #[] 0)).heap.size = w.heap.size + 2 := by simp
  rw [e2] at b3
  rw [e1] at b2'
  have hd := DevAt.fresh (w := w1) (ob := w.heap.size) (bm := w.heap.size + 1) (d := w.heap.size + 2) (bs := List.replicate n 0) (by simpa using b3) (by rw [u8s_zero]; exact b1') b2' (by simp; omega) (by
    intro b hb; rw [List.eq_of_mem_replicate hb]; omega)
  have hk : Keeps (fun k => w.heap.size ≤ k) w w1 := by
    rw [h]
    exact ((Keeps.of g1 (by simp)).step g2 (by simp)).step g3 (by simp)
  exact ⟨⟨_, _, hd, by rintro k (rfl | rfl | rfl) <;> omega⟩, hk, by simp [St.fresh], rfl, hk.size⟩

end Go.Proofs.Ytfiekdgpdboolab
