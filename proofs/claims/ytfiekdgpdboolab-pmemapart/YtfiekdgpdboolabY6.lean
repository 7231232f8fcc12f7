import Derived.Test.YtfiekdgpdboolabY4
import Derived.Test.YtfiekdgpdboolabY5
namespace Go.Proofs.Ytfiekdgpdboolab
open Go.RowKit Go.Maps

theorem infoN : (Try.prog.info? 22).map (fun i => (i.zero, i.size, i.bytes)) = some (some (.slice none 0 0), 1, 24) := by kernel_rfl

/-- A doubt as it is told: its news lie in block g. -/
structure Dbt where
  at_ : Int
  old : Int
  g : Nat
  n : Nat

def Dbt.three (x : Dbt) : List Value := [.int .i64 x.at_, .int .u64 x.old, .slice (some ⟨x.g, 0, none⟩) x.n x.n]
def dCells (l : List Dbt) : List Value := l.flatMap Dbt.three
def nCells (l : List Dbt) : List Value := l.map fun x => .slice (some ⟨x.g, 0, none⟩) x.n x.n

theorem dCells_len (l : List Dbt) : (dCells l).length = l.length * 3 := by
  induction l with
  | nil => rfl
  | cons a l ih => simp only [dCells, List.flatMap_cons, List.length_append] at ih ⊢; rw [ih]; simp [Dbt.three]; omega

theorem dCells_get (l : List Dbt) (i : Nat) (x : Dbt) (hi : l[i]? = some x) :
    (dCells l)[i * 3]? = some (.int .i64 x.at_) ∧ (dCells l)[i * 3 + 1]? = some (.int .u64 x.old) ∧ (dCells l)[i * 3 + 2]? = some (.slice (some ⟨x.g, 0, none⟩) x.n x.n) := by
  induction l generalizing i with
  | nil => simp at hi
  | cons a l ih =>
    have e : dCells (a :: l) = [.int .i64 a.at_, .int .u64 a.old, .slice (some ⟨a.g, 0, none⟩) a.n a.n] ++ dCells l := by simp [dCells, Dbt.three]
    rw [e]
    cases i with
    | zero => simp at hi; subst hi; exact ⟨by simp, by simp, by simp⟩
    | succ i =>
      have hi' : l[i]? = some x := by simpa using hi
      obtain ⟨h1, h2, h3⟩ := ih i hi'
      refine ⟨?_, ?_, ?_⟩
      · rw [List.getElem?_append_right (by simp; omega), ← h1]; congr 1; simp; omega
      · rw [List.getElem?_append_right (by simp; omega), ← h2]; congr 1; simp; omega
      · rw [List.getElem?_append_right (by simp; omega), ← h3]; congr 1; simp; omega

theorem dCells_set (l : List Dbt) (i : Nat) (x : Dbt) (a b : Int) (hi : l[i]? = some x) :
    ((dCells l).set (i * 3) (.int .i64 a)).set (i * 3 + 1) (.int .u64 b) = dCells (l.set i ⟨a, b, x.g, x.n⟩) := by
  induction l generalizing i with
  | nil => simp at hi
  | cons y l ih =>
    have e : ∀ y, dCells (y :: l) = [.int .i64 y.at_, .int .u64 y.old, .slice (some ⟨y.g, 0, none⟩) y.n y.n] ++ dCells l := by intro y; simp [dCells, Dbt.three]
    cases i with
    | zero => simp at hi; subst hi; simp [dCells, Dbt.three]
    | succ i =>
      have hi' : l[i]? = some x := by simpa using hi
      have := ih i hi'
      rw [e]
      simp only [List.set_cons_succ]
      have e2 : dCells (y :: l.set i ⟨a, b, x.g, x.n⟩) = [.int .i64 y.at_, .int .u64 y.old, .slice (some ⟨y.g, 0, none⟩) y.n y.n] ++ dCells (l.set i ⟨a, b, x.g, x.n⟩) := by simp [dCells, Dbt.three]
      rw [e2, ← this]
      rw [show (i + 1) * 3 = i * 3 + 3 by omega, show i * 3 + 3 + 1 = (i * 3 + 1) + 3 by omega]
      rfl

def mk1 (m k : Nat) (x : Dbt) : Dbt := ⟨-1000 * m - k - 1, 1000 * m + k, x.g, x.n⟩

/-- No two have their news in one block. -/
def Dist (ds : List Dbt) : Prop := ∀ (i i' : Nat) (y y' : Dbt), ds[i]? = some y → ds[i']? = some y' → y.g = y'.g → i = i'

/-- The first k are marked. -/
def MarkedTo (m k : Nat) (ds l : List Dbt) : Prop := l.length = ds.length ∧ ∀ j x, ds[j]? = some x → l[j]? = some (if j < k then mk1 m j x else x)

theorem MarkedTo.zero (m : Nat) (ds : List Dbt) : MarkedTo m 0 ds ds := ⟨rfl, fun j x h => by simpa using h⟩
theorem MarkedTo.step {m k : Nat} {ds l : List Dbt} {x : Dbt} (h : MarkedTo m k ds l) (hx : ds[k]? = some x) : MarkedTo m (k + 1) ds (l.set k (mk1 m k x)) := by
  refine ⟨by simpa using h.1, fun j y hy => ?_⟩
  by_cases hj : j = k
  · subst hj
    rw [hx] at hy
    cases hy
    have hl : j < l.length := by rw [h.1]; exact (List.getElem?_eq_some_iff.1 hx).1
    rw [List.getElem?_set_self hl]
    simp
  · rw [List.getElem?_set_ne (by omega), h.2 j y hy]
    by_cases h1 : j < k
    · rw [if_pos h1, if_pos (by omega)]
    · rw [if_neg h1, if_neg (by omega)]

/-- Every block of cells but those of type tc stays as it was. -/
structure Turns (tc : TypeId) (w w' : World) : Prop where
  os : w'.os = w.os
  tape : w'.tape = w.tape
  output : w'.output = w.output
  size : w.heap.size ≤ w'.heap.size
  blk : ∀ (b : Nat) (c : Array Value) (t : TypeId) (f : Nat × Nat), w.heap[b]? = some (.cells c t f) → t ≠ tc → w'.heap[b]? = some (.cells c t f)

theorem Turns.trans {tc : TypeId} {a b c : World} (h : Turns tc a b) (k : Turns tc b c) : Turns tc a c :=
  ⟨k.os.trans h.os, k.tape.trans h.tape, k.output.trans h.output, Nat.le_trans h.size k.size, fun i x t f h1 h2 => k.blk i x t f (h.blk i x t f h1 h2) h2⟩
theorem Turns.refl (tc : TypeId) (w : World) : Turns tc w w := ⟨rfl, rfl, rfl, Nat.le_refl _, fun _ _ _ _ h _ => h⟩
theorem turns_none {tc : TypeId} {w w' : World} (h : w.grownBy w' none) : Turns tc w w' :=
  ⟨h.os, h.tape, h.output, h.size, fun b c t f h1 _ => (h.block b (heap_lt h1) (by simp)).trans h1⟩
theorem turns_alloc (tc : TypeId) (w : World) (o : Obj) : Turns tc w (w.alloc o) := turns_none (World.grownBy_alloc w o none)
theorem turns_drew (tc : TypeId) (w : World) : Turns tc w w.drew := ⟨rfl, rfl, rfl, Nat.le_refl _, fun _ _ _ _ h _ => h⟩
theorem turns_set {tc : TypeId} {w : World} {a : Addr} {c : Array Value} {f : Nat × Nat} (h : w.heap[a.block]? = some (.cells c tc f)) (u : Value) : Turns tc w (w.setCell a u) := by
  have hg := grownBy_setCell w a u
  refine ⟨hg.os, hg.tape, hg.output, hg.size, fun b x t f' h1 h2 => (hg.block b (heap_lt h1) ?_).trans h1⟩
  intro e
  cases e
  rw [h] at h1
  simp at h1
  exact h2 h1.2.1.symm
theorem turns_row {tc : TypeId} {w w' : World} {base size n : Nat} {v : Value} {xs : List Value} (h : w.ownsRow base tc size v n xs) (hg : w.grownBy w' v.ownBlock) : Turns tc w w' := by
  refine ⟨hg.os, hg.tape, hg.output, hg.size, fun b x t f' h1 h2 => (hg.block b (heap_lt h1) ?_).trans h1⟩
  intro e
  rcases h.2 with ⟨e1, _⟩ | ⟨g', cp, cur, e1, _, hgg, _⟩
  · rw [e1] at e; cases e
  · rw [e1] at e; cases e
    rw [hgg] at h1; simp at h1; exact h2 h1.2.1.symm
theorem Turns.row {tc e : TypeId} {w w' : World} {base size n : Nat} {v : Value} {xs : List Value} (k : Turns tc w w') (h : w.ownsRow base e size v n xs) (he : e ≠ tc) : w'.ownsRow base e size v n xs := by
  obtain ⟨h1, h2⟩ := h
  refine ⟨h1, ?_⟩
  rcases h2 with h2 | ⟨g, cap, cur, hv, hg, hh, r⟩
  · exact Or.inl h2
  · exact Or.inr ⟨g, cap, cur, hv, hg, k.blk _ _ _ _ hh he, r⟩
theorem Turns.rowIs {tc e : TypeId} {w w' : World} {b n : Nat} {f : Nat → Value} (k : Turns tc w w') (h : w.rowIs b e n f) (he : e ≠ tc) : w'.rowIs b e n f := by
  obtain ⟨c, hb, r⟩ := h
  exact ⟨c, k.blk _ _ _ _ hb he, r⟩
theorem Turns.lt {tc : TypeId} {w w' : World} (k : Turns tc w w') {b : Nat} (h : b < w.heap.size) : b < w'.heap.size := Nat.lt_of_lt_of_le h k.size

/-- lendDoubts amid its work: t in block T, its result's block R. -/
structure LD (w wr : World) (B R T m : Nat) (v vG vN : Value) (vA : Value) (ds : List Dbt) (ka kn : Nat) (D : Nat → Nat → Prop) : Prop where
  r : wr.heap[R]? = some (.cells #[.slice none 0 0, .slice none 0 0, .slice none 0 0, .slice none 0 0, .int .i64 0] 60 (0, 0))
  t : wr.heap[T]? = some (.cells #[v, vG, vN, vA, .int .i64 m] 60 (0, 0))
  l : ∃ l, MarkedTo m ka ds l ∧ wr.ownsRow B 82 3 v ds.length (dCells l)
  nr : wr.ownsRow B 22 1 vN kn (nCells (ds.take kn))
  news : ∀ j x, ds[j]? = some x → B ≤ x.g ∧ ∃ f, wr.rowIs x.g 47 x.n f ∧ ∀ i, i < x.n → D j i → f i = .int .u64 (markOf m j i)
  keeps : Keeps (fun b => B ≤ b) w wr

section
variable {w wr : World} {B R T m : Nat} {v vG vN vA : Value} {ds : List Dbt} {ka kn : Nat} {D : Nat → Nat → Prop}

/-- At and Old of the k-th are marked. -/
theorem LD.two (h : LD w wr B R T m v vG vN vA ds ka kn D) {x : Dbt} (hx : ds[ka]? = some x) {b cap : Nat} (hv : v = .slice (some ⟨b, 0, none⟩) ds.length cap) :
    LD w ((wr.setCell ⟨b, ka * 3, none⟩ (.int .i64 (-1000 * m - ka - 1))).setCell ⟨b, ka * 3 + 1, none⟩ (.int .u64 (1000 * m + ka))) B R T m v vG vN vA ds (ka + 1) kn D := by
  obtain ⟨l, hl, hrow⟩ := h.l
  subst hv
  have hb := hrow.lt b rfl
  obtain ⟨s1, g1⟩ := hrow.stored (ka * 3) (.int .i64 (-1000 * m - ka - 1))
  obtain ⟨s2, g2⟩ := s1.stored (ka * 3 + 1) (.int .u64 (1000 * m + ka))
  have hT : Turns 82 wr ((wr.setCell ⟨b, ka * 3, none⟩ (.int .i64 (-1000 * m - ka - 1))).setCell ⟨b, ka * 3 + 1, none⟩ (.int .u64 (1000 * m + ka))) := (turns_row hrow g1).trans (turns_row s1 g2)
  refine ⟨hT.blk _ _ _ _ h.r (by decide), hT.blk _ _ _ _ h.t (by decide), ⟨l.set ka (mk1 m ka x), hl.step hx, ?_⟩, hT.row h.nr (by decide), fun j y hy => ?_, ?_⟩
  · have hk : l[ka]? = some x := by rw [hl.2 ka x hx, if_neg (by omega)]
    have e := dCells_set l ka x (-1000 * m - ka - 1) (1000 * m + ka) hk
    rw [show mk1 m ka x = ⟨-1000 * m - ka - 1, 1000 * m + ka, x.g, x.n⟩ from rfl, ← e]
    exact s2
  · obtain ⟨q1, f, q2, q3⟩ := h.news j y hy
    exact ⟨q1, f, hT.rowIs q2 (by decide), q3⟩
  · exact (h.keeps.step g1 (by rintro k hk; cases hk; exact Or.inl hb.1)).step g2 (by rintro k hk; cases hk; exact Or.inl hb.1)

/-- A list of news is taken in. -/
theorem LD.take (h : LD w wr B R T m v vG vN vA ds ka kn D) {x : Dbt} (hx : ds[kn]? = some x) (hRT : R ≠ T) {w6 : World} {o : Obj} {wd : World} (hwd : wd.heap = wr.heap ∧ wd.os = wr.os ∧ wd.tape = wr.tape ∧ wd.output = wr.output) {vN' : Value}
    (h2 : w6.ownsRow B 22 1 vN' (kn + 1) (nCells (ds.take kn) ++ [.slice (some ⟨x.g, 0, none⟩) x.n x.n])) (hg : (wd.alloc o).grownBy w6 vN.ownBlock) (hBT : B ≤ T) :
    LD w (w6.setCell ⟨T, 2, none⟩ vN') B R T m v vG vN' vA ds ka (kn + 1) D := by
  obtain ⟨d1, d2, d3, d4⟩ := hwd
  have g0 : wr.grownBy (wd.alloc o) none := by
    have := World.grownBy_alloc wd o none
    exact ⟨this.os.trans d2, this.tape.trans d3, this.output.trans d4, by have := this.size; rw [d1] at this; exact this, fun k hk hn => (this.block k (by rw [d1]; exact hk) hn).trans (by rw [d1])⟩
  have hN1 := ownsRow_grow h.nr g0
  have hT : Turns 22 wr w6 := (turns_none g0).trans (turns_row hN1 hg)
  have ht6 := hT.blk _ _ _ _ h.t (by decide)
  have hr6 := hT.blk _ _ _ _ h.r (by decide)
  have g3 := grownBy_setCell w6 ⟨T, 2, none⟩ vN'
  have oth : ∀ (b : Nat) (c : Array Value) (t : TypeId) (f : Nat × Nat), w6.heap[b]? = some (.cells c t f) → b ≠ T → (w6.setCell ⟨T, 2, none⟩ vN').heap[b]? = some (.cells c t f) := fun b c t f h1 h2 => (g3.block b (heap_lt h1) (by simpa using h2)).trans h1
  have hT6 : Turns 60 w6 (w6.setCell ⟨T, 2, none⟩ vN') := turns_set ht6 vN'
  refine ⟨oth _ _ _ _ hr6 hRT, ?_, ?_, ?_, fun j y hy => ?_, ?_⟩
  · have := setCell_block (a := ⟨T, 2, none⟩) (v := vN') ht6 rfl
    simpa using this
  · obtain ⟨l, hl, hrow⟩ := h.l
    exact ⟨l, hl, hT6.row (hT.row hrow (by decide)) (by decide)⟩
  · have e : nCells (ds.take (kn + 1)) = nCells (ds.take kn) ++ [.slice (some ⟨x.g, 0, none⟩) x.n x.n] := by
      have hk := (List.getElem?_eq_some_iff.1 hx).1
      have he := (List.getElem?_eq_some_iff.1 hx).2
      rw [List.take_succ_eq_append_getElem hk, he]
      simp [nCells]
    rw [e]
    exact hT6.row h2 (by decide)
  · obtain ⟨q1, f, q2, q3⟩ := h.news j y hy
    exact ⟨q1, f, hT6.rowIs (hT.rowIs q2 (by decide)) (by decide), q3⟩
  · refine ((h.keeps.step g0 (by simp)).step hg ?_).step g3 (by rintro k hk; cases hk; exact Or.inl hBT)
    intro k hk
    exact Or.inl (h.nr.lt k hk).1

/-- A mark is set among the news of the k-th. -/
theorem LD.mark {k j : Nat} (h : LD w wr B R T m v vG vN vA ds ka kn (fun a i => a < k ∨ (a = k ∧ i < j))) {x : Dbt} (hx : ds[k]? = some x) (hd : Dist ds) :
    LD w (wr.setCell ⟨x.g, j, none⟩ (.int .u64 (markOf m k j))) B R T m v vG vN vA ds ka kn (fun a i => a < k ∨ (a = k ∧ i < j + 1)) := by
  obtain ⟨q1, f, q2, q3⟩ := h.news k x hx
  obtain ⟨c, hb, hc⟩ := q2
  have hT : Turns 47 wr (wr.setCell ⟨x.g, j, none⟩ (.int .u64 (markOf m k j))) := turns_set (a := ⟨x.g, j, none⟩) hb _
  have g1 := grownBy_setCell wr ⟨x.g, j, none⟩ (.int .u64 (markOf m k j))
  refine ⟨hT.blk _ _ _ _ h.r (by decide), hT.blk _ _ _ _ h.t (by decide), ?_, hT.row h.nr (by decide), fun a y hy => ?_, h.keeps.step g1 (by rintro i hi; cases hi; exact Or.inl q1)⟩
  · obtain ⟨l, hl, hrow⟩ := h.l
    exact ⟨l, hl, hT.row hrow (by decide)⟩
  · by_cases ha : a = k
    · subst ha
      rw [hx] at hy
      cases hy
      refine ⟨q1, _, World.rowIs.set ⟨c, hb, hc⟩ j (.int .u64 (markOf m a j)), fun i hi hD => ?_⟩
      by_cases hij : i = j
      · simp [hij]
      · simp only [hij, if_false]
        exact q3 i hi (by rcases hD with hD | hD
                          · omega
                          · exact Or.inr ⟨rfl, by omega⟩)
    · obtain ⟨p1, f', p2, p3⟩ := h.news a y hy
      refine ⟨p1, f', p2.setOther ?_ _, fun i hi hD => p3 i hi ?_⟩
      · intro e
        exact ha (hd a k y x hy hx e)
      · rcases hD with hD | hD
        · exact Or.inl hD
        · exact absurd hD.1 ha

theorem LD.weak {D' : Nat → Nat → Prop} (h : LD w wr B R T m v vG vN vA ds ka kn D) (hD : ∀ j i x, ds[j]? = some x → i < x.n → D' j i → D j i) : LD w wr B R T m v vG vN vA ds ka kn D' :=
  ⟨h.r, h.t, h.l, h.nr, fun j x hx => by
    obtain ⟨q1, f, q2, q3⟩ := h.news j x hx
    exact ⟨q1, f, q2, fun i hi hd => q3 i hi (hD j i x hx hi hd)⟩, h.keeps⟩

theorem LD.drew (h : LD w wr B R T m v vG vN vA ds ka kn D) : LD w wr.drew B R T m v vG vN vA ds ka kn D :=
  ⟨h.r, h.t, h.l, h.nr, h.news, ⟨h.keeps.os, h.keeps.tape, h.keeps.output, h.keeps.size, h.keeps.block⟩⟩
end

end Go.Proofs.Ytfiekdgpdboolab
