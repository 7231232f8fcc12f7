import Derived.Test.YtfiekdgpdboolabY6b
namespace Go.Proofs.Ytfiekdgpdboolab
open Go.RowKit Go.Maps

def ggOf (ds : List Dbt) (j : Nat) : Nat := (ds[j]?.map Dbt.g).getD 0
theorem ggOf_eq {ds : List Dbt} {j : Nat} {x : Dbt} (h : ds[j]? = some x) : ggOf ds j = x.g := by simp [ggOf, h]

/-- What is behind a list of doubts. -/
def tails (m : Nat) : Nat → List Value
  | 0 => []
  | j + 1 => tails m j ++ [.int .i64 (-(m : Int) - 1), .int .u64 (m : Int), .slice none 0 0]

theorem tails_len (m j : Nat) : (tails m j).length = j * 3 := by
  induction j with
  | zero => rfl
  | succ j ih => simp [tails, ih]; omega

theorem tails_get (m j i : Nat) (h : i < j) : (tails m j)[i * 3]? = some (.int .i64 (-(m : Int) - 1)) ∧ (tails m j)[i * 3 + 1]? = some (.int .u64 (m : Int)) ∧ (tails m j)[i * 3 + 2]? = some (.slice none 0 0) := by
  induction j with
  | zero => omega
  | succ j ih =>
    have hl := tails_len m j
    by_cases hi : i < j
    · obtain ⟨h1, h2, h3⟩ := ih hi
      simp only [tails]
      refine ⟨?_, ?_, ?_⟩ <;> rw [List.getElem?_append_left (by omega)] <;> assumption
    · obtain rfl : i = j := by omega
      simp only [tails]
      refine ⟨?_, ?_, ?_⟩ <;> rw [List.getElem?_append_right (by omega), hl]
      · simp
      · rw [show i * 3 + 1 - i * 3 = 1 by omega]; rfl
      · rw [show i * 3 + 2 - i * 3 = 2 by omega]; rfl

/-- lendDoubts at its end: the list behind the list grows. -/
structure FD (w wr : World) (B R T m n : Nat) (p : Option Addr) (cap : Nat) (vG vN vA : Value) (ds l : List Dbt) (j : Nat) (hh ch : Nat → Nat) : Prop where
  r : wr.heap[R]? = some (.cells #[.slice none 0 0, .slice none 0 0, .slice none 0 0, .slice none 0 0, .int .i64 0] 60 (0, 0))
  t : wr.heap[T]? = some (.cells #[.slice p n cap, vG, vN, vA, .int .i64 m] 60 (0, 0))
  ml : MarkedTo m n ds l
  gr : wr.ownsRow B 82 3 vG (n + j) (dCells l ++ tails m j)
  lc : 0 < n → ∃ b, p = some ⟨b, 0, none⟩ ∧ B ≤ b ∧ b < wr.heap.size ∧ ∀ i, i < n * 3 → wr.cell? ⟨b, i, none⟩ = (dCells l)[i]?
  nr : wr.ownsRow B 22 1 vN n (nCells ds)
  news : ∀ k x, ds[k]? = some x → B ≤ x.g ∧ ∃ f, wr.rowIs x.g 47 x.n f ∧ ∀ i, i < x.n → f i = .int .u64 (markOf m k i)
  ad : AD wr B m ds vN vA n hh ch
  keeps : Keeps (fun b => B ≤ b) w wr

section
variable {w wr : World} {B R T m n cap : Nat} {p : Option Addr} {vG vN vA : Value} {ds l : List Dbt} {j : Nat} {hh ch : Nat → Nat}

theorem fd_start (h : LD w wr B R T m (.slice p n cap) (.slice none 0 0) vN vA ds n n (fun _ _ => True)) (a : AD wr B m ds vN vA n hh ch) (hn : n = ds.length) (hRT : R ≠ T) (hBT : B ≤ T) :
    ∃ l, FD w (wr.setCell ⟨T, 1, none⟩ (.slice p n cap)) B R T m n p cap (.slice p n cap) vN vA ds l 0 hh ch := by
  obtain ⟨l, hl, hrow⟩ := h.l
  rw [← hn] at hrow
  have g3 := grownBy_setCell wr ⟨T, 1, none⟩ (.slice p n cap)
  have hT6 : Turns 60 wr (wr.setCell ⟨T, 1, none⟩ (.slice p n cap)) := turns_set h.t _
  have hrow' := hT6.row hrow (by decide)
  have htk : ds.take n = ds := by rw [hn, List.take_length]
  refine ⟨l, (g3.block R (heap_lt h.r) (by simpa using hRT)).trans h.r, ?_, hl, by simpa [tails] using hrow', fun h0 => ?_, ?_, fun k x hx => ?_, a.kept hT6, h.keeps.step g3 (by rintro i hi; cases hi; exact Or.inl hBT)⟩
  · have := setCell_block (a := ⟨T, 1, none⟩) (v := .slice p n cap) h.t rfl
    simpa using this
  · obtain ⟨p', cap', e, _, hc⟩ := row_open hrow'
    cases e
    obtain ⟨g, e1, e2, e3, e4⟩ := hc h0
    exact ⟨g, e1, e2, e3, e4⟩
  · have := h.nr
    rw [htk] at this
    exact hT6.row this (by decide)
  · obtain ⟨q1, f, q2, q3⟩ := h.news k x hx
    exact ⟨q1, f, hT6.rowIs q2 (by decide), fun i hi => q3 i hi trivial⟩

theorem FD.more (h : FD w wr B R T m n p cap vG vN vA ds l j hh ch) (hRT : R ≠ T) (hBT : B ≤ T) {o : Obj} {w6 : World} {g6 c6 H : Nat} (hlen : l.length = n)
    (hrow6 : w6.ownsRow B 82 3 (.slice (some ⟨g6, 0, none⟩) (n + j + 1 : Nat) c6) (n + j + 1) ((dCells l ++ tails m j) ++ [.int .i64 (-(m : Int) - 1), .int .u64 (m : Int), .slice none 0 0]))
    (hg : (wr.alloc o).grownBy w6 vG.ownBlock) (hloc : vG.ownBlock = some g6 ∨ (g6 = H ∧ (wr.alloc o).grownBy w6 none)) :
    FD w (w6.setCell ⟨T, 1, none⟩ (.slice (some ⟨g6, 0, none⟩) (n + j + 1 : Nat) c6)) B R T m n p cap (.slice (some ⟨g6, 0, none⟩) (n + j + 1 : Nat) c6) vN vA ds l (j + 1) hh ch := by
  have g0 := World.grownBy_alloc wr o none
  have hr0 := h.gr.alloc o
  have hT : Turns 82 wr w6 := (turns_none g0).trans (turns_row hr0 hg)
  have ht6 := hT.blk _ _ _ _ h.t (by decide)
  have hr6 := hT.blk _ _ _ _ h.r (by decide)
  have g3 := grownBy_setCell w6 ⟨T, 1, none⟩ (.slice (some ⟨g6, 0, none⟩) (n + j + 1 : Nat) c6)
  have hT6 : Turns 60 w6 (w6.setCell ⟨T, 1, none⟩ (.slice (some ⟨g6, 0, none⟩) (n + j + 1 : Nat) c6)) := turns_set ht6 _
  have hdl := dCells_len l
  refine ⟨(g3.block R (heap_lt hr6) (by simpa using hRT)).trans hr6, ?_, h.ml, ?_, fun h0 => ?_, hT6.row (hT.row h.nr (by decide)) (by decide), fun k x hx => ?_, ?_, ?_⟩
  · have := setCell_block (a := ⟨T, 1, none⟩) (v := .slice (some ⟨g6, 0, none⟩) (n + j + 1 : Nat) c6) ht6 rfl
    simpa using this
  · rw [List.append_assoc] at hrow6
    exact hT6.row hrow6 (by decide)
  · obtain ⟨b, e1, e2, e3, e4⟩ := h.lc h0
    have hbT : b ≠ T := by
      intro e
      have := e4 0 (by omega)
      rw [e] at this
      have ht := h.t
      simp [World.cell?, ht] at this
      rcases hl0 : l with _ | ⟨x, l'⟩
      · simp [hl0] at hlen; omega
      · rw [hl0] at this; simp [dCells, Dbt.three] at this
    refine ⟨b, e1, e2, by have := hT.size; have := g3.size; omega, fun i hi => ?_⟩
    have hsome : ∃ u, (dCells l)[i]? = some u := ⟨_, List.getElem?_eq_getElem (by omega)⟩
    obtain ⟨u, hu⟩ := hsome
    rw [hu]
    refine g3.cell ?_ (by simpa using hbT)
    have hc0 : wr.cell? ⟨b, i, none⟩ = some u := (e4 i hi).trans hu
    have hc1 : (wr.alloc o).cell? ⟨b, i, none⟩ = some u := g0.cell hc0 (by simp)
    by_cases hb : vG.ownBlock = some b
    · exact stay_cell hr0 hrow6 hloc hb i u (by rw [List.getElem?_append_left (by omega)]; exact hu)
    · exact hg.cell hc1 (fun e => hb e.symm)
  · obtain ⟨q1, f, q2, q3⟩ := h.news k x hx
    exact ⟨q1, f, hT6.rowIs (hT.rowIs q2 (by decide)) (by decide), q3⟩
  · refine AD.kept ⟨hT.row h.ad.ar (by decide), fun k hk => ?_, h.ad.ne⟩ hT6
    obtain ⟨q1, q2, c, q3, q4⟩ := h.ad.hb k hk
    exact ⟨q1, q2, c, hT.blk _ _ _ _ q3 (by decide), q4⟩
  · exact ((h.keeps.step g0 (by simp)).step hg (fun i hi => Or.inl (h.gr.lt i hi).1)).step g3 (by rintro i hi; cases hi; exact Or.inl hBT)
end

/-- A list of doubts that was handed out, and all that hangs on it. -/
structure Told1 where
  m : Nat
  n : Nat
  pL : Option Addr
  cL : Nat
  gG : Nat
  cG : Nat
  pN : Option Addr
  cN : Nat
  pA : Option Addr
  cA : Nat
  g : Nat → Nat
  nn : Nat → Nat
  h : Nat → Nat
  ch : Nat → Nat

def Told1.five (t : Told1) : List Value := [.slice t.pL t.n t.cL, .slice (some ⟨t.gG, 0, none⟩) (t.n + 3 : Nat) t.cG, .slice t.pN t.n t.cN, .slice t.pA t.n t.cA, .int .i64 t.m]

structure Told1.Ok (w : World) (Z : Nat → Prop) (t : Told1) : Prop where
  m : t.m ≤ 100
  n : t.n ≤ 1000
  nn : ∀ k, k < t.n → t.nn k ≤ 1000 ∧ t.nn k + 3 ≤ t.ch k
  l : 0 < t.n → ∃ b, t.pL = some ⟨b, 0, none⟩ ∧ Z b ∧ ∀ k, k < t.n → w.cell? ⟨b, k * 3, none⟩ = some (.int .i64 (-1000 * (t.m : Int) - (k : Int) - 1)) ∧ w.cell? ⟨b, k * 3 + 1, none⟩ = some (.int .u64 (1000 * (t.m : Int) + (k : Int))) ∧ w.cell? ⟨b, k * 3 + 2, none⟩ = some (.slice (some ⟨t.g k, 0, none⟩) (t.nn k) (t.nn k))
  gz : Z t.gG
  g1 : ∀ k, k < t.n → w.cell? ⟨t.gG, k * 3, none⟩ = some (.int .i64 (-1000 * (t.m : Int) - (k : Int) - 1)) ∧ w.cell? ⟨t.gG, k * 3 + 1, none⟩ = some (.int .u64 (1000 * (t.m : Int) + (k : Int))) ∧ w.cell? ⟨t.gG, k * 3 + 2, none⟩ = some (.slice (some ⟨t.g k, 0, none⟩) (t.nn k) (t.nn k))
  g2 : ∀ k, t.n ≤ k → k < t.n + 3 → w.cell? ⟨t.gG, k * 3, none⟩ = some (.int .i64 (-(t.m : Int) - 1)) ∧ w.cell? ⟨t.gG, k * 3 + 1, none⟩ = some (.int .u64 (t.m : Int)) ∧ w.cell? ⟨t.gG, k * 3 + 2, none⟩ = some (.slice none 0 0)
  nr : 0 < t.n → ∃ b, t.pN = some ⟨b, 0, none⟩ ∧ Z b ∧ ∀ k, k < t.n → w.cell? ⟨b, k, none⟩ = some (.slice (some ⟨t.g k, 0, none⟩) (t.nn k) (t.nn k))
  ar : 0 < t.n → ∃ b, t.pA = some ⟨b, 0, none⟩ ∧ Z b ∧ ∀ k, k < t.n → w.cell? ⟨b, k, none⟩ = some (.slice (some ⟨t.h k, 0, none⟩) (t.nn k + 3 : Nat) (t.ch k))
  gs : ∀ k, k < t.n → Z (t.g k) ∧ ∀ i, i < t.nn k → w.cell? ⟨t.g k, i, none⟩ = some (.int .u64 (markOf t.m k i))
  hs : ∀ k, k < t.n → Z (t.h k) ∧ (∀ i, i < t.nn k → w.cell? ⟨t.h k, i, none⟩ = some (.int .u64 (markOf t.m k i))) ∧ w.cell? ⟨t.h k, t.nn k, none⟩ = some (.int .u64 (7 + (t.m : Int))) ∧ w.cell? ⟨t.h k, t.nn k + 1, none⟩ = some (.int .u64 (8 + (t.m : Int))) ∧ w.cell? ⟨t.h k, t.nn k + 2, none⟩ = some (.int .u64 (9 + (t.m : Int)))

theorem Told1.Ok.kept {w w' : World} {Z X : Nat → Prop} {t : Told1} (h : t.Ok w Z) (k : Keeps X w w') (hx : ∀ b, Z b → ¬ X b) : t.Ok w' Z := by
  refine ⟨h.m, h.n, h.nn, fun h0 => ?_, h.gz, fun i hi => ?_, fun i hi hi2 => ?_, fun h0 => ?_, fun h0 => ?_, fun i hi => ?_, fun i hi => ?_⟩
  · obtain ⟨b, e1, e2, e3⟩ := h.l h0
    exact ⟨b, e1, e2, fun i hi => ⟨k.cell (e3 i hi).1 (hx b e2), k.cell (e3 i hi).2.1 (hx b e2), k.cell (e3 i hi).2.2 (hx b e2)⟩⟩
  · obtain ⟨q1, q2, q3⟩ := h.g1 i hi
    exact ⟨k.cell q1 (hx _ h.gz), k.cell q2 (hx _ h.gz), k.cell q3 (hx _ h.gz)⟩
  · obtain ⟨q1, q2, q3⟩ := h.g2 i hi hi2
    exact ⟨k.cell q1 (hx _ h.gz), k.cell q2 (hx _ h.gz), k.cell q3 (hx _ h.gz)⟩
  · obtain ⟨b, e1, e2, e3⟩ := h.nr h0
    exact ⟨b, e1, e2, fun i hi => k.cell (e3 i hi) (hx b e2)⟩
  · obtain ⟨b, e1, e2, e3⟩ := h.ar h0
    exact ⟨b, e1, e2, fun i hi => k.cell (e3 i hi) (hx b e2)⟩
  · obtain ⟨e2, e3⟩ := h.gs i hi
    exact ⟨e2, fun j hj => k.cell (e3 j hj) (hx _ e2)⟩
  · obtain ⟨e2, e3, e4, e5, e6⟩ := h.hs i hi
    exact ⟨e2, fun j hj => k.cell (e3 j hj) (hx _ e2), k.cell e4 (hx _ e2), k.cell e5 (hx _ e2), k.cell e6 (hx _ e2)⟩

theorem Told1.Ok.zmono {w : World} {Z Z' : Nat → Prop} {t : Told1} (h : t.Ok w Z) (hz : ∀ b, Z b → Z' b) : t.Ok w Z' :=
  ⟨h.m, h.n, h.nn, fun h0 => by obtain ⟨b, e1, e2, e3⟩ := h.l h0; exact ⟨b, e1, hz _ e2, e3⟩, hz _ h.gz, h.g1, h.g2, fun h0 => by obtain ⟨b, e1, e2, e3⟩ := h.nr h0; exact ⟨b, e1, hz _ e2, e3⟩,
   fun h0 => by obtain ⟨b, e1, e2, e3⟩ := h.ar h0; exact ⟨b, e1, hz _ e2, e3⟩, fun k hk => ⟨hz _ (h.gs k hk).1, (h.gs k hk).2⟩, fun k hk => ⟨hz _ (h.hs k hk).1, (h.hs k hk).2⟩⟩

/-- What lendDoubts leaves, told. -/
theorem fd_told {w wr : World} {B R T m n cap : Nat} {p : Option Addr} {vG vN vA : Value} {ds l : List Dbt} {hh ch : Nat → Nat} (h : FD w wr B R T m n p cap vG vN vA ds l 3 hh ch)
    (hn : n = ds.length) (hm : m ≤ 100) (hl : n ≤ 1000) (hnn : ∀ (j : Nat) (x : Dbt), ds[j]? = some x → 0 < x.n ∧ x.n ≤ 1000) :
    ∃ t : Told1, vG = .slice (some ⟨t.gG, 0, none⟩) (n + 3 : Nat) t.cG ∧ t.five = [.slice p n cap, vG, vN, vA, .int .i64 m] ∧ t.Ok wr (fun b => B ≤ b ∧ b < wr.heap.size ∧ b ≠ R) := by
  obtain ⟨gG, cG, rfl, hBg, hgl⟩ := h.gr.form (by omega)
  obtain ⟨pN, cN, rfl, _, hN⟩ := row_open h.nr
  obtain ⟨pA, cA, rfl, _, hA⟩ := row_open h.ad.ar
  have hll : l.length = n := by rw [h.ml.1, hn]
  have hdl := dCells_len l
  have hx : ∀ k, k < n → ∃ x, ds[k]? = some x := fun k hk => ⟨_, List.getElem?_eq_getElem (by omega)⟩
  have hlx : ∀ k x, k < n → ds[k]? = some x → l[k]? = some (mk1 m k x) := fun k x hk hx => by rw [h.ml.2 k x hx, if_pos hk]
  have tyb : ∀ (b : Nat) (c : Array Value) (t : TypeId) (f : Nat × Nat), wr.heap[b]? = some (.cells c t f) → t ≠ 60 → b ≠ R := fun b c t f h1 h2 e => by
    subst e
    rw [h.r] at h1
    simp at h1
    exact h2 h1.2.1.symm
  have rowR : ∀ {e : TypeId} {size k : Nat} {v : Value} {xs : List Value} {g : Nat}, wr.ownsRow B e size v k xs → v.ownBlock = some g → e ≠ 60 → g ≠ R := fun hr hv he => by
    rcases hr.2 with ⟨e1, _⟩ | ⟨g', cp, cur, e1, _, hgg, _⟩
    · rw [e1] at hv; cases hv
    · rw [e1] at hv; cases hv
      exact tyb _ _ _ _ hgg he
  refine ⟨⟨m, n, p, cap, gG, cG, pN, cN, pA, cA, ggOf ds, nnOf ds, hh, ch⟩, rfl, rfl, hm, hl, fun k hk => ?_, fun h0 => ?_, ⟨hBg, hgl, rowR h.gr rfl (by decide)⟩, fun k hk => ?_, fun k hk hk2 => ?_, fun h0 => ?_, fun h0 => ?_, fun k hk => ?_, fun k hk => ?_⟩
  · obtain ⟨x, hx'⟩ := hx k hk
    refine ⟨?_, (h.ad.hb k hk).2.1⟩
    show nnOf ds k ≤ 1000
    rw [nnOf_eq hx']
    exact (hnn k x hx').2
  · have h0' : 0 < n := h0
    obtain ⟨b, e1, e2, e3, e4⟩ := h.lc h0'
    refine ⟨b, e1, ⟨e2, e3, ?_⟩, fun k hk => ?_⟩
    · intro e
      have := e4 0 (by omega)
      rw [e] at this
      simp [World.cell?, h.r] at this
      rcases hl0 : l with _ | ⟨x, l'⟩
      · simp [hl0] at hll; omega
      · rw [hl0] at this; simp [dCells, Dbt.three] at this
    · obtain ⟨x, hx'⟩ := hx k hk
      obtain ⟨q1, q2, q3⟩ := dCells_get l k _ (hlx k x hk hx')
      have hk' : k < n := hk
      show _ ∧ _ ∧ wr.cell? ⟨b, k * 3 + 2, none⟩ = some (.slice (some ⟨ggOf ds k, 0, none⟩) (nnOf ds k) (nnOf ds k))
      rw [ggOf_eq hx', nnOf_eq hx']
      exact ⟨(e4 _ (by omega)).trans q1, (e4 _ (by omega)).trans q2, (e4 _ (by omega)).trans q3⟩
  · obtain ⟨x, hx'⟩ := hx k hk
    obtain ⟨q1, q2, q3⟩ := dCells_get l k _ (hlx k x hk hx')
    have hk' : k < n := hk
    show _ ∧ _ ∧ wr.cell? ⟨gG, k * 3 + 2, none⟩ = some (.slice (some ⟨ggOf ds k, 0, none⟩) (nnOf ds k) (nnOf ds k))
    rw [ggOf_eq hx', nnOf_eq hx']
    refine ⟨?_, ?_, ?_⟩
    · rw [h.gr.cellAt _ (by omega), List.getElem?_append_left (by omega)]; exact q1
    · rw [h.gr.cellAt _ (by omega), List.getElem?_append_left (by omega)]; exact q2
    · rw [h.gr.cellAt _ (by omega), List.getElem?_append_left (by omega)]; exact q3
  · have hk1 : n ≤ k := hk
    have hk3 : k < n + 3 := hk2
    obtain ⟨q1, q2, q3⟩ := tails_get m 3 (k - n) (by omega)
    refine ⟨?_, ?_, ?_⟩
    · rw [h.gr.cellAt _ (by omega), List.getElem?_append_right (by omega), ← q1]; congr 1; omega
    · rw [h.gr.cellAt _ (by omega), List.getElem?_append_right (by omega), ← q2]; congr 1; omega
    · rw [h.gr.cellAt _ (by omega), List.getElem?_append_right (by omega), ← q3]; congr 1; omega
  · obtain ⟨b, e1, e2, e3, e4⟩ := hN h0
    refine ⟨b, e1, ⟨e2, e3, rowR h.nr (by rw [e1]; rfl) (by decide)⟩, fun k hk => ?_⟩
    obtain ⟨x, hx'⟩ := hx k hk
    have hk' : k < n := hk
    show wr.cell? ⟨b, k, none⟩ = some (.slice (some ⟨ggOf ds k, 0, none⟩) (nnOf ds k) (nnOf ds k))
    rw [ggOf_eq hx', nnOf_eq hx', e4 k (by omega)]
    simp [nCells, hx']
  · obtain ⟨b, e1, e2, e3, e4⟩ := hA h0
    refine ⟨b, e1, ⟨e2, e3, rowR h.ad.ar (by rw [e1]; rfl) (by decide)⟩, fun k hk => ?_⟩
    have hk' : k < n := hk
    show wr.cell? ⟨b, k, none⟩ = some (.slice (some ⟨hh k, 0, none⟩) (nnOf ds k + 3 : Nat) (ch k))
    rw [e4 k (by omega)]
    simp [aCells, hk']
  · obtain ⟨x, hx'⟩ := hx k hk
    obtain ⟨q1, f, q2, q3⟩ := h.news k x hx'
    show (B ≤ ggOf ds k ∧ ggOf ds k < wr.heap.size ∧ ggOf ds k ≠ R) ∧ ∀ i, i < nnOf ds k → wr.cell? ⟨ggOf ds k, i, none⟩ = some (.int .u64 (markOf m k i))
    rw [ggOf_eq hx', nnOf_eq hx']
    obtain ⟨c, hc, _⟩ := id q2
    exact ⟨⟨q1, q2.lt, tyb _ _ _ _ hc (by decide)⟩, fun i hi => by rw [q2.cell hi, q3 i hi]⟩
  · obtain ⟨q1, q2, c, q3, q4, q5, q6, q7⟩ := h.ad.hb k hk
    refine ⟨⟨q1, heap_lt q3, tyb _ _ _ _ q3 (by decide)⟩, fun i hi => ?_, ?_, ?_, ?_⟩
    · show wr.cell? ⟨hh k, i, none⟩ = _
      simp [World.cell?, q3, q4 i hi]
    · show wr.cell? ⟨hh k, nnOf ds k, none⟩ = _
      simp [World.cell?, q3, q5]
    · show wr.cell? ⟨hh k, nnOf ds k + 1, none⟩ = _
      simp [World.cell?, q3, q6]
    · show wr.cell? ⟨hh k, nnOf ds k + 2, none⟩ = _
      simp [World.cell?, q3, q7]

/-- A struct of five written anew. -/
theorem set5_cells {w : World} {R : Nat} {a b c d e : Value} {t : TypeId} (h : w.heap[R]? = some (.cells #[a, b, c, d, e] t (0, 0))) (x y z u v : Value) :
    (((((w.setCell ⟨R, 0, none⟩ x).setCell ⟨R, 1, none⟩ y).setCell ⟨R, 2, none⟩ z).setCell ⟨R, 3, none⟩ u).setCell ⟨R, 4, none⟩ v).heap[R]? = some (.cells #[x, y, z, u, v] t (0, 0)) := by
  have h1 := setCell_block (a := ⟨R, 0, none⟩) (v := x) h rfl
  have h2 := setCell_block (a := ⟨R, 1, none⟩) (v := y) h1 rfl
  have h3 := setCell_block (a := ⟨R, 2, none⟩) (v := z) h2 rfl
  have h4 := setCell_block (a := ⟨R, 3, none⟩) (v := u) h3 rfl
  have h5 := setCell_block (a := ⟨R, 4, none⟩) (v := v) h4 rfl
  simp at h5
  exact h5

end Go.Proofs.Ytfiekdgpdboolab
