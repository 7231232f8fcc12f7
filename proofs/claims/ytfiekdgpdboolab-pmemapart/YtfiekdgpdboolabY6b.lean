import Derived.Test.YtfiekdgpdboolabY6
namespace Go.Proofs.Ytfiekdgpdboolab
open Go.RowKit Go.Maps

section
variable {P : Program} (w : World)

/-- append onto a full row: a new one. -/
theorem run_append_full (t ty : TypeId) (base : Nat) (e : TypeId) (i : TypeInfo) (z : Value) (size bytes : Nat) (ht : P.underlying t = some (.slice e)) (hi : P.info? e = some i) (hz : i.zero = some z)
    (hsize : i.size = size) (hby : i.bytes = bytes) (hzs : z.cells.size = size) (hsz : 0 < size)
    (b n : Nat) (xs : List Value) (hown : w.ownsRow base e size (.slice (some ⟨b, 0, none⟩) n n) n xs)
    (ad : Addr) (m c : Nat) (news : List Value) (hl : news.length = m * size) (hnews : ∀ j u, news[j]? = some u → w.cell? (ad.add j) = some u) (h1 : ∀ u ∈ news, u.oneCell' = true)
    (hm : 0 < m) (h63 : n + m ≤ maxLen) (hbytes : (n + m) * bytes ≤ 140737488355328) (hbase : base ≤ w.heap.size) (H : Nat) (hH : w.heap.size = H) :
    ∃ cap w', (Builtin.append_ #[t, t] ty #[.slice (some ⟨b, 0, none⟩) n n, .slice (some ad) m c]).run P w = .ok (.slice (some ⟨H, 0, none⟩) (n + m) cap) w' ∧
      w'.ownsRow base e size (.slice (some ⟨H, 0, none⟩) (n + m) cap) (n + m) (xs ++ news) ∧ w.grownBy w' none := by
  obtain ⟨g, cap, w', hr, h2, _, _, _⟩ := run_append_lies (P := P) w t ty base e i z size bytes ht hi hz hsize hby hzs hsz (.slice (some ⟨b, 0, none⟩) n n) n xs hown ad m c news hl hnews h1 hm h63 hbytes hbase H hH
  have holds : ∀ j u, xs[j]? = some u → w.cell? ((⟨b, 0, none⟩ : Addr).add j) = some u := hown.cells (g := b) rfl
  have hr2 := run_append_grow (P := P) w t ty e i z ht hi hz ⟨b, 0, none⟩ n n xs (by rw [hsize]; exact hown.1) holds ad m c news (by rw [hsize]; exact hl) hnews (by omega) (by simp only [maxLen] at h63; omega) (growslice_fits (by omega) (by rw [hby]; exact hbytes))
  rw [hr] at hr2
  simp only [Result.ok.injEq, Value.slice.injEq, Option.some.injEq, Addr.mk.injEq] at hr2
  have hg : g = H := by rw [hr2.1.1.1]; exact hH
  subst hg
  refine ⟨cap, w', hr, h2, ?_⟩
  rw [hr2.2]
  exact ⟨rfl, rfl, rfl, by simp, fun k hk _ => heap_alloc_old w.drew _ k hk⟩

theorem wp_append_full {o : Oper} {a : Act} {K : Act → World → Prop} {Q : Exit → Act → World → Prop} (s x : Operand) (t : TypeId)
    (ho : o.op = .call { callee := .builtin .append, args := #[s, x], argTypes := #[t, t] })
    (base : Nat) (e : TypeId) (i : TypeInfo) (z : Value) (size bytes : Nat) (ht : P.underlying t = some (.slice e)) (hi : P.info? e = some i) (hz : i.zero = some z)
    (hsize : i.size = size) (hby : i.bytes = bytes) (hzs : z.cells.size = size) (hsz : 0 < size)
    (b n : Nat) (xs : List Value) (hs : a.eval s = .slice (some ⟨b, 0, none⟩) n n) (hown : w.ownsRow base e size (.slice (some ⟨b, 0, none⟩) n n) n xs)
    (ad : Addr) (m c : Nat) (news : List Value) (hx : a.eval x = .slice (some ad) m c) (hl : news.length = m * size) (hnews : ∀ j u, news[j]? = some u → w.cell? (ad.add j) = some u) (h1 : ∀ u ∈ news, u.oneCell' = true)
    (hm : 0 < m) (h63 : n + m ≤ maxLen) (hbytes : (n + m) * bytes ≤ 140737488355328) (hbase : base ≤ w.heap.size) (H : Nat) (hH : w.heap.size = H)
    (h : ∀ cap w', w'.ownsRow base e size (.slice (some ⟨H, 0, none⟩) (n + m) cap) (n + m) (xs ++ news) → w.grownBy w' none → K (a.put o.dst (.slice (some ⟨H, 0, none⟩) (n + m) cap)) w') : o.wp P a w K Q := by
  obtain ⟨cap, w', hr, h2, h3⟩ := run_append_full (P := P) w t o.type base e i z size bytes ht hi hz hsize hby hzs hsz b n xs hown ad m c news hl hnews h1 hm h63 hbytes hbase H hH
  unfold Oper.wp execOp
  simp only [ho, resolve, invoke, builtin, Sem.run_bind, Sem.run_pure, Result.andThen_ok, List.map_toArray, List.map_cons, List.map_nil, hs, hx, hr]
  exact h cap w' h2 h3

theorem step_append_full {ops : Array Oper} {o : Oper} {a : Act} {K : Act → World → Prop} {Q : Exit → Act → World → Prop} {E : Prop} (hgd : o.guard = none) (s x : Operand) (t : TypeId)
    (ho : o.op = .call { callee := .builtin .append, args := #[s, x], argTypes := #[t, t] })
    (base : Nat) (e : TypeId) (i : TypeInfo) (z : Value) (size bytes : Nat) (ht : P.underlying t = some (.slice e)) (hi : P.info? e = some i) (hz : i.zero = some z)
    (hsize : i.size = size) (hby : i.bytes = bytes) (hzs : z.cells.size = size) (hsz : 0 < size)
    (b n : Nat) (xs : List Value) (hs : a.eval s = .slice (some ⟨b, 0, none⟩) n n) (hown : w.ownsRow base e size (.slice (some ⟨b, 0, none⟩) n n) n xs)
    (ad : Addr) (m c : Nat) (news : List Value) (hx : a.eval x = .slice (some ad) m c) (hl : news.length = m * size) (hnews : ∀ j u, news[j]? = some u → w.cell? (ad.add j) = some u) (h1 : ∀ u ∈ news, u.oneCell' = true)
    (hm : 0 < m) (h63 : n + m ≤ maxLen) (hbytes : (n + m) * bytes ≤ 140737488355328) (hbase : base ≤ w.heap.size) (H : Nat) (hH : w.heap.size = H)
    (h : ∀ cap w', w'.ownsRow base e size (.slice (some ⟨H, 0, none⟩) (n + m) cap) (n + m) (xs ++ news) → w.grownBy w' none → K (a.put o.dst (.slice (some ⟨H, 0, none⟩) (n + m) cap)) w') :
    if Region.wanted o (yielded ops a.tmps) = true then Oper.wp P o a w K Q else E := by
  have hw : Region.wanted o (yielded ops a.tmps) = true := by simp [Region.wanted, hgd]
  rw [if_pos hw]
  exact wp_append_full w s x t ho base e i z size bytes ht hi hz hsize hby hzs hsz b n xs hs hown ad m c news hx hl hnews h1 hm h63 hbytes hbase H hH h
end

def nnOf (ds : List Dbt) (j : Nat) : Nat := (ds[j]?.map Dbt.n).getD 0
theorem nnOf_eq {ds : List Dbt} {j : Nat} {x : Dbt} (h : ds[j]? = some x) : nnOf ds j = x.n := by simp [nnOf, h]
def aCells (ds : List Dbt) (h ch : Nat → Nat) (k : Nat) : List Value := (List.range k).map fun j => .slice (some ⟨h j, 0, none⟩) (nnOf ds j + 3 : Nat) (ch j)

/-- A list of news with three more behind it, in a block of its own. -/
def Longer (w : World) (m j n b : Nat) : Prop := ∃ c : Array Value, w.heap[b]? = some (.cells c 47 (0, 0)) ∧ (∀ i, i < n → c[i]? = some (.int .u64 (markOf m j i))) ∧
  c[n]? = some (.int .u64 (7 + (m : Int))) ∧ c[n + 1]? = some (.int .u64 (8 + (m : Int))) ∧ c[n + 2]? = some (.int .u64 (9 + (m : Int)))

structure AD (wr : World) (B m : Nat) (ds : List Dbt) (vN vA : Value) (k : Nat) (h ch : Nat → Nat) : Prop where
  ar : wr.ownsRow B 22 1 vA k (aCells ds h ch k)
  hb : ∀ j, j < k → B ≤ h j ∧ nnOf ds j + 3 ≤ ch j ∧ Longer wr m j (nnOf ds j) (h j)
  ne : ∀ g, vN.ownBlock = some g → vA.ownBlock ≠ some g

/-- The marks of the k-th's news. -/
def markList (m k n : Nat) : List Value := (List.range n).map fun i => .int .u64 (markOf m k i)

theorem rowIs_full {w : World} {b n : Nat} {m k : Nat} {f : Nat → Value} (h : w.rowIs b 47 n f) (hf : ∀ i, i < n → f i = .int .u64 (markOf m k i)) (hn : n ≤ 1000) :
    w.ownsRow 0 47 1 (.slice (some ⟨b, 0, none⟩) n n) n (markList m k n) := by
  obtain ⟨c, h1, h2, h3⟩ := h
  refine ⟨by simp [markList], Or.inr ⟨b, n, c, rfl, Nat.zero_le _, h1, Nat.le_refl _, by unfold maxLen; omega, by simpa using h2, ?_⟩⟩
  apply List.ext_getElem?
  intro i
  by_cases hi : i < n
  · have := h3 i hi
    rw [hf i hi] at this
    rw [List.getElem?_take, if_pos (by omega)]
    simpa [markList, hi] using this
  · rw [List.getElem?_take, if_neg (by omega)]
    simp [markList, hi]

theorem AD.kept {wr w' : World} {B m k : Nat} {ds : List Dbt} {vN vA : Value} {h ch : Nat → Nat} (a : AD wr B m ds vN vA k h ch) (hT : Turns 60 wr w') : AD w' B m ds vN vA k h ch :=
  ⟨hT.row a.ar (by decide), fun j hj => by
    obtain ⟨q1, q2, c, q3, q4⟩ := a.hb j hj
    exact ⟨q1, q2, c, hT.blk _ _ _ _ q3 (by decide), q4⟩, a.ne⟩

section
variable {w wr : World} {B R T m : Nat} {v vG vN vA : Value} {ds : List Dbt} {ka kn : Nat} {D : Nat → Nat → Prop}

/-- LD in a world that differs in new blocks alone. -/
theorem LD.grow (h : LD w wr B R T m v vG vN vA ds ka kn D) {w' : World} (g : wr.grownBy w' none) : LD w w' B R T m v vG vN vA ds ka kn D := by
  have hT : ∀ tc, Turns tc wr w' := fun tc => turns_none g
  obtain ⟨l, hl, hrow⟩ := h.l
  exact ⟨(hT 0).blk _ _ _ _ h.r (by decide), (hT 0).blk _ _ _ _ h.t (by decide), ⟨l, hl, (hT 0).row hrow (by decide)⟩, (hT 0).row h.nr (by decide), fun j x hx => by
    obtain ⟨q1, f, q2, q3⟩ := h.news j x hx
    exact ⟨q1, f, (hT 0).rowIs q2 (by decide), q3⟩, h.keeps.step g (by simp)⟩

theorem AD.grow {k : Nat} {hh ch : Nat → Nat} (a : AD wr B m ds vN vA k hh ch) {w' : World} (g : wr.grownBy w' none) : AD w' B m ds vN vA k hh ch := by
  have hT : ∀ tc, Turns tc wr w' := fun tc => turns_none g
  exact ⟨(hT 0).row a.ar (by decide), fun j hj => by
    obtain ⟨q1, q2, c, q3, q4⟩ := a.hb j hj
    exact ⟨q1, q2, c, (hT 0).blk _ _ _ _ q3 (by decide), q4⟩, a.ne⟩

/-- A longer list is taken in. -/
theorem LD.more (h : LD w wr B R T m v vG vN vA ds ka kn D) {k : Nat} {hh ch : Nat → Nat} (a : AD wr B m ds vN vA k hh ch) {x : Dbt} (hx : ds[k]? = some x) (hRT : R ≠ T) (hBT : B ≤ T)
    {H cap5 g6 c6 : Nat} {w6 : World} (hrow : wr.ownsRow 0 47 1 (.slice (some ⟨H, 0, none⟩) (x.n + 3) cap5) (x.n + 3) (markList m k x.n ++ [.int .u64 (7 + (m : Int)), .int .u64 (8 + (m : Int)), .int .u64 (9 + (m : Int))])) (hBH : B ≤ H)
    (hrow6 : w6.ownsRow B 22 1 (.slice (some ⟨g6, 0, none⟩) (k + 1 : Nat) c6) (k + 1) (aCells ds hh ch k ++ [.slice (some ⟨H, 0, none⟩) (x.n + 3 : Nat) cap5]))
    (hg : wr.grownBy w6 vA.ownBlock) (hloc : vA.ownBlock = some g6 ∨ wr.heap.size ≤ g6) :
    LD w (w6.setCell ⟨T, 3, none⟩ (.slice (some ⟨g6, 0, none⟩) (k + 1 : Nat) c6)) B R T m v vG vN (.slice (some ⟨g6, 0, none⟩) (k + 1 : Nat) c6) ds ka kn D ∧
    AD (w6.setCell ⟨T, 3, none⟩ (.slice (some ⟨g6, 0, none⟩) (k + 1 : Nat) c6)) B m ds vN (.slice (some ⟨g6, 0, none⟩) (k + 1 : Nat) c6) (k + 1) (fun j => if j = k then H else hh j) (fun j => if j = k then cap5 else ch j) := by
  have hT : Turns 22 wr w6 := turns_row a.ar hg
  have ht6 := hT.blk _ _ _ _ h.t (by decide)
  have hr6 := hT.blk _ _ _ _ h.r (by decide)
  have g3 := grownBy_setCell w6 ⟨T, 3, none⟩ (.slice (some ⟨g6, 0, none⟩) (k + 1 : Nat) c6)
  have hT6 : Turns 60 w6 (w6.setCell ⟨T, 3, none⟩ (.slice (some ⟨g6, 0, none⟩) (k + 1 : Nat) c6)) := turns_set ht6 _
  have hN6 : w6.ownsRow B 22 1 vN kn (nCells (ds.take kn)) := by
    refine h.nr.kept hg ?_
    rcases hv : vN.ownBlock with _ | g
    · exact Or.inl rfl
    · exact Or.inr (fun e => a.ne g hv e.symm)
  refine ⟨⟨(g3.block R (heap_lt hr6) (by simpa using hRT)).trans hr6, ?_, ?_, hT6.row hN6 (by decide), fun j y hy => ?_, ?_⟩, ?_, fun j hj => ?_, fun g hgv e => ?_⟩
  · have := setCell_block (a := ⟨T, 3, none⟩) (v := .slice (some ⟨g6, 0, none⟩) (k + 1 : Nat) c6) ht6 rfl
    simpa using this
  · obtain ⟨l, hl, hr⟩ := h.l
    exact ⟨l, hl, hT6.row (hT.row hr (by decide)) (by decide)⟩
  · obtain ⟨q1, f, q2, q3⟩ := h.news j y hy
    exact ⟨q1, f, hT6.rowIs (hT.rowIs q2 (by decide)) (by decide), q3⟩
  · refine (h.keeps.step hg (fun i hi => Or.inl (a.ar.lt i hi).1)).step g3 (by rintro i hi; cases hi; exact Or.inl hBT)
  · have e : aCells ds (fun j => if j = k then H else hh j) (fun j => if j = k then cap5 else ch j) (k + 1) = aCells ds hh ch k ++ [.slice (some ⟨H, 0, none⟩) (x.n + 3 : Nat) cap5] := by
      unfold aCells
      rw [List.range_succ, List.map_append]
      congr 1
      · apply List.map_congr_left
        intro j hj
        have : j ≠ k := by have := List.mem_range.1 hj; omega
        simp [this]
      · simp [nnOf_eq hx]
    rw [e]
    exact hT6.row hrow6 (by decide)
  · by_cases hjk : j = k
    · subst hjk
      rw [nnOf_eq hx]
      simp only [if_true]
      rcases hrow.2 with ⟨e1, _⟩ | ⟨g', cp, cur, e1, _, hgg, q1, q2, q3, q4⟩
      · cases e1
      · cases e1
        have hget : ∀ i, i < x.n + 3 → cur[i]? = (markList m j x.n ++ [.int .u64 (7 + (m : Int)), .int .u64 (8 + (m : Int)), .int .u64 (9 + (m : Int))])[i]? := fun i hi => by
          rw [← q4, List.getElem?_take, if_pos (by omega)]
          simp
        have hml : (markList m j x.n).length = x.n := by simp [markList]
        refine ⟨hBH, q1, cur, hT6.blk _ _ _ _ (hT.blk _ _ _ _ hgg (by decide)) (by decide), fun i hi => ?_, ?_, ?_, ?_⟩
        · rw [hget i (by omega), List.getElem?_append_left (by omega)]
          simp [markList, hi]
        · rw [hget _ (by omega), List.getElem?_append_right (by omega), hml]; simp
        · rw [hget _ (by omega), List.getElem?_append_right (by omega), hml, show x.n + 1 - x.n = 1 by omega]; rfl
        · rw [hget _ (by omega), List.getElem?_append_right (by omega), hml, show x.n + 2 - x.n = 2 by omega]; rfl
    · obtain ⟨q1, q2, c, q3, q4⟩ := a.hb j (by omega)
      simp only [hjk, if_false]
      exact ⟨q1, q2, c, hT6.blk _ _ _ _ (hT.blk _ _ _ _ q3 (by decide)) (by decide), q4⟩
  · have e' : g6 = g := by simpa [Value.ownBlock] using e
    subst e'
    rcases hloc with hl | hl
    · exact a.ne _ hgv hl
    · have := (h.nr.lt _ hgv).2
      omega
end

end Go.Proofs.Ytfiekdgpdboolab
