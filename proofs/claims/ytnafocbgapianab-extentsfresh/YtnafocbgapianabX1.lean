import Derived.Test.YtnafocbgapianabK0
import Derived.Test.YtnafocbgapianabW5
import Derived.Handy
namespace Go.Proofs.Ytnafocbgapianab
open Go.RowKit Go.Maps

section
variable {P : Program} (w : World)

/-- append onto an own row: where the new row lies; a row that lies anew leaves the old one as it was. -/
theorem run_append_stay (t ty : TypeId) (base : Nat) (e : TypeId) (i : TypeInfo) (z : Value) (size bytes : Nat) (ht : P.underlying t = some (.slice e)) (hi : P.info? e = some i) (hz : i.zero = some z)
    (hsize : i.size = size) (hby : i.bytes = bytes) (hzs : z.cells.size = size) (hsz : 0 < size)
    (v : Value) (n : Nat) (xs : List Value) (hown : w.ownsRow base e size v n xs)
    (ad : Addr) (m c : Nat) (news : List Value) (hl : news.length = m * size) (hnews : ∀ j u, news[j]? = some u → w.cell? (ad.add j) = some u) (h1 : ∀ u ∈ news, u.oneCell' = true)
    (hm : 0 < m) (h63 : n + m ≤ maxLen) (hbytes : (n + m) * bytes ≤ 140737488355328) (hbase : base ≤ w.heap.size) (H : Nat) (hH : w.heap.size = H) :
    ∃ g cap w', (Builtin.append_ #[t, t] ty #[v, .slice (some ad) m c]).run P w = .ok (.slice (some ⟨g, 0, none⟩) (n + m) cap) w' ∧
      w'.ownsRow base e size (.slice (some ⟨g, 0, none⟩) (n + m) cap) (n + m) (xs ++ news) ∧ w.grownBy w' v.ownBlock ∧ (v.ownBlock = some g ∨ (g = H ∧ w.grownBy w' none)) ∧ g < w'.heap.size := by
  obtain ⟨g, cap, w', hr, h2, h3, h4, h5⟩ := run_append_lies (P := P) w t ty base e i z size bytes ht hi hz hsize hby hzs hsz v n xs hown ad m c news hl hnews h1 hm h63 hbytes hbase H hH
  refine ⟨g, cap, w', hr, h2, h3, ?_, h5⟩
  rcases h4 with h4 | h4
  · exact Or.inl h4
  · rcases hown.2 with ⟨rfl, _⟩ | ⟨g', cap', cur, rfl, hbg, hg, hnc, hcm, hcs, htake⟩
    · exact Or.inr ⟨h4, h3⟩
    · by_cases hroom : n + m ≤ cap'
      · have hfit : n * i.size + news.length ≤ cur.size := by rw [hsize, hl, hcs, ← Nat.add_mul]; exact Nat.mul_le_mul_right _ hroom
        have hr2 := run_append_room (P := P) w t ty e i ht hi g' n cap' cur hg ad m c news (by rw [hsize]; exact hl) hnews h1 hroom hfit
        rw [hr] at hr2
        simp only [Result.ok.injEq, Value.slice.injEq, Option.some.injEq, Addr.mk.injEq] at hr2
        exact Or.inl (by rw [hr2.1.1.1]; rfl)
      · have holds : ∀ j u, xs[j]? = some u → w.cell? ((⟨g', 0, none⟩ : Addr).add j) = some u := hown.cells (g := g') rfl
        have hr2 := run_append_grow (P := P) w t ty e i z ht hi hz ⟨g', 0, none⟩ n cap' xs (by rw [hsize]; exact hown.1) holds ad m c news (by rw [hsize]; exact hl) hnews (by omega) (by simp only [maxLen] at h63; omega) (growslice_fits (by omega) (by rw [hby]; exact hbytes))
        rw [hr] at hr2
        simp only [Result.ok.injEq] at hr2
        refine Or.inr ⟨h4, ?_⟩
        rw [hr2.2]
        exact ⟨rfl, rfl, rfl, by simp, fun k hk _ => (World.grownBy_alloc w.drew _ none).block k hk (by simp)⟩

theorem wp_append_stay {o : Oper} {a : Act} {K : Act → World → Prop} {Q : Exit → Act → World → Prop} (s x : Operand) (t : TypeId)
    (ho : o.op = .call { callee := .builtin .append, args := #[s, x], argTypes := #[t, t] })
    (base : Nat) (e : TypeId) (i : TypeInfo) (z : Value) (size bytes : Nat) (ht : P.underlying t = some (.slice e)) (hi : P.info? e = some i) (hz : i.zero = some z)
    (hsize : i.size = size) (hby : i.bytes = bytes) (hzs : z.cells.size = size) (hsz : 0 < size)
    (v : Value) (n : Nat) (xs : List Value) (hs : a.eval s = v) (hown : w.ownsRow base e size v n xs)
    (ad : Addr) (m c : Nat) (news : List Value) (hx : a.eval x = .slice (some ad) m c) (hl : news.length = m * size) (hnews : ∀ j u, news[j]? = some u → w.cell? (ad.add j) = some u) (h1 : ∀ u ∈ news, u.oneCell' = true)
    (hm : 0 < m) (h63 : n + m ≤ maxLen) (hbytes : (n + m) * bytes ≤ 140737488355328) (hbase : base ≤ w.heap.size) (H : Nat) (hH : w.heap.size = H)
    (h : ∀ g cap w', w'.ownsRow base e size (.slice (some ⟨g, 0, none⟩) (n + m) cap) (n + m) (xs ++ news) → w.grownBy w' v.ownBlock → (v.ownBlock = some g ∨ (g = H ∧ w.grownBy w' none)) → g < w'.heap.size → K (a.put o.dst (.slice (some ⟨g, 0, none⟩) (n + m) cap)) w') : o.wp P a w K Q := by
  obtain ⟨g, cap, w', hr, h2, h3, h4, h5⟩ := run_append_stay (P := P) w t o.type base e i z size bytes ht hi hz hsize hby hzs hsz v n xs hown ad m c news hl hnews h1 hm h63 hbytes hbase H hH
  unfold Oper.wp execOp
  simp only [ho, resolve, invoke, builtin, Sem.run_bind, Sem.run_pure, Result.andThen_ok, List.map_toArray, List.map_cons, List.map_nil, hs, hx, hr]
  exact h g cap w' h2 h3 h4 h5

theorem wpList_append_stay {ops : Array Oper} {rest : List Oper} {o : Oper} {a : Act} {Q : Exit → Act → World → Prop} (hgd : o.guard = none) (s x : Operand) (t : TypeId)
    (ho : o.op = .call { callee := .builtin .append, args := #[s, x], argTypes := #[t, t] })
    (base : Nat) (e : TypeId) (i : TypeInfo) (z : Value) (size bytes : Nat) (ht : P.underlying t = some (.slice e)) (hi : P.info? e = some i) (hz : i.zero = some z)
    (hsize : i.size = size) (hby : i.bytes = bytes) (hzs : z.cells.size = size) (hsz : 0 < size)
    (v : Value) (n : Nat) (xs : List Value) (hs : a.eval s = v) (hown : w.ownsRow base e size v n xs)
    (ad : Addr) (m c : Nat) (news : List Value) (hx : a.eval x = .slice (some ad) m c) (hl : news.length = m * size) (hnews : ∀ j u, news[j]? = some u → w.cell? (ad.add j) = some u) (h1 : ∀ u ∈ news, u.oneCell' = true)
    (hm : 0 < m) (h63 : n + m ≤ maxLen) (hbytes : (n + m) * bytes ≤ 140737488355328) (hbase : base ≤ w.heap.size) (H : Nat) (hH : w.heap.size = H)
    (h : ∀ g cap w', w'.ownsRow base e size (.slice (some ⟨g, 0, none⟩) (n + m) cap) (n + m) (xs ++ news) → w.grownBy w' v.ownBlock → (v.ownBlock = some g ∨ (g = H ∧ w.grownBy w' none)) → g < w'.heap.size → wpList P ops Q rest (a.put o.dst (.slice (some ⟨g, 0, none⟩) (n + m) cap)) w') : wpList P ops Q (o :: rest) a w :=
  wpList_plain hgd fun _ hK => wp_append_stay w s x t ho base e i z size bytes ht hi hz hsize hby hzs hsz v n xs hs hown ad m c news hx hl hnews h1 hm h63 hbytes hbase H hH fun g cap w' h2 h3 h4 h5 => hK _ _ (h g cap w' h2 h3 h4 h5)

end

/-- The old row's cells behind an append. -/
theorem stay_cell {w w' : World} {base : Nat} {e : TypeId} {size n m g cap H b : Nat} {v : Value} {xs news : List Value} (hown : w.ownsRow base e size v n xs)
    (h2 : w'.ownsRow base e size (.slice (some ⟨g, 0, none⟩) (n + m) cap) (n + m) (xs ++ news)) (h4 : v.ownBlock = some g ∨ (g = H ∧ w.grownBy w' none)) (hb : v.ownBlock = some b) (j : Nat) (u : Value) (hj : xs[j]? = some u) :
    w'.cell? ⟨b, j, none⟩ = some u := by
  have hjl := (List.getElem?_eq_some_iff.1 hj).1
  have hc : w.cell? ⟨b, j, none⟩ = some u := by
    have := hown.cells hb j u hj
    have hadd : (⟨b, 0, none⟩ : Addr).add j = ⟨b, j, none⟩ := by unfold Addr.add; split <;> simp_all
    rwa [hadd] at this
  rcases h4 with h4 | ⟨_, h4⟩
  · rw [hb] at h4
    cases h4
    rw [h2.cellAt j (by rw [← h2.1, List.length_append]; omega), List.getElem?_append_left hjl]
    exact hj
  · exact h4.cell hc (by simp)

theorem set3 {w : World} {R : Nat} {a b c : Value} {t : TypeId} (h : w.heap[R]? = some (.cells #[a, b, c] t (0, 0))) (x y z : Value) :
    (((w.setCell ⟨R, 0, none⟩ x).setCell ⟨R, 1, none⟩ y).setCell ⟨R, 2, none⟩ z).heap[R]? = some (.cells #[x, y, z] t (0, 0)) ∧
    Keeps (fun k => k = R) w (((w.setCell ⟨R, 0, none⟩ x).setCell ⟨R, 1, none⟩ y).setCell ⟨R, 2, none⟩ z) := by
  have h1 := setCell_block (a := ⟨R, 0, none⟩) (v := x) h rfl
  have h2 := setCell_block (a := ⟨R, 1, none⟩) (v := y) h1 rfl
  have h3 := setCell_block (a := ⟨R, 2, none⟩) (v := z) h2 rfl
  refine ⟨by simpa using h3, ?_⟩
  exact ((keep_set' _ _ _ _).trans (keep_set' _ _ _ _)).trans (keep_set' _ _ _ _)

/-- The cells of a list that was written full with a mark. -/
def mkL (mark : Int) (i : Nat) : List Value := (List.range i).flatMap fun j : Nat => [.int .i64 mark, .int .i64 (-(j : Int))]
theorem mkL_succ (mark : Int) (i : Nat) : mkL mark (i + 1) = mkL mark i ++ [.int .i64 mark, .int .i64 (-(i : Int))] := by
  unfold mkL; rw [List.range_succ, List.flatMap_append]; simp
theorem mkL_len (mark : Int) (i : Nat) : (mkL mark i).length = i * 2 := by
  induction i with
  | zero => rfl
  | succ i ih => rw [mkL_succ, List.length_append, ih]; simp; omega
theorem mkL_get (mark : Int) (n i : Nat) (h : i < n) : (mkL mark n)[i * 2]? = some (.int .i64 mark) ∧ (mkL mark n)[i * 2 + 1]? = some (.int .i64 (-(i : Int))) := by
  induction n with
  | zero => omega
  | succ n ih =>
    rw [mkL_succ]
    by_cases he : i = n
    · subst he
      have hl := mkL_len mark i
      rw [List.getElem?_append_right (by omega), List.getElem?_append_right (by omega), hl]
      simp
    · have hl := mkL_len mark n
      have := ih (by omega)
      rw [List.getElem?_append_left (by omega), List.getElem?_append_left (by omega)]
      exact this
theorem mkL_set (mark : Int) (i : Nat) (L : List (Nat × Nat)) (hi : i < L.length) :
    ((mkL mark i ++ spCells (L.drop i)).set (i * 2) (.int .i64 mark)).set (i * 2 + 1) (.int .i64 (-(i : Int))) = mkL mark (i + 1) ++ spCells (L.drop (i + 1)) := by
  have hl := mkL_len mark i
  rw [drop_getD (0, 0) hi]
  have e : spCells (L.getD i (0, 0) :: L.drop (i + 1)) = .int .i64 ((L.getD i (0, 0)).1 : Int) :: .int .i64 ((L.getD i (0, 0)).2 : Int) :: spCells (L.drop (i + 1)) := by simp [spCells, spCell]
  rw [e, List.set_append_right _ _ (by omega), hl, Nat.sub_self, List.set_cons_zero, List.set_append_right _ _ (by omega), hl, Nat.add_sub_cancel_left, List.set_cons_succ, List.set_cons_zero, mkL_succ]
  simp

/-- A list in memory that was written full with a mark. -/
def MkIn (w : World) (p : Option Addr) (n : Nat) (mark : Int) : Prop :=
  0 < n → ∃ b o, p = some ⟨b, o, none⟩ ∧ b < w.heap.size ∧ ∀ i, i < n → w.cell? ⟨b, o + i * 2, none⟩ = some (.int .i64 mark) ∧ w.cell? ⟨b, o + i * 2 + 1, none⟩ = some (.int .i64 (-(i : Int)))
/-- .. and one more behind it. -/
def TlIn (w : World) (q : Option Addr) (n : Nat) (mark : Int) : Prop :=
  ∃ b o, q = some ⟨b, o, none⟩ ∧ b < w.heap.size ∧ (∀ i, i < n → w.cell? ⟨b, o + i * 2, none⟩ = some (.int .i64 mark) ∧ w.cell? ⟨b, o + i * 2 + 1, none⟩ = some (.int .i64 (-(i : Int)))) ∧ w.cell? ⟨b, o + n * 2, none⟩ = some (.int .i64 mark) ∧ w.cell? ⟨b, o + n * 2 + 1, none⟩ = some (.int .i64 mark)
theorem MkIn.kept {w w' : World} {p : Option Addr} {n : Nat} {mark : Int} {X : Nat → Prop} (h : MkIn w p n mark) (k : Keeps X w w') (hx : ∀ b, b < w.heap.size → p.map (·.block) = some b → ¬ X b) : MkIn w' p n mark := by
  intro h0
  obtain ⟨b, o, e, hb, hc⟩ := h h0
  have hn := hx b hb (by rw [e]; rfl)
  exact ⟨b, o, e, Nat.lt_of_lt_of_le hb k.size, fun i hi => ⟨k.cell (hc i hi).1 hn, k.cell (hc i hi).2 hn⟩⟩
theorem TlIn.kept {w w' : World} {q : Option Addr} {n : Nat} {mark : Int} {X : Nat → Prop} (h : TlIn w q n mark) (k : Keeps X w w') (hx : ∀ b, b < w.heap.size → q.map (·.block) = some b → ¬ X b) : TlIn w' q n mark := by
  obtain ⟨b, o, e, hb, hc, h1, h2⟩ := h
  have hn := hx b hb (by rw [e]; rfl)
  exact ⟨b, o, e, Nat.lt_of_lt_of_le hb k.size, fun i hi => ⟨k.cell (hc i hi).1 hn, k.cell (hc i hi).2 hn⟩, k.cell h1 hn, k.cell h2 hn⟩

theorem ownBlock_slice (p : Option Addr) (n cap : Nat) : (Value.slice p n cap).ownBlock = p.map (·.block) := by cases p <;> rfl

/-- What spoil leaves. -/
def SpoilP (w : World) (p : Option Addr) (cap n : Nat) (mark : Int) (e : Ending) (w' : World) : Prop :=
  ∃ q cap2, e = .returned (.agg #[.slice p n cap, .slice q (n + 1) cap2, .int .i64 mark]) ∧ MkIn w' p n mark ∧ TlIn w' q n mark ∧ (∀ b, q.map (·.block) = some b → p.map (·.block) = some b ∨ w.heap.size ≤ b) ∧ (∀ b, p.map (·.block) = some b ∨ q.map (·.block) = some b → ∃ cur, w'.heap[b]? = some (.cells cur 46 (0, 0))) ∧ Keeps (fun j => p.map (·.block) = some j ∨ w.heap.size ≤ j) w w'

set_option maxHeartbeats 4000000 in
theorem spoil_any (w : World) (B : Nat) (p : Option Addr) (cap : Nat) (L : List (Nat × Nat)) (mark : Int) (h : SpAt w B (.slice p L.length cap) L) (hl : L.length ≤ 2000) (hB : B ≤ w.heap.size) :
    Calls Try.prog 35 #[.slice p L.length cap, .int .i64 mark] w (SpoilP w p cap L.length mark) := by
  obtain ⟨i0, hi0, hz0, hz1, hz2⟩ := info_parts info31
  have g0 : Keeps (fun j => p.map (·.block) = some j ∨ w.heap.size ≤ j) w (w.alloc (.cells #[.slice none 0 0, .slice none 0 0, .int .i64 0] 79)) := Keeps.of (World.grownBy_alloc w _ none) (by simp)
  have hR := (MapKept.heap_alloc w (.cells #[.slice none 0 0, .slice none 0 0, .int .i64 0] 79)).1
  have hs1 : (w.alloc (.cells #[.slice none 0 0, .slice none 0 0, .int .i64 0] 79)).heap.size = w.heap.size + 1 := by simp
  have ho : (w.alloc (.cells #[.slice none 0 0, .slice none 0 0, .int .i64 0] 79)).ownsRow B 46 2 (.slice p L.length cap) L.length (mkL mark 0 ++ spCells (L.drop 0)) := by
    have := World.ownsRow.alloc (show w.ownsRow B 46 2 _ _ _ from h) (.cells #[.slice none 0 0, .slice none 0 0, .int .i64 0] 79)
    simpa [mkL] using this
  have hlt := h.lt
  obtain ⟨w1, hw1⟩ : ∃ w1, w1 = w.alloc (.cells #[.slice none 0 0, .slice none 0 0, .int .i64 0] 79) := ⟨_, rfl⟩
  go_enter Try.func35, Try.ntmps35
  go_wp2
  rw [← hw1] at g0 hR hs1 ho ⊢
  have H0 := Hid.mk' (And.intro g0 (And.intro hR ho))
  have HLT := Hid.mk' hlt
  clear g0 hR ho hw1 h hlt
  generalize hn : L.length = n at *
  have HN := Hid.mk' hn
  go_loopw [5] (fun iv wr => ∃ i : Nat, i ≤ n ∧ iv = .int .i64 i ∧ Hid (wr.ownsRow B 46 2 (.slice p n cap) n (mkL mark i ++ spCells (L.drop i)) ∧ Keeps (fun j => p.map (·.block) = some j ∨ w.heap.size ≤ j) w wr ∧ wr.heap[w.heap.size]? = some (.cells #[.slice none 0 0, .slice none 0 0, .int .i64 0] 79 (0, 0)) ∧ wr.heap.size = w.heap.size + 1)) (fun iv _ => n - (intOf iv).toNat)
  case atStart => exact ⟨0, by omega, rfl, H0.out.2.2, H0.out.1, H0.out.2.1, hs1⟩
  case round =>
    obtain ⟨i, hi, rfl, hrel⟩ := hrel
    by_cases hlt : i < n
    · have hlt' : (i : Int) < (n : Int) := by omega
      have hii : (0 : Int) ≤ (i : Int) := by omega
      obtain ⟨g, cap', hv, hBg, hgl⟩ := hrel.out.1.form (by omega)
      cases hv
      have hgw : g < w.heap.size := (HLT.out g rfl).2
      have hneg : IntKind.i64.wrap (-(i : Int)) = -(i : Int) := i64_id (by omega) (by omega)
      have s1 := hrel.out.1.stored (i * 2) (.int .i64 mark)
      have s2 := s1.1.stored (i * 2 + 1) (.int .i64 (-(i : Int)))
      rw [mkL_set mark i L (by omega)] at s2
      have f1 := hrel.out.1.frozenAt (i * 2)
      have f2 := hrel.out.1.frozenAt (i * 2 + 1)
      have hll := hrel.out.1.1
      obtain ⟨x1, hx1⟩ : ∃ x, wr.cell? ⟨g, i * 2, none⟩ = some x := by
        rw [hrel.out.1.cellAt (i * 2) (by omega)]
        exact ⟨_, List.getElem?_eq_getElem (by omega)⟩
      obtain ⟨x2, hx2⟩ : ∃ x, wr.cell? ⟨g, i * 2 + 1, none⟩ = some x := by
        rw [hrel.out.1.cellAt (i * 2 + 1) (by omega)]
        exact ⟨_, List.getElem?_eq_getElem (by omega)⟩
      have HS := Hid.mk' (And.intro s2.1 (And.intro s1.2 s2.2))
      have HREL := hrel
      clear hrel s1 s2 hll
      go_wp2
      go_roundw
      case rel =>
        have k1 : Keeps (fun j => j = g) wr _ := Keeps.of HS.out.2.1 (by rintro k hk; cases hk; exact Or.inl rfl)
        have k2 : Keeps (fun j => j = g) _ _ := Keeps.of HS.out.2.2 (by rintro k hk; cases hk; exact Or.inl rfl)
        have k3 := k1.trans k2
        refine ⟨i + 1, by omega, by go_num, HS.out.1, HREL.out.2.1.then k3 (fun j hj => by left; left; rw [hj]; rfl), k3.at HREL.out.2.2.1 (by omega), ?_⟩
        have e : ∀ (w : World) (a : Addr) (v : Value), (w.setCell a v).heap.size = w.heap.size := fun w a v => by simp [World.setCell]
        rw [e, e]; exact HREL.out.2.2.2
      case measure => simp [intOf]; omega
    · have hlt' : ¬ (i : Int) < (n : Int) := by omega
      have hrow : wr.ownsRow B 46 2 (.slice p n cap) n (mkL mark n) := by
        have := hrel.out.1
        rw [show i = n by omega, ← HN.out, List.drop_length] at this
        simpa [spCells, HN.out] using this
      have HROW := Hid.mk' hrow
      have HREL := hrel
      have hBw : B ≤ wr.heap.size := by have := hrel.out.2.2.2; omega
      clear hrel hrow
      go_wp2_with (first
        | (at_builtin; refine wpList_append_stay _ rfl _ _ 30 rfl B 46 i0 (.agg #[.int .i64 0, .int .i64 0]) 2 16 Try.underlying30 hi0 hz0 hz1 hz2 rfl (by decide) (.slice p n cap) n (mkL mark n) rfl (World.ownsRow.alloc HROW.out _) ⟨wr.heap.size, 0, none⟩ 1 1 [.int .i64 mark, .int .i64 mark] rfl rfl (World.news_of_block (MapKept.heap_alloc wr _).1) (by simp [Value.oneCell']) (by decide) (by unfold maxLen; omega) (by omega) (by simp; omega) (wr.heap.size + 1) (by simp) ?_; intro g2 c2 w6 hown2 hgrow2 hloc2 hlt2
           have hwsz := HREL.out.2.2.2
           have ha := World.ownsRow.alloc HROW.out (.cells #[.int .i64 mark, .int .i64 mark] 46)
           have hsc := fun b hb j u hj => stay_cell (b := b) ha hown2 hloc2 hb j u hj
           have hk6 : Keeps (fun j => p.map (·.block) = some j ∨ wr.heap.size ≤ j) wr w6 := (Keeps.of (X := fun j => p.map (·.block) = some j ∨ wr.heap.size ≤ j) (World.grownBy_alloc wr (.cells #[.int .i64 mark, .int .i64 mark] 46) none) (by simp)).step hgrow2 (fun k hk => Or.inl (Or.inl (by rw [ownBlock_slice] at hk; exact hk)))
           have hty : ∀ b, p.map (·.block) = some b ∨ g2 = b → ∃ cur, w6.heap[b]? = some (.cells cur 46 (0, 0)) := by
             rintro b (hb | hb)
             · rcases hloc2 with hl | ⟨_, hl⟩
               · rw [ownBlock_slice, hb] at hl
                 cases hl
                 exact own_cells hown2 rfl
               · obtain ⟨cur, hc⟩ := own_cells ha (g := b) (by rw [ownBlock_slice]; exact hb)
                 exact ⟨cur, (hl.block b (heap_lt hc) (by simp)).trans hc⟩
             · subst hb; exact own_cells hown2 rfl
           have hpR : ∀ b, p.map (·.block) = some b → b < w.heap.size := fun b hb => (HLT.out b (by rw [ownBlock_slice]; exact hb)).2
           have hR6 := hk6.at HREL.out.2.2.1 (by rintro (e | e)
                                                 · have := hpR _ e; omega
                                                 · omega)
           obtain ⟨q0, q1, q2, qf⟩ := cells3 hR6
           have f0 := qf 0
           have f1 := qf 1
           have f2 := qf 2
           have HS3 := Hid.mk' (set3 hR6 (.slice p n cap) (.slice (some ⟨g2, 0, none⟩) (n + 1) c2) (.int .i64 mark))
           have HX := Hid.mk' (And.intro hsc (And.intro hk6 (And.intro hown2 (And.intro hloc2 (And.intro hpR hty)))))
           clear hwsz ha hsc hk6 hpR hty hR6 qf hown2 hgrow2 hloc2 hlt2))
      obtain ⟨hsc, hk6, hown2, hloc2, hpR, hty⟩ := HX.out
      obtain ⟨t1, t2⟩ := HS3.out
      have hwsz := HREL.out.2.2.2
      have hcs := cells3 t1
      have hkF := (HREL.out.2.1.then hk6 (fun j hj => by rcases hj with e | e
                                                         · exact Or.inl (Or.inl e)
                                                         · left; right; omega)).then t2 (fun j hj => by left; right; omega)
      have hg2R : g2 ≠ w.heap.size := by
        rintro e
        rcases hloc2 with h | ⟨h, _⟩
        · rw [ownBlock_slice] at h
          have := hpR g2 h
          omega
        · omega
      refine bodyPost_ret (v := .agg #[.slice p n cap, .slice (some ⟨g2, 0, none⟩) (n + 1) c2, .int .i64 mark]) (by simp [results, Try.results35, go_sem, hcs.1, hcs.2.1, hcs.2.2.1]) rfl ?_
      refine ⟨some ⟨g2, 0, none⟩, c2, rfl, ?_, ?_, ?_, ?_, hkF⟩
      · intro h0
        obtain ⟨g, cap', hv, _, _⟩ := HROW.out.form h0
        cases hv
        have hgw := hpR g rfl
        refine ⟨g, 0, rfl, by have := hkF.size; omega, fun i hi => ?_⟩
        obtain ⟨m1, m2⟩ := mkL_get mark n i hi
        rw [Nat.zero_add]
        exact ⟨t2.cell (hsc g rfl _ _ m1) (by simp; omega), t2.cell (hsc g rfl _ _ m2) (by simp; omega)⟩
      · have hl := mkL_len mark n
        refine ⟨g2, 0, rfl, by have := (hown2.lt g2 rfl).2; have := t2.size; omega, fun i hi => ?_, ?_, ?_⟩
        · obtain ⟨m1, m2⟩ := mkL_get mark n i hi
          rw [Nat.zero_add]
          refine ⟨t2.cell ?_ (by simpa using hg2R), t2.cell ?_ (by simpa using hg2R)⟩
          · rw [hown2.cellAt _ (by omega), List.getElem?_append_left (by omega)]; exact m1
          · rw [hown2.cellAt _ (by omega), List.getElem?_append_left (by omega)]; exact m2
        · rw [Nat.zero_add]
          refine t2.cell ?_ (by simpa using hg2R)
          rw [hown2.cellAt _ (by omega), List.getElem?_append_right (by omega), hl, Nat.sub_self]; rfl
        · rw [Nat.zero_add]
          refine t2.cell ?_ (by simpa using hg2R)
          rw [hown2.cellAt _ (by omega), List.getElem?_append_right (by omega), hl, Nat.add_sub_cancel_left]; rfl
      · intro b hb
        simp at hb
        subst hb
        rcases hloc2 with h | ⟨h, _⟩
        · left; rw [ownBlock_slice] at h; exact h
        · right; omega
      · intro b hb
        obtain ⟨cur, hc⟩ := hty b (hb.imp id (fun e => by simpa using e))
        refine ⟨cur, t2.at hc (fun e => ?_)⟩
        rcases hb with hb | hb
        · have := hpR b hb; omega
        · simp at hb; exact hg2R (hb.trans e)

end Go.Proofs.Ytnafocbgapianab
