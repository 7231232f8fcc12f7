import Derived.Test.YtdlhdompemkjfaaGreatDoorKW5
import Derived.Handy
import Derived.Deep.AppendLies
namespace Go.Proofs.YtdlhdompemkjfaaGreatDoor
open Go.RowKit Go.Maps
set_option maxRecDepth 100000

section
variable {P : Program} (w : World)

/-- append onto an own row: where the new row lies; a row that lies anew leaves the old one as it was. -/
theorem run_append_stay (t ty : TypeId) (base : Nat) (e : TypeId) (i : TypeInfo) (z : Value) (size bytes : Nat) (ht : P.underlying t = some (.slice e)) (hi : P.info? e = some i) (hz : i.zero = some z)
    (hsize : i.size = size) (hby : i.bytes = bytes) (hzs : z.cells.size = size) (hsz : 0 < size)
    (v : Value) (n : Nat) (xs : List Value) (hown : w.ownsRow base e size v n xs)
    (ad : Addr) (m c : Nat) (news : List Value) (hl : news.length = m * size) (hnews : ∀ j u, news[j]? = some u → w.cell? (ad.add j) = some u) (h1 : ∀ u ∈ news, u.oneCell' = true)
    (hm : 0 < m) (h63 : n + m ≤ maxLen) (hbytes : (n + m) * bytes ≤ 140737488355328) (hbase : base ≤ w.heap.size) (H : Nat) (hH : w.heap.size = H) :
    ∃ g cap w', (Builtin.append_ #[t, t] ty #[v, .slice (some ad) m c]).run P w = .ok (.slice (some ⟨g, 0, none⟩) (n + m) cap) w' ∧
      w'.ownsRow base e size (.slice (some ⟨g, 0, none⟩) (n + m) cap) (n + m) (xs ++ news) ∧ w.grownBy w' v.ownBlock ∧ (v.ownBlock = some g ∨ (g = H ∧ w.grownBy w' none)) ∧ g < w'.heap.size := by
  obtain ⟨g, cap, w', hr, h2, h3, h4, h5⟩ := run_append_lies (P := P) w t ty base e i z size bytes ht hi hz hsize hby hzs hsz v n xs hown ad m c news hl hnews h1 hm h63 hbytes hbase H hH
  refine ⟨g, cap, w', hr, h2, h3, ?_, h5⟩
  rcases h4 with h4 | h4
  · exact Or.inl h4
  · rcases hown.2 with ⟨rfl, _⟩ | ⟨g', cap', cur, rfl, hbg, hg, hnc, hcm, hcs, htake⟩
    · exact Or.inr ⟨h4, h3⟩
    · by_cases hroom : n + m ≤ cap'
      · have hfit : n * i.size + news.length ≤ cur.size := by rw [hsize, hl, hcs, ← Nat.add_mul]; exact Nat.mul_le_mul_right _ hroom
        have hr2 := run_append_room (P := P) w t ty e i ht hi g' n cap' cur hg ad m c news (by rw [hsize]; exact hl) hnews h1 hroom hfit
        rw [hr] at hr2
        simp only [Result.ok.injEq, Value.slice.injEq, Option.some.injEq, Addr.mk.injEq] at hr2
        exact Or.inl (by rw [hr2.1.1.1]; rfl)
      · have holds : ∀ j u, xs[j]? = some u → w.cell? ((⟨g', 0, none⟩ : Addr).add j) = some u := hown.cells (g := g') rfl
        have hr2 := run_append_grow (P := P) w t ty e i z ht hi hz ⟨g', 0, none⟩ n cap' xs (by rw [hsize]; exact hown.1) holds ad m c news (by rw [hsize]; exact hl) hnews (by omega) (by simp only [maxLen] at h63; omega) (growslice_fits (by omega) (by rw [hby]; exact hbytes))
        rw [hr] at hr2
        simp only [Result.ok.injEq] at hr2
        refine Or.inr ⟨h4, ?_⟩
        rw [hr2.2]
        exact ⟨rfl, rfl, rfl, by simp, fun k hk _ => heap_alloc_old w.drew _ hk⟩

theorem wp_append_stay {o : Oper} {a : Act} {K : Act → World → Prop} {Q : Exit → Act → World → Prop} (s x : Operand) (t : TypeId)
    (ho : o.op = .call { callee := .builtin .append, args := #[s, x], argTypes := #[t, t] })
    (base : Nat) (e : TypeId) (i : TypeInfo) (z : Value) (size bytes : Nat) (ht : P.underlying t = some (.slice e)) (hi : P.info? e = some i) (hz : i.zero = some z)
    (hsize : i.size = size) (hby : i.bytes = bytes) (hzs : z.cells.size = size) (hsz : 0 < size)
    (v : Value) (n : Nat) (xs : List Value) (hs : a.eval s = v) (hown : w.ownsRow base e size v n xs)
    (ad : Addr) (m c : Nat) (news : List Value) (hx : a.eval x = .slice (some ad) m c) (hl : news.length = m * size) (hnews : ∀ j u, news[j]? = some u → w.cell? (ad.add j) = some u) (h1 : ∀ u ∈ news, u.oneCell' = true)
    (hm : 0 < m) (h63 : n + m ≤ maxLen) (hbytes : (n + m) * bytes ≤ 140737488355328) (hbase : base ≤ w.heap.size) (H : Nat) (hH : w.heap.size = H)
    (h : ∀ g cap w', w'.ownsRow base e size (.slice (some ⟨g, 0, none⟩) (n + m) cap) (n + m) (xs ++ news) → w.grownBy w' v.ownBlock → (v.ownBlock = some g ∨ (g = H ∧ w.grownBy w' none)) → g < w'.heap.size → K (a.put o.dst (.slice (some ⟨g, 0, none⟩) (n + m) cap)) w') : o.wp P a w K Q := by
  obtain ⟨g, cap, w', hr, h2, h3, h4, h5⟩ := run_append_stay (P := P) w t o.type base e i z size bytes ht hi hz hsize hby hzs hsz v n xs hown ad m c news hl hnews h1 hm h63 hbytes hbase H hH
  unfold Oper.wp execOp
  simp only [ho, resolve, invoke, builtin, Sem.run_bind, Sem.run_pure, Result.andThen_ok, List.map_toArray, List.map_cons, List.map_nil, hs, hx, hr]
  exact h g cap w' h2 h3 h4 h5

theorem wpList_append_stay {ops : Array Oper} {rest : List Oper} {o : Oper} {a : Act} {Q : Exit → Act → World → Prop} (hgd : o.guard = none) (s x : Operand) (t : TypeId)
    (ho : o.op = .call { callee := .builtin .append, args := #[s, x], argTypes := #[t, t] })
    (base : Nat) (e : TypeId) (i : TypeInfo) (z : Value) (size bytes : Nat) (ht : P.underlying t = some (.slice e)) (hi : P.info? e = some i) (hz : i.zero = some z)
    (hsize : i.size = size) (hby : i.bytes = bytes) (hzs : z.cells.size = size) (hsz : 0 < size)
    (v : Value) (n : Nat) (xs : List Value) (hs : a.eval s = v) (hown : w.ownsRow base e size v n xs)
    (ad : Addr) (m c : Nat) (news : List Value) (hx : a.eval x = .slice (some ad) m c) (hl : news.length = m * size) (hnews : ∀ j u, news[j]? = some u → w.cell? (ad.add j) = some u) (h1 : ∀ u ∈ news, u.oneCell' = true)
    (hm : 0 < m) (h63 : n + m ≤ maxLen) (hbytes : (n + m) * bytes ≤ 140737488355328) (hbase : base ≤ w.heap.size) (H : Nat) (hH : w.heap.size = H)
    (h : ∀ g cap w', w'.ownsRow base e size (.slice (some ⟨g, 0, none⟩) (n + m) cap) (n + m) (xs ++ news) → w.grownBy w' v.ownBlock → (v.ownBlock = some g ∨ (g = H ∧ w.grownBy w' none)) → g < w'.heap.size → wpList P ops Q rest (a.put o.dst (.slice (some ⟨g, 0, none⟩) (n + m) cap)) w') : wpList P ops Q (o :: rest) a w :=
  wpList_plain hgd fun _ hK => wp_append_stay w s x t ho base e i z size bytes ht hi hz hsize hby hzs hsz v n xs hs hown ad m c news hx hl hnews h1 hm h63 hbytes hbase H hH fun g cap w' h2 h3 h4 h5 => hK _ _ (h g cap w' h2 h3 h4 h5)

end

/-- The old row's cells behind an append. -/
theorem stay_cell {w w' : World} {base : Nat} {e : TypeId} {size n m g cap H b : Nat} {v : Value} {xs news : List Value} (hown : w.ownsRow base e size v n xs)
    (h2 : w'.ownsRow base e size (.slice (some ⟨g, 0, none⟩) (n + m) cap) (n + m) (xs ++ news)) (h4 : v.ownBlock = some g ∨ (g = H ∧ w.grownBy w' none)) (hb : v.ownBlock = some b) (j : Nat) (u : Value) (hj : xs[j]? = some u) :
    w'.cell? ⟨b, j, none⟩ = some u := by
  have hjl := (List.getElem?_eq_some_iff.1 hj).1
  have hc : w.cell? ⟨b, j, none⟩ = some u := by
    have := hown.cells hb j u hj
    have hadd : (⟨b, 0, none⟩ : Addr).add j = ⟨b, j, none⟩ := by unfold Addr.add; split <;> simp_all
    rwa [hadd] at this
  rcases h4 with h4 | ⟨_, h4⟩
  · rw [hb] at h4
    cases h4
    rw [h2.cellAt j (by rw [← h2.1, List.length_append]; omega), List.getElem?_append_left hjl]
    exact hj
  · exact h4.cell hc (by simp)



theorem row_obj {W : World} {base : Nat} {e : TypeId} {size : Nat} {v : Value} {n : Nat} {xs : List Value} {gb : Nat} (h : W.ownsRow base e size v n xs) (hg : v.ownBlock = some gb) : ∃ cur, W.heap[gb]? = some (.cells cur e (0, 0)) := by
  rcases h.2 with ⟨rfl, _⟩ | ⟨g', cap, cur, rfl, _, hgb, _⟩
  · cases hg
  · cases hg; exact ⟨cur, hgb⟩
theorem ownsRow_set {W : World} {base : Nat} {e : TypeId} {size : Nat} {v : Value} {n : Nat} {xs : List Value} (h : W.ownsRow base e size v n xs) {g : Nat} (hg : v.ownBlock = some g) (j : Nat) (u : Value) :
    (W.setCell ⟨g, j, none⟩ u).ownsRow base e size v n (xs.set j u) := by
  refine ⟨by rw [List.length_set]; exact h.1, ?_⟩
  rcases h.2 with ⟨rfl, _⟩ | ⟨g', cap, cur, rfl, hb, hgb, h1, h2, h3, h4⟩
  · simp [Value.ownBlock] at hg
  · obtain rfl : g' = g := by simpa [Value.ownBlock] using hg
    refine .inr ⟨g', cap, cur.setIfInBounds j u, rfl, hb, setCell_block (a := ⟨g', j, none⟩) hgb rfl, h1, h2, by simpa using h3, ?_⟩
    rw [← h4, Array.toList_setIfInBounds, List.take_set]
theorem own_cell {w : World} {base : Nat} {e : TypeId} {size : Nat} {v : Value} {n : Nat} {xs : List Value} (h : w.ownsRow base e size v n xs) {g : Nat} (hg : v.ownBlock = some g) {j : Nat} {u : Value} (hj : xs[j]? = some u) : w.cell? ⟨g, j, none⟩ = some u := by
  have := h.cells hg j u hj
  rwa [addr_add, Nat.zero_add] at this
theorem row_some {w : World} {base : Nat} {e : TypeId} {size n c : Nat} {a : Option Addr} {xs : List Value} (h : w.ownsRow base e size (.slice a n c) n xs) (h0 : 0 < n) : ∃ g, a = some ⟨g, 0, none⟩ := by
  rcases h.2 with ⟨_, h1⟩ | ⟨g, cap, cur, e, _⟩
  · omega
  · cases e; exact ⟨g, rfl⟩


/-! Lists of ints of one's own. -/
def Ap (u v : Value) : Prop := ∀ g, u.ownBlock = some g → v.ownBlock ≠ some g
theorem Ap.symm {u v : Value} (h : Ap u v) : Ap v u := fun g hg hu => h g hu hg
/-- append of three numbers to a list of one's own: where it lies then. -/
theorem wpList_app3 {ops : Array Oper} {rest : List Oper} {o : Oper} {a : Act} {Q : Exit → Act → World → Prop} (hgd : o.guard = none) (s x : Operand)
    (ho : o.op = .call { callee := .builtin .append, args := #[s, x], argTypes := #[22, 22] }) (base : Nat) (W : World) (v : Value) (xs ns : List Int) (hn : ns.length = 3) (C : Array Value) (hC : C = (ints ns).toArray) (hs : a.eval s = v) (h : W.ownsRow base 3 1 v xs.length (ints xs))
    (hx : a.eval x = .slice (some ⟨W.heap.size, 0, none⟩) 3 3) (hl : xs.length ≤ 1000000) (hb : base ≤ W.heap.size)
    (K : ∀ g cap W', W'.ownsRow base 3 1 (.slice (some ⟨g, 0, none⟩) (xs.length + 3) cap) (xs.length + 3) (ints (xs ++ ns)) → Keeps (fun k => v.ownBlock = some k) W W' → (v.ownBlock = some g ∨ (g = W.heap.size + 1 ∧ Keeps (fun _ => False) W W')) → (∀ b j u, v.ownBlock = some b → (ints xs)[j]? = some u → W'.cell? ⟨b, j, none⟩ = some u) →
      wpList Tryz.prog ops Q rest (a.put o.dst (.slice (some ⟨g, 0, none⟩) (xs.length + 3) cap)) W') : wpList Tryz.prog ops Q (o :: rest) a (W.alloc (.cells C 3)) := by
  subst hC
  obtain ⟨i0, hi, hz0, hz1, hz2⟩ := info_parts info3
  have hln : (ints ns).length = 3 := by rw [ints_len]; exact hn
  have k0 := (Keeps.refl (fun _ => False) W).alloc (.cells (ints ns).toArray 3)
  refine wpList_append_stay _ hgd s x 22 ho base 3 i0 (.int .i64 0) 1 8 Tryz.underlying22 hi hz0 hz1 hz2 rfl (by decide) v xs.length (ints xs) hs (h.alloc _) ⟨W.heap.size, 0, none⟩ 3 3 (ints ns) hx (by rw [hln]) ?_ (ints_one ns) (by decide) (by unfold maxLen; omega) (by omega) (by rw [World.size_alloc]; omega) (W.heap.size + 1) (World.size_alloc ..) ?_
  · intro j u hj
    rw [addr_add, Nat.zero_add]
    exact new_cell W _ 3 j u (by rw [List.getElem?_toArray]; exact hj)
  · intro g cap W' hown hgr hw _
    have e : ints xs ++ ints ns = ints (xs ++ ns) := by simp [ints]
    have hst := fun b j u (hb : v.ownBlock = some b) (hj : (ints xs)[j]? = some u) => stay_cell (h.alloc (.cells (ints ns).toArray 3)) hown hw hb j u hj
    rw [e] at hown
    refine K g cap W' hown ((k0.mono (fun _ _ h => h.elim)).trans (Keeps.of hgr (fun k hk => Or.inl hk))) ?_ hst
    rcases hw with hw | ⟨hw, hg2⟩
    · exact Or.inl hw
    · exact Or.inr ⟨hw, k0.trans (Keeps.of hg2 (fun k hk => by cases hk))⟩
theorem Row.of_cells {W : World} {g n cap : Nat} {xs : List Int} (_hn : n = xs.length) (hc : n ≤ cap) (hg : g < W.heap.size) (h : ∀ (j : Nat) (u : Value), (ints xs)[j]? = some u → W.cell? ⟨g, j, none⟩ = some u) : Row W (.slice (some ⟨g, 0, none⟩) n cap) n (ints xs) :=
  ⟨_, cap, rfl, hc, fun _ => ⟨g, 0, rfl, hg, fun j u hj => by rw [Nat.zero_add]; exact h j u hj⟩⟩
/-- A list whose cells stay behind an append. -/
theorem row_stay {W W' : World} {base : Nat} {v : Value} {xs : List Int} (h : W.ownsRow base 3 1 v xs.length (ints xs)) (hs : W.heap.size ≤ W'.heap.size) (hst : ∀ (b j : Nat) (u : Value), v.ownBlock = some b → (ints xs)[j]? = some u → W'.cell? ⟨b, j, none⟩ = some u) : Row W' v xs.length (ints xs) := by
  rcases h.2 with ⟨rfl, h0⟩ | ⟨g, cap, cur, rfl, _, hb, h1, _⟩
  · rw [h0]; exact ⟨none, 0, rfl, Nat.le_refl _, fun h => absurd h (by omega)⟩
  · exact Row.of_cells rfl h1 (Nat.lt_of_lt_of_le (heap_lt hb) hs) (fun j u hj => hst g j u rfl hj)
end Go.Proofs.YtdlhdompemkjfaaGreatDoor
