import Derived.Test.YtndojlacdggfcabT1
import Derived.Handy
import Derived.Deep.AppendLies
namespace Go.Proofs.Ytndojlacdggfcab
open Go.RowKit Go.Maps

section
variable {P : Program} (w : World)

/-- append onto an own row: where the new row lies; a row that lies anew leaves the old one as it was. -/
theorem run_append_stay (t ty : TypeId) (base : Nat) (e : TypeId) (i : TypeInfo) (z : Value) (size bytes : Nat) (ht : P.underlying t = some (.slice e)) (hi : P.info? e = some i) (hz : i.zero = some z)
    (hsize : i.size = size) (hby : i.bytes = bytes) (hzs : z.cells.size = size) (hsz : 0 < size)
    (v : Value) (n : Nat) (xs : List Value) (hown : w.ownsRow base e size v n xs)
    (ad : Addr) (m c : Nat) (news : List Value) (hl : news.length = m * size) (hnews : ∀ j u, news[j]? = some u → w.cell? (ad.add j) = some u) (h1 : ∀ u ∈ news, u.oneCell' = true)
    (hm : 0 < m) (h63 : n + m ≤ maxLen) (hbytes : (n + m) * bytes ≤ 140737488355328) (hbase : base ≤ w.heap.size) (H : Nat) (hH : w.heap.size = H) :
    ∃ g cap w', (Builtin.append_ #[t, t] ty #[v, .slice (some ad) m c]).run P w = .ok (.slice (some ⟨g, 0, none⟩) (n + m) cap) w' ∧
      w'.ownsRow base e size (.slice (some ⟨g, 0, none⟩) (n + m) cap) (n + m) (xs ++ news) ∧ w.grownBy w' v.ownBlock ∧ (v.ownBlock = some g ∨ (g = H ∧ w.grownBy w' none)) ∧ g < w'.heap.size := by
  obtain ⟨g, cap, w', hr, h2, h3, h4, h5⟩ := run_append_lies (P := P) w t ty base e i z size bytes ht hi hz hsize hby hzs hsz v n xs hown ad m c news hl hnews h1 hm h63 hbytes hbase H hH
  refine ⟨g, cap, w', hr, h2, h3, ?_, h5⟩
  rcases h4 with h4 | h4
  · exact Or.inl h4
  · rcases hown.2 with ⟨rfl, _⟩ | ⟨g', cap', cur, rfl, hbg, hg, hnc, hcm, hcs, htake⟩
    · exact Or.inr ⟨h4, h3⟩
    · by_cases hroom : n + m ≤ cap'
      · have hfit : n * i.size + news.length ≤ cur.size := by rw [hsize, hl, hcs, ← Nat.add_mul]; exact Nat.mul_le_mul_right _ hroom
        have hr2 := run_append_room (P := P) w t ty e i ht hi g' n cap' cur hg ad m c news (by rw [hsize]; exact hl) hnews h1 hroom hfit
        rw [hr] at hr2
        simp only [Result.ok.injEq, Value.slice.injEq, Option.some.injEq, Addr.mk.injEq] at hr2
        exact Or.inl (by rw [hr2.1.1.1]; rfl)
      · have holds : ∀ j u, xs[j]? = some u → w.cell? ((⟨g', 0, none⟩ : Addr).add j) = some u := hown.cells (g := g') rfl
        have hr2 := run_append_grow (P := P) w t ty e i z ht hi hz ⟨g', 0, none⟩ n cap' xs (by rw [hsize]; exact hown.1) holds ad m c news (by rw [hsize]; exact hl) hnews (by omega) (by simp only [maxLen] at h63; omega) (growslice_fits (by omega) (by rw [hby]; exact hbytes))
        rw [hr] at hr2
        simp only [Result.ok.injEq] at hr2
        refine Or.inr ⟨h4, ?_⟩
        rw [hr2.2]
        exact ⟨rfl, rfl, rfl, by simp, fun k hk _ => heap_alloc_old w.drew _ hk⟩

theorem wp_append_stay {o : Oper} {a : Act} {K : Act → World → Prop} {Q : Exit → Act → World → Prop} (s x : Operand) (t : TypeId)
    (ho : o.op = .call { callee := .builtin .append, args := #[s, x], argTypes := #[t, t] })
    (base : Nat) (e : TypeId) (i : TypeInfo) (z : Value) (size bytes : Nat) (ht : P.underlying t = some (.slice e)) (hi : P.info? e = some i) (hz : i.zero = some z)
    (hsize : i.size = size) (hby : i.bytes = bytes) (hzs : z.cells.size = size) (hsz : 0 < size)
    (v : Value) (n : Nat) (xs : List Value) (hs : a.eval s = v) (hown : w.ownsRow base e size v n xs)
    (ad : Addr) (m c : Nat) (news : List Value) (hx : a.eval x = .slice (some ad) m c) (hl : news.length = m * size) (hnews : ∀ j u, news[j]? = some u → w.cell? (ad.add j) = some u) (h1 : ∀ u ∈ news, u.oneCell' = true)
    (hm : 0 < m) (h63 : n + m ≤ maxLen) (hbytes : (n + m) * bytes ≤ 140737488355328) (hbase : base ≤ w.heap.size) (H : Nat) (hH : w.heap.size = H)
    (h : ∀ g cap w', w'.ownsRow base e size (.slice (some ⟨g, 0, none⟩) (n + m) cap) (n + m) (xs ++ news) → w.grownBy w' v.ownBlock → (v.ownBlock = some g ∨ (g = H ∧ w.grownBy w' none)) → g < w'.heap.size → K (a.put o.dst (.slice (some ⟨g, 0, none⟩) (n + m) cap)) w') : o.wp P a w K Q := by
  obtain ⟨g, cap, w', hr, h2, h3, h4, h5⟩ := run_append_stay (P := P) w t o.type base e i z size bytes ht hi hz hsize hby hzs hsz v n xs hown ad m c news hl hnews h1 hm h63 hbytes hbase H hH
  unfold Oper.wp execOp
  simp only [ho, resolve, invoke, builtin, Sem.run_bind, Sem.run_pure, Result.andThen_ok, List.map_toArray, List.map_cons, List.map_nil, hs, hx, hr]
  exact h g cap w' h2 h3 h4 h5

theorem wpList_append_stay {ops : Array Oper} {rest : List Oper} {o : Oper} {a : Act} {Q : Exit → Act → World → Prop} (hgd : o.guard = none) (s x : Operand) (t : TypeId)
    (ho : o.op = .call { callee := .builtin .append, args := #[s, x], argTypes := #[t, t] })
    (base : Nat) (e : TypeId) (i : TypeInfo) (z : Value) (size bytes : Nat) (ht : P.underlying t = some (.slice e)) (hi : P.info? e = some i) (hz : i.zero = some z)
    (hsize : i.size = size) (hby : i.bytes = bytes) (hzs : z.cells.size = size) (hsz : 0 < size)
    (v : Value) (n : Nat) (xs : List Value) (hs : a.eval s = v) (hown : w.ownsRow base e size v n xs)
    (ad : Addr) (m c : Nat) (news : List Value) (hx : a.eval x = .slice (some ad) m c) (hl : news.length = m * size) (hnews : ∀ j u, news[j]? = some u → w.cell? (ad.add j) = some u) (h1 : ∀ u ∈ news, u.oneCell' = true)
    (hm : 0 < m) (h63 : n + m ≤ maxLen) (hbytes : (n + m) * bytes ≤ 140737488355328) (hbase : base ≤ w.heap.size) (H : Nat) (hH : w.heap.size = H)
    (h : ∀ g cap w', w'.ownsRow base e size (.slice (some ⟨g, 0, none⟩) (n + m) cap) (n + m) (xs ++ news) → w.grownBy w' v.ownBlock → (v.ownBlock = some g ∨ (g = H ∧ w.grownBy w' none)) → g < w'.heap.size → wpList P ops Q rest (a.put o.dst (.slice (some ⟨g, 0, none⟩) (n + m) cap)) w') : wpList P ops Q (o :: rest) a w :=
  wpList_plain hgd fun _ hK => wp_append_stay w s x t ho base e i z size bytes ht hi hz hsize hby hzs hsz v n xs hs hown ad m c news hx hl hnews h1 hm h63 hbytes hbase H hH fun g cap w' h2 h3 h4 h5 => hK _ _ (h g cap w' h2 h3 h4 h5)

end

/-- The old row's cells behind an append. -/
theorem stay_cell {w w' : World} {base : Nat} {e : TypeId} {size n m g cap H b : Nat} {v : Value} {xs news : List Value} (hown : w.ownsRow base e size v n xs)
    (h2 : w'.ownsRow base e size (.slice (some ⟨g, 0, none⟩) (n + m) cap) (n + m) (xs ++ news)) (h4 : v.ownBlock = some g ∨ (g = H ∧ w.grownBy w' none)) (hb : v.ownBlock = some b) (j : Nat) (u : Value) (hj : xs[j]? = some u) :
    w'.cell? ⟨b, j, none⟩ = some u := by
  have hjl := (List.getElem?_eq_some_iff.1 hj).1
  have hc : w.cell? ⟨b, j, none⟩ = some u := by
    have := hown.cells hb j u hj
    have hadd : (⟨b, 0, none⟩ : Addr).add j = ⟨b, j, none⟩ := by unfold Addr.add; split <;> simp_all
    rwa [hadd] at this
  rcases h4 with h4 | ⟨_, h4⟩
  · rw [hb] at h4
    cases h4
    rw [h2.cellAt j (by rw [← h2.1, List.length_append]; omega), List.getElem?_append_left hjl]
    exact hj
  · exact h4.cell hc (by simp)


/-- A row whose block lies within lo .. hi. -/
def RowB (W : World) (v : Value) (n : Nat) (xs : List Value) (lo hi : Nat) : Prop :=
  ∃ a cap, v = .slice a n cap ∧ n ≤ cap ∧ cap ≤ 9223372036854775807 ∧ (0 < n → ∃ b, a = some ⟨b, 0, none⟩ ∧ lo ≤ b ∧ b < hi ∧ b < W.heap.size ∧ ∀ (j : Nat) (u : Value), xs[j]? = some u → W.cell? ⟨b, j, none⟩ = some u)
theorem RowB.keep {X : Nat → Prop} {A B : World} {v : Value} {n : Nat} {xs : List Value} {lo hi : Nat} (h : RowB A v n xs lo hi) (hk : Keeps X A B) (hx : ∀ k, X k → k < lo ∨ hi ≤ k) : RowB B v n xs lo hi := by
  obtain ⟨a, cap, e, h1, h2, h⟩ := h
  refine ⟨a, cap, e, h1, h2, fun h0 => ?_⟩
  obtain ⟨b, e, hb, hb', hl, hc⟩ := h h0
  exact ⟨b, e, hb, hb', Nat.lt_of_lt_of_le hl hk.size, fun j u hu => hk.cell (hc j u hu) fun hX => by have := hx b hX; omega⟩
theorem RowB.row {W : World} {v : Value} {n : Nat} {xs : List Value} {lo hi : Nat} (h : RowB W v n xs lo hi) : Row W v n xs := by
  obtain ⟨a, cap, e, _, _, h⟩ := h
  refine ⟨a, cap, e, fun h0 => ?_⟩
  obtain ⟨b, e, _, _, hl, hc⟩ := h h0
  exact ⟨b, 0, e, hl, fun j u hu => by rw [Nat.zero_add]; exact hc j u hu⟩
theorem RowB.of_own {W : World} {base : Nat} {e : TypeId} {size : Nat} {v : Value} {n : Nat} {xs : List Value} (h : W.ownsRow base e size v n xs) : RowB W v n xs base W.heap.size := by
  rcases Nat.eq_zero_or_pos n with rfl | h0
  · rcases h.2 with ⟨rfl, _⟩ | ⟨gb, c, cur, rfl, _, _, hnc, hcm, _⟩
    · exact ⟨none, 0, rfl, by omega, by omega, fun h => absurd h (by omega)⟩
    · exact ⟨_, c, rfl, hnc, Nat.le_trans hcm (by decide), fun h => absurd h (by omega)⟩
  · obtain ⟨gb, cap, rfl, h1, h2, h3, h4, hc⟩ := open_row' h h0
    exact ⟨_, cap, rfl, h1, h2, fun _ => ⟨gb, rfl, h3, h4, h4, hc⟩⟩
theorem RowB.mono {W : World} {v : Value} {n : Nat} {xs : List Value} {lo hi hi' : Nat} (h : RowB W v n xs lo hi) (hh : hi ≤ hi') : RowB W v n xs lo hi' := by
  obtain ⟨a, cap, e, h1, h2, h⟩ := h
  refine ⟨a, cap, e, h1, h2, fun h0 => ?_⟩
  obtain ⟨b, e, hb, hb', hl, hc⟩ := h h0
  exact ⟨b, e, hb, Nat.lt_of_lt_of_le hb' hh, hl, hc⟩

/-- A block of a row is no node's, nor a tree's. -/
theorem row_obj {W : World} {base : Nat} {e : TypeId} {size : Nat} {v : Value} {n : Nat} {xs : List Value} {gb : Nat} (h : W.ownsRow base e size v n xs) (hg : v.ownBlock = some gb) : ∃ cur, W.heap[gb]? = some (.cells cur e (0, 0)) := by
  rcases h.2 with ⟨rfl, _⟩ | ⟨g', cap, cur, rfl, _, hgb, _⟩
  · cases hg
  · cases hg; exact ⟨cur, hgb⟩
theorem TreeAt.row {A B : World} {t : Nat} {f : Nat → Int} {base : Nat} {e : TypeId} {size : Nat} {v : Value} {n : Nat} {xs : List Value} {gb : Nat} (hT : TreeAt A t f) (h : A.ownsRow base e size v n xs) (hg : v.ownBlock = some gb) (he : e = 38 ∨ e = 3) (hk : Keeps (fun c => c = gb) A B) : TreeAt B t f := by
  obtain ⟨cur, hc⟩ := row_obj h hg
  refine hT.past hk (fun q u hn => ?_) ?_
  · have := hc.symm.trans hn
    rcases he with rfl | rfl <;> simp at this
  · rintro rfl
    obtain ⟨p, v', ht, _⟩ := hT
    have := hc.symm.trans ht
    rcases he with rfl | rfl <;> simp at this

/-- The four trees. -/
def FX (W : World) (t u c d : Nat) (g fc fd : Nat → Int) : Prop := TreeAt W t g ∧ TreeAt W u g ∧ TreeAt W c fc ∧ TreeAt W d fd
section
variable {A B : World} {t u c d : Nat} {g fc fd f' : Nat → Int}
theorem FX.keep (h : FX A t u c d g fc fd) (hk : Keeps (fun _ => False) A B) : FX B t u c d g fc fd := ⟨h.1.keep hk, h.2.1.keep hk, h.2.2.1.keep hk, h.2.2.2.keep hk⟩
theorem FX.row {base : Nat} {e : TypeId} {size : Nat} {v : Value} {n : Nat} {xs : List Value} {gb : Nat} (h : FX A t u c d g fc fd) (hr : A.ownsRow base e size v n xs) (hg : v.ownBlock = some gb) (he : e = 38 ∨ e = 3) (hk : Keeps (fun c => c = gb) A B) : FX B t u c d g fc fd :=
  ⟨h.1.row hr hg he hk, h.2.1.row hr hg he hk, h.2.2.1.row hr hg he hk, h.2.2.2.row hr hg he hk⟩
theorem FX.turnC (h : FX A t u c d g fc fd) (hne : t ≠ c ∧ u ≠ c ∧ d ≠ c) (hk : Keeps (fun x => x = c) A B) (hT : TreeAt B c f') : FX B t u c d g f' fd :=
  ⟨h.1.beside h.2.2.1 hk hne.1, h.2.1.beside h.2.2.1 hk hne.2.1, hT, h.2.2.2.beside h.2.2.1 hk hne.2.2⟩
theorem FX.turnD (h : FX A t u c d g fc fd) (hne : t ≠ d ∧ u ≠ d ∧ c ≠ d) (hk : Keeps (fun x => x = d) A B) (hT : TreeAt B d f') : FX B t u c d g fc f' :=
  ⟨h.1.beside h.2.2.2 hk hne.1, h.2.1.beside h.2.2.2 hk hne.2.1, h.2.2.1.beside h.2.2.2 hk hne.2.2, hT⟩
end

/-- The first k runs of the list are spoilt. -/
def BadUp (xs : List Value) (k : Nat) : Prop := ∀ i, i < k → xs[i * 3]? = some (.int .i64 (-1)) ∧ xs[i * 3 + 1]? = some (.int .i64 (i : Int)) ∧ xs[i * 3 + 2]? = some (.int .i64 7)
theorem BadUp.next {xs : List Value} {k : Nat} (h : BadUp xs k) (hl : k * 3 + 2 < xs.length) : BadUp (((xs.set (k * 3) (.int .i64 (-1))).set (k * 3 + 1) (.int .i64 (k : Int))).set (k * 3 + 2) (.int .i64 7)) (k + 1) := by
  intro i hi
  simp only [List.getElem?_set, List.length_set]
  by_cases e : i = k
  · subst e
    refine ⟨?_, ?_, ?_⟩
    · rw [if_neg (by omega), if_neg (by omega), if_pos rfl, if_pos (by omega)]
    · rw [if_neg (by omega), if_pos rfl, if_pos (by omega)]
    · rw [if_pos rfl, if_pos (by omega)]
  · obtain ⟨h0, h1, h2⟩ := h i (by omega)
    refine ⟨?_, ?_, ?_⟩
    · rw [if_neg (by omega), if_neg (by omega), if_neg (by omega)]; exact h0
    · rw [if_neg (by omega), if_neg (by omega), if_neg (by omega)]; exact h1
    · rw [if_neg (by omega), if_neg (by omega), if_neg (by omega)]; exact h2
def FiveUp (xs : List Value) (k : Nat) : Prop := ∀ i, i < k → xs[i]? = some (.int .i64 (-5))
theorem FiveUp.next {xs : List Value} {k : Nat} (h : FiveUp xs k) (hl : k < xs.length) : FiveUp (xs.set k (.int .i64 (-5))) (k + 1) := by
  intro i hi
  simp only [List.getElem?_set]
  by_cases e : k = i
  · rw [if_pos e, if_pos hl]
  · rw [if_neg e]; exact h i (by omega)

section
variable {A B : World} {base : Nat} {e : TypeId} {size : Nat} {v : Value} {n : Nat} {xs : List Value}
theorem FX.grown {t u c d : Nat} {g fc fd : Nat → Int} (h : FX A t u c d g fc fd) (hr : A.ownsRow base e size v n xs) (he : e = 38 ∨ e = 3) (hg : A.grownBy B v.ownBlock) : FX B t u c d g fc fd := by
  cases hb : v.ownBlock with
  | none => rw [hb] at hg; exact h.keep (Keeps.of hg (by intro k hk; cases hk))
  | some gb => rw [hb] at hg; exact h.row hr hb he (Keeps.of hg (by rintro k hk; cases hk; exact .inl rfl))
theorem RowB.grown {v' : Value} {n' : Nat} {ys : List Value} {lo hi : Nat} (h : RowB A v' n' ys lo hi) (hg : A.grownBy B v.ownBlock) (hx : ∀ c, v.ownBlock = some c → c < lo ∨ hi ≤ c) : RowB B v' n' ys lo hi :=
  h.keep (X := fun c => v.ownBlock = some c) (Keeps.of hg (fun _ hk => .inl hk)) hx
theorem keeps_grown {w : World} (h : Keeps (fun _ => False) w A) (hg : A.grownBy B v.ownBlock) (hx : ∀ c, v.ownBlock = some c → w.heap.size ≤ c) : Keeps (fun _ => False) w B :=
  h.step hg (fun k hk => .inr (hx k hk))
theorem RowB.stay {m g cap H lo hi : Nat} {news : List Value} (hown : A.ownsRow base e size v n xs) (h2 : B.ownsRow base e size (.slice (some ⟨g, 0, none⟩) (n + m) cap) (n + m) (xs ++ news)) (h4 : v.ownBlock = some g ∨ (g = H ∧ A.grownBy B none)) (hs : A.heap.size ≤ B.heap.size) (hx : ∀ c, v.ownBlock = some c → lo ≤ c ∧ c < hi) : RowB B v n xs lo hi := by
  obtain ⟨a, c, e, h1, h3, _⟩ := RowB.of_own hown
  refine ⟨a, c, e, h1, h3, fun h0 => ?_⟩
  obtain ⟨gb, c', e', _, _, _, hl, _⟩ := open_row' hown h0
  rw [e] at e'
  cases e'
  have hob : v.ownBlock = some gb := by rw [e]; rfl
  exact ⟨gb, rfl, (hx gb hob).1, (hx gb hob).2, Nat.lt_of_lt_of_le hl hs, fun j u hj => stay_cell hown h2 h4 hob j u hj⟩
end
def six : List Value := [.int .i64 (-2), .int .i64 0, .int .i64 0, .int .i64 (-3), .int .i64 0, .int .i64 0]

def mkI (x : Int) : Value := .int .i64 x
/-- The rows of runs that stay as they are. -/
def RR (W : World) (va vm vk vb : Value) (n : Nat) (xs : List Value) (R : List Rn) (s4 s5 s6 s7 s11 : Nat) : Prop := RowB W va n xs s4 s5 ∧ RowB W vm (n + 2) (xs ++ six) s4 s11 ∧ RowB W vk n (rflat R) s5 s6 ∧ RowB W vb n (rflat R) s6 s7
theorem RR.keep {X : Nat → Prop} {A B : World} {va vm vk vb : Value} {n : Nat} {xs : List Value} {R : List Rn} {s4 s5 s6 s7 s11 : Nat} (h : RR A va vm vk vb n xs R s4 s5 s6 s7 s11) (hs : s4 ≤ s5 ∧ s5 ≤ s6 ∧ s6 ≤ s7 ∧ s7 ≤ s11) (hk : Keeps X A B) (hx : ∀ k, X k → k < s4 ∨ s11 ≤ k) : RR B va vm vk vb n xs R s4 s5 s6 s7 s11 :=
  ⟨h.1.keep hk (fun k hk => by have := hx k hk; omega), h.2.1.keep hk hx, h.2.2.1.keep hk (fun k hk => by have := hx k hk; omega), h.2.2.2.keep hk (fun k hk => by have := hx k hk; omega)⟩
theorem RR.same {A B : World} {va vm vk vb : Value} {n : Nat} {xs : List Value} {R : List Rn} {s4 s5 s6 s7 s11 : Nat} (h : RR A va vm vk vb n xs R s4 s5 s6 s7 s11) (hk : Keeps (fun _ => False) A B) : RR B va vm vk vb n xs R s4 s5 s6 s7 s11 :=
  ⟨h.1.keep hk (fun _ h => h.elim), h.2.1.keep hk (fun _ h => h.elim), h.2.2.1.keep hk (fun _ h => h.elim), h.2.2.2.keep hk (fun _ h => h.elim)⟩
theorem slice_of {W : World} {base : Nat} {e : TypeId} {size : Nat} {v : Value} {n : Nat} {xs : List Value} (h : W.ownsRow base e size v n xs) : ∃ a c, v = .slice a n c := by
  rcases h.2 with ⟨h1, h2⟩ | ⟨gb, c, _, h1, _⟩
  · exact ⟨none, 0, by rw [h1, h2]⟩
  · exact ⟨_, c, h1⟩

/-- What was cut off and what is left are the whole. -/
theorem els_cut (g : Nat → Int) (A : Nat) : ∀ k, k ≤ 512 → (els (cutF g 0 (A : Int)) 0 0 k).length + (els g (A : Int) 0 k).length = (els g 0 0 k).length
  | 0, _ => rfl
  | k + 1, hk => by
    have ih := els_cut g A k (by omega)
    rw [els_succ _ _ k (by omega), els_succ _ _ k (by omega), els_succ _ _ k (by omega)]
    by_cases h : k < A
    · have e : cutF g 0 (A : Int) k = g k := by simp [cutF, h]
      rw [e, if_neg (show ¬ ((A : Int) ≤ (k : Int) ∧ g k ≠ 0) by omega)]
      omega
    · have e : cutF g 0 (A : Int) k = 0 := by simp [cutF]; omega
      rw [e, if_neg (show ¬ ((0 : Int) ≤ (k : Int) ∧ (0 : Int) ≠ 0) by omega)]
      by_cases h0 : g k = 0
      · rw [if_neg (by simp [h0]), if_neg (by simp [h0])]; omega
      · rw [if_pos ⟨by omega, h0⟩, if_pos ⟨by omega, h0⟩]; omega
/-- The last two. -/
theorem els_two (f : Nat → Int) : (els (setF (setF f 511 81) 510 82) 510 0 512).map val = [.int .i64 82, .int .i64 81] := by
  have e : setF (setF f 511 81) 510 82 = upd (upd f 511 81) 510 82 := by
    rw [show (511 : Int) = ((511 : Nat) : Int) from rfl, show (510 : Int) = ((510 : Nat) : Int) from rfl, setF_nat _ _ (by omega), setF_nat _ _ (by omega)]
  rw [e]
  have h0 : els (upd (upd f 511 81) 510 82) 510 0 510 = [] := els_none (fun o _ ho => .inl (by omega))
  have h1 := els_one (g := upd (upd f 511 81) 510 82) (lo := 510) (a := 510) (by omega) (by omega) (by simp [upd])
  have h2 := els_one (g := upd (upd f 511 81) 510 82) (lo := 510) (a := 511) (by omega) (by omega) (by simp [upd])
  rw [show (512 : Nat) = 510 + (1 + 1) by omega, els_add, els_add, h0, Nat.zero_add, h1, h2]
  simp [val, upd]

end Go.Proofs.Ytndojlacdggfcab
