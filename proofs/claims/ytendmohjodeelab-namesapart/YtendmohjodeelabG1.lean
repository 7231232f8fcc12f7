import Derived.Test.YtendmohjodeelabD2
import Derived.Handy
import Derived.Deep.AppendLies
namespace Go.Proofs.Ytendmohjodeelab
open Go.RowKit Go.Maps Go.Great

section
variable {P : Program} (w : World)

/-- append onto an own row: where the new row lies; a row that lies anew leaves the old one as it was. -/
theorem run_append_stay (t ty : TypeId) (base : Nat) (e : TypeId) (i : TypeInfo) (z : Value) (size bytes : Nat) (ht : P.underlying t = some (.slice e)) (hi : P.info? e = some i) (hz : i.zero = some z)
    (hsize : i.size = size) (hby : i.bytes = bytes) (hzs : z.cells.size = size) (hsz : 0 < size)
    (v : Value) (n : Nat) (xs : List Value) (hown : w.ownsRow base e size v n xs)
    (ad : Addr) (m c : Nat) (news : List Value) (hl : news.length = m * size) (hnews : ∀ j u, news[j]? = some u → w.cell? (ad.add j) = some u) (h1 : ∀ u ∈ news, u.oneCell' = true)
    (hm : 0 < m) (h63 : n + m ≤ maxLen) (hbytes : (n + m) * bytes ≤ 140737488355328) (hbase : base ≤ w.heap.size) (H : Nat) (hH : w.heap.size = H) :
    ∃ g cap w', (Builtin.append_ #[t, t] ty #[v, .slice (some ad) m c]).run P w = .ok (.slice (some ⟨g, 0, none⟩) (n + m) cap) w' ∧
      w'.ownsRow base e size (.slice (some ⟨g, 0, none⟩) (n + m) cap) (n + m) (xs ++ news) ∧ w.grownBy w' v.ownBlock ∧ (v.ownBlock = some g ∨ (g = H ∧ w.grownBy w' none)) ∧ g < w'.heap.size := by
  obtain ⟨g, cap, w', hr, h2, h3, h4, h5⟩ := run_append_lies (P := P) w t ty base e i z size bytes ht hi hz hsize hby hzs hsz v n xs hown ad m c news hl hnews h1 hm h63 hbytes hbase H hH
  refine ⟨g, cap, w', hr, h2, h3, ?_, h5⟩
  rcases h4 with h4 | h4
  · exact Or.inl h4
  · rcases hown.2 with ⟨rfl, _⟩ | ⟨g', cap', cur, rfl, hbg, hg, hnc, hcm, hcs, htake⟩
    · exact Or.inr ⟨h4, h3⟩
    · by_cases hroom : n + m ≤ cap'
      · have hfit : n * i.size + news.length ≤ cur.size := by rw [hsize, hl, hcs, ← Nat.add_mul]; exact Nat.mul_le_mul_right _ hroom
        have hr2 := run_append_room (P := P) w t ty e i ht hi g' n cap' cur hg ad m c news (by rw [hsize]; exact hl) hnews h1 hroom hfit
        rw [hr] at hr2
        simp only [Result.ok.injEq, Value.slice.injEq, Option.some.injEq, Addr.mk.injEq] at hr2
        exact Or.inl (by rw [hr2.1.1.1]; rfl)
      · have holds : ∀ j u, xs[j]? = some u → w.cell? ((⟨g', 0, none⟩ : Addr).add j) = some u := hown.cells (g := g') rfl
        have hr2 := run_append_grow (P := P) w t ty e i z ht hi hz ⟨g', 0, none⟩ n cap' xs (by rw [hsize]; exact hown.1) holds ad m c news (by rw [hsize]; exact hl) hnews (by omega) (by simp only [maxLen] at h63; omega) (growslice_fits (by omega) (by rw [hby]; exact hbytes))
        rw [hr] at hr2
        simp only [Result.ok.injEq] at hr2
        refine Or.inr ⟨h4, ?_⟩
        rw [hr2.2]
        exact ⟨rfl, rfl, rfl, by simp, fun k hk _ => heap_alloc_old w.drew _ hk⟩

theorem wp_append_stay {o : Oper} {a : Act} {K : Act → World → Prop} {Q : Exit → Act → World → Prop} (s x : Operand) (t : TypeId)
    (ho : o.op = .call { callee := .builtin .append, args := #[s, x], argTypes := #[t, t] })
    (base : Nat) (e : TypeId) (i : TypeInfo) (z : Value) (size bytes : Nat) (ht : P.underlying t = some (.slice e)) (hi : P.info? e = some i) (hz : i.zero = some z)
    (hsize : i.size = size) (hby : i.bytes = bytes) (hzs : z.cells.size = size) (hsz : 0 < size)
    (v : Value) (n : Nat) (xs : List Value) (hs : a.eval s = v) (hown : w.ownsRow base e size v n xs)
    (ad : Addr) (m c : Nat) (news : List Value) (hx : a.eval x = .slice (some ad) m c) (hl : news.length = m * size) (hnews : ∀ j u, news[j]? = some u → w.cell? (ad.add j) = some u) (h1 : ∀ u ∈ news, u.oneCell' = true)
    (hm : 0 < m) (h63 : n + m ≤ maxLen) (hbytes : (n + m) * bytes ≤ 140737488355328) (hbase : base ≤ w.heap.size) (H : Nat) (hH : w.heap.size = H)
    (h : ∀ g cap w', w'.ownsRow base e size (.slice (some ⟨g, 0, none⟩) (n + m) cap) (n + m) (xs ++ news) → w.grownBy w' v.ownBlock → (v.ownBlock = some g ∨ (g = H ∧ w.grownBy w' none)) → g < w'.heap.size → K (a.put o.dst (.slice (some ⟨g, 0, none⟩) (n + m) cap)) w') : o.wp P a w K Q := by
  obtain ⟨g, cap, w', hr, h2, h3, h4, h5⟩ := run_append_stay (P := P) w t o.type base e i z size bytes ht hi hz hsize hby hzs hsz v n xs hown ad m c news hl hnews h1 hm h63 hbytes hbase H hH
  unfold Oper.wp execOp
  simp only [ho, resolve, invoke, builtin, Sem.run_bind, Sem.run_pure, Result.andThen_ok, List.map_toArray, List.map_cons, List.map_nil, hs, hx, hr]
  exact h g cap w' h2 h3 h4 h5

theorem wpList_append_stay {ops : Array Oper} {rest : List Oper} {o : Oper} {a : Act} {Q : Exit → Act → World → Prop} (hgd : o.guard = none) (s x : Operand) (t : TypeId)
    (ho : o.op = .call { callee := .builtin .append, args := #[s, x], argTypes := #[t, t] })
    (base : Nat) (e : TypeId) (i : TypeInfo) (z : Value) (size bytes : Nat) (ht : P.underlying t = some (.slice e)) (hi : P.info? e = some i) (hz : i.zero = some z)
    (hsize : i.size = size) (hby : i.bytes = bytes) (hzs : z.cells.size = size) (hsz : 0 < size)
    (v : Value) (n : Nat) (xs : List Value) (hs : a.eval s = v) (hown : w.ownsRow base e size v n xs)
    (ad : Addr) (m c : Nat) (news : List Value) (hx : a.eval x = .slice (some ad) m c) (hl : news.length = m * size) (hnews : ∀ j u, news[j]? = some u → w.cell? (ad.add j) = some u) (h1 : ∀ u ∈ news, u.oneCell' = true)
    (hm : 0 < m) (h63 : n + m ≤ maxLen) (hbytes : (n + m) * bytes ≤ 140737488355328) (hbase : base ≤ w.heap.size) (H : Nat) (hH : w.heap.size = H)
    (h : ∀ g cap w', w'.ownsRow base e size (.slice (some ⟨g, 0, none⟩) (n + m) cap) (n + m) (xs ++ news) → w.grownBy w' v.ownBlock → (v.ownBlock = some g ∨ (g = H ∧ w.grownBy w' none)) → g < w'.heap.size → wpList P ops Q rest (a.put o.dst (.slice (some ⟨g, 0, none⟩) (n + m) cap)) w') : wpList P ops Q (o :: rest) a w :=
  wpList_plain hgd fun _ hK => wp_append_stay w s x t ho base e i z size bytes ht hi hz hsize hby hzs hsz v n xs hs hown ad m c news hx hl hnews h1 hm h63 hbytes hbase H hH fun g cap w' h2 h3 h4 h5 => hK _ _ (h g cap w' h2 h3 h4 h5)

end

/-- The old row's cells behind an append. -/
theorem stay_cell {w w' : World} {base : Nat} {e : TypeId} {size n m g cap H b : Nat} {v : Value} {xs news : List Value} (hown : w.ownsRow base e size v n xs)
    (h2 : w'.ownsRow base e size (.slice (some ⟨g, 0, none⟩) (n + m) cap) (n + m) (xs ++ news)) (h4 : v.ownBlock = some g ∨ (g = H ∧ w.grownBy w' none)) (hb : v.ownBlock = some b) (j : Nat) (u : Value) (hj : xs[j]? = some u) :
    w'.cell? ⟨b, j, none⟩ = some u := by
  have hjl := (List.getElem?_eq_some_iff.1 hj).1
  have hc : w.cell? ⟨b, j, none⟩ = some u := by
    have := hown.cells hb j u hj
    have hadd : (⟨b, 0, none⟩ : Addr).add j = ⟨b, j, none⟩ := by unfold Addr.add; split <;> simp_all
    rwa [hadd] at this
  rcases h4 with h4 | ⟨_, h4⟩
  · rw [hb] at h4
    cases h4
    rw [h2.cellAt j (by rw [← h2.1, List.length_append]; omega), List.getElem?_append_left hjl]
    exact hj
  · exact h4.cell hc (by simp)



theorem row_obj {W : World} {base : Nat} {e : TypeId} {size : Nat} {v : Value} {n : Nat} {xs : List Value} {gb : Nat} (h : W.ownsRow base e size v n xs) (hg : v.ownBlock = some gb) : ∃ cur, W.heap[gb]? = some (.cells cur e (0, 0)) := by
  rcases h.2 with ⟨rfl, _⟩ | ⟨g', cap, cur, rfl, _, hgb, _⟩
  · cases hg
  · cases hg; exact ⟨cur, hgb⟩
theorem one_keeps (W : World) (b k : Nat) (v : Value) : Keeps (fun c => c = b) W (W.setCell ⟨b, k, none⟩ v) := Keeps.of (grownBy_setCell W ⟨b, k, none⟩ v) (by rintro c hc; cases hc; exact .inl rfl)
theorem ownsRow_set {W : World} {base : Nat} {e : TypeId} {size : Nat} {v : Value} {n : Nat} {xs : List Value} (h : W.ownsRow base e size v n xs) {g : Nat} (hg : v.ownBlock = some g) (j : Nat) (u : Value) :
    (W.setCell ⟨g, j, none⟩ u).ownsRow base e size v n (xs.set j u) := by
  refine ⟨by rw [List.length_set]; exact h.1, ?_⟩
  rcases h.2 with ⟨rfl, _⟩ | ⟨g', cap, cur, rfl, hb, hgb, h1, h2, h3, h4⟩
  · simp [Value.ownBlock] at hg
  · obtain rfl : g' = g := by simpa [Value.ownBlock] using hg
    refine .inr ⟨g', cap, cur.setIfInBounds j u, rfl, hb, setCell_block (a := ⟨g', j, none⟩) hgb rfl, h1, h2, by simpa using h3, ?_⟩
    rw [← h4, Array.toList_setIfInBounds, List.take_set]
theorem ownsRow_keep {w w' : World} {base : Nat} {e : TypeId} {size : Nat} {v : Value} {n : Nat} {xs : List Value} (h : w.ownsRow base e size v n xs) {X : Nat → Prop} (k : Keeps X w w') (hx : ∀ g, v.ownBlock = some g → ¬ X g) : w'.ownsRow base e size v n xs := by
  rcases h.2 with ⟨rfl, h0⟩ | ⟨g, cap, cur, rfl, hg, hb, h1⟩
  · exact ⟨h.1, Or.inl ⟨rfl, h0⟩⟩
  · exact ⟨h.1, Or.inr ⟨g, cap, cur, rfl, hg, k.at hb (hx g rfl), h1⟩⟩
theorem own_cell {w : World} {base : Nat} {e : TypeId} {size : Nat} {v : Value} {n : Nat} {xs : List Value} (h : w.ownsRow base e size v n xs) {g : Nat} (hg : v.ownBlock = some g) {j : Nat} {u : Value} (hj : xs[j]? = some u) : w.cell? ⟨g, j, none⟩ = some u := by
  have := h.cells hg j u hj
  have hadd : (⟨g, 0, none⟩ : Addr).add j = ⟨g, j, none⟩ := by unfold Addr.add; split <;> simp_all
  rwa [hadd] at this

/-- The inodes of a row's first k entries. -/
def IUp (f : Nat → Int) (xs : List Value) (k : Nat) : Prop := ∀ i, i < k → xs[i * 2 + 1]? = some (.int .i64 (f i))
theorem IUp.next {f : Nat → Int} {xs : List Value} {k : Nat} (h : IUp f xs k) (hl : k * 2 + 1 < xs.length) (u : Value) (z : Int) (hz : f k = z) : IUp f ((xs.set (k * 2) u).set (k * 2 + 1) (.int .i64 z)) (k + 1) := by
  intro i hi
  simp only [List.getElem?_set, List.length_set]
  by_cases e : i = k
  · subst e
    rw [if_pos rfl, if_pos hl, hz]
  · rw [if_neg (by omega), if_neg (by omega)]
    exact h i (by omega)
/-- These cells stay. -/
def Fr (f : Nat → Int) (b n : Nat) (g j : Nat) (u : Value) : Prop := g = b ∧ ∃ i, i < n ∧ j = i * 2 + 1 ∧ u = .int .i64 (f i)
def neg1 (i : Nat) : Int := -(i : Int)
def thou (i : Nat) : Int := 1000 + (i : Int)

/-- Two indexes, the kept list, and cells that nobody writes any more. -/
structure AS (W w : World) (s x bm y by_ : Nat) (S T : List Rw) (vk : Value) (L : List De) (F : Nat → Nat → Value → Prop) : Prop where
  ix : IxAt w x bm S
  iy : IxAt w y by_ T
  ne : by_ ≠ bm
  nxy : x ≠ by_
  keep : Keeps (fun _ => False) W w
  newy : W.heap.size ≤ by_
  fx : S.length < 4000000000000
  fy : T.length < 8000000000000
  kept : DSl w vk L
  kb : ∀ g, vk.ownBlock = some g → g < s ∧ g ≠ by_
  sx : x < s ∧ bm < s ∧ y < s ∧ by_ < s ∧ W.heap.size ≤ s ∧ s ≤ w.heap.size
  fz : ∀ g j u, F g j u → s ≤ g ∧ w.cell? ⟨g, j, none⟩ = some u

section
variable {W w : World} {s x bm y by_ : Nat} {S T : List Rw} {vk : Value} {L : List De} {F : Nat → Nat → Value → Prop}
theorem AS.grown {w' : World} (h : AS W w s x bm y by_ S T vk L F) (k : Keeps (fun _ => False) w w') : AS W w' s x bm y by_ S T vk L F :=
  ⟨h.ix.keep k id id, h.iy.keep k id id, h.ne, h.nxy, h.keep.trans k, h.newy, h.fx, h.fy, h.kept.grown k, h.kb, by have := h.sx; have := k.size; omega, fun g j u hf => ⟨(h.fz g j u hf).1, k.cell (h.fz g j u hf).2 id⟩⟩
theorem AS.drewN (h : AS W w s x bm y by_ S T vk L F) (n : Nat) : AS W (w.drewN n) s x bm y by_ S T vk L F := h.grown (Keeps.drewN (fun _ => False) w n)
theorem AS.ony {w' : World} {T' : List Rw} (h : AS W w s x bm y by_ S T vk L F) (hi : IxAt w' y by_ T') (k : Keeps (fun k => k = by_) w w') (hl : T'.length < 8000000000000) : AS W w' s x bm y by_ S T' vk L F :=
  ⟨h.ix.keep k h.nxy (fun e => h.ne e.symm), hi, h.ne, h.nxy, h.keep.then k (fun i e => Or.inr (by have := h.newy; omega)), h.newy, h.fx, hl, h.kept.keep k (fun g hg => (h.kb g hg).2), h.kb, by have := h.sx; have := k.size; omega,
   fun g j u hf => ⟨(h.fz g j u hf).1, k.cell (h.fz g j u hf).2 (fun e => by have := (h.fz g j u hf).1; have := h.sx; simp only at e; omega)⟩⟩
/-- Blocks from s on were written. -/
theorem AS.write {w' : World} {F' : Nat → Nat → Value → Prop} (h : AS W w s x bm y by_ S T vk L F) (k : Keeps (fun c => s ≤ c) w w') (hF : ∀ g j u, F' g j u → s ≤ g ∧ w'.cell? ⟨g, j, none⟩ = some u) : AS W w' s x bm y by_ S T vk L F' := by
  obtain ⟨h1, h2, h3, h4, h5, h6⟩ := h.sx
  exact ⟨h.ix.keep k (by omega) (by omega), h.iy.keep k (by omega) (by omega), h.ne, h.nxy, h.keep.then k (fun i e => Or.inr (by omega)), h.newy, h.fx, h.fy, h.kept.keep k (fun g hg => by have := (h.kb g hg).1; omega), h.kb, ⟨h1, h2, h3, h4, h5, Nat.le_trans h6 k.size⟩, hF⟩
theorem as_list (h : Hid (AS W w s x bm y by_ S T vk L F)) (d : Int) (M : List De) (hM : lstS S d = M) :
    Calls Try.prog 12 #[.pointer (some ⟨x, 0, none⟩), .int .i64 d] w fun e w' => ∃ p c, e = .returned (.slice p M.length c) ∧ Hid (AS W w' s x bm y by_ S T vk L F) ∧ Hid (DSl w' (.slice p M.length c) M) ∧ Hid (Keeps (fun _ => False) w w') := by
  refine (list_any w x bm S h.out.ix d (by have := h.out.fx; omega)).mono ?_
  rintro e w' ⟨v, rfl, H⟩
  subst hM
  obtain ⟨p, c, rfl⟩ := (DSl.of_row H.out.1 rfl).shape
  exact ⟨p, c, rfl, h.out.grown H.out.2, DSl.of_row H.out.1 rfl, H.out.2⟩
theorem as_same (h : Hid (AS W w s x bm y by_ S T vk L F)) {v1 : Value} {L1 : List De} (h1 : Hid (DSl w v1 L1)) (hl : L1.length < 4000000000000) (r : Bool) (hr : decide (L1 = L) = r) :
    Calls Try.prog 16 #[v1, vk] w fun e w' => e = .returned (.bool r) ∧ Hid (AS W w' s x bm y by_ S T vk L F) ∧ Hid (Keeps (fun _ => False) w w') :=
  (same_any w v1 vk L1 L h1.out h.out.kept (by omega)).mono fun _ _ ⟨he, hk⟩ => ⟨by rw [← hr]; exact he, h.out.grown hk, hk⟩
theorem as_puty (h : Hid (AS W w s x bm y by_ S T vk L F)) (d : Int) (z : ByteArray) (n : Int) (hl : T.length < 7900000000000) :
    Calls Try.prog 19 #[.pointer (some ⟨y, 0, none⟩), .int .i64 d, .string z, .int .i64 n] w fun e w' => ∃ E : Int, e = .returned (.int .i64 E) ∧ ∃ T', T'.length ≤ T.length + 1 ∧ Hid (AS W w' s x bm y by_ S T' vk L F) := by
  refine (put_any w y by_ T h.out.iy d z n (by omega)).mono ?_
  rintro e w' ⟨rfl, H⟩
  have := putS_len T d z n
  exact ⟨_, rfl, _, this, h.out.ony H.out.1 H.out.2 (by omega)⟩
theorem as_dropy (h : Hid (AS W w s x bm y by_ S T vk L F)) (d : Int) (hd : (Lit.int .i64 d).wf = true) (z : ByteArray) :
    Calls Try.prog 20 #[.pointer (some ⟨y, 0, none⟩), .int .i64 d, .string z] w fun e w' => ∃ a E : Int, e = .returned (.tuple #[.int .i64 a, .int .i64 E]) ∧ ∃ T', T'.length ≤ T.length ∧ Hid (AS W w' s x bm y by_ S T' vk L F) := by
  refine (drop_any w y by_ T h.out.iy d hd z).mono ?_
  rintro e w' ⟨rfl, H⟩
  have : (delS T d z).length ≤ T.length := List.length_filter_le ..
  exact ⟨_, _, rfl, _, this, h.out.ony H.out.1 H.out.2 (by have := h.out.fy; omega)⟩
theorem as_cleary (h : Hid (AS W w s x bm y by_ S T vk L F)) (d : Int) :
    Calls Try.prog 14 #[.pointer (some ⟨y, 0, none⟩), .int .i64 d] w fun e w' => ∃ E : Int, e = .returned (.int .i64 E) ∧ Hid (AS W w' s x bm y by_ S (clrS T d) vk L F) := by
  refine (clear_any w y by_ T h.out.iy d (by have := h.out.fy; omega)).mono ?_
  rintro e w' ⟨rfl, H⟩
  have : (clrS T d).length ≤ T.length := List.length_filter_le ..
  exact ⟨_, rfl, h.out.ony H.out.1 H.out.2 (by have := h.out.fy; omega)⟩
theorem as_leny (h : Hid (AS W w s x bm y by_ S T vk L F)) (d : Int) (E : Int) (hE : ((T.filter (inDir d)).length : Int) = E) :
    Calls Try.prog 15 #[.pointer (some ⟨y, 0, none⟩), .int .i64 d] w fun e w' => e = .returned (.int .i64 E) ∧ Hid (AS W w' s x bm y by_ S T vk L F) :=
  (len_any w y by_ T h.out.iy d (by have := h.out.fy; omega)).mono fun _ _ ⟨he, hk⟩ => ⟨by rw [← hE]; exact he, h.out.grown hk⟩
theorem as_len (h : Hid (AS W w s x bm y by_ S T vk L F)) (d : Int) (E : Int) (hE : ((S.filter (inDir d)).length : Int) = E) :
    Calls Try.prog 15 #[.pointer (some ⟨x, 0, none⟩), .int .i64 d] w fun e w' => e = .returned (.int .i64 E) ∧ Hid (AS W w' s x bm y by_ S T vk L F) :=
  (len_any w x bm S h.out.ix d (by have := h.out.fx; omega)).mono fun _ _ ⟨he, hk⟩ => ⟨by rw [← hE]; exact he, h.out.grown hk⟩
end

/-! The beginning. -/
theorem cs_copyB {W w : World} {x bm base : Nat} {S : List Rw} {vb : Value} {L : List De} (h : Hid (KS W w x bm S base vb L)) : Calls Try.prog 13 #[.pointer (some ⟨x, 0, none⟩)] w fun e w' => e = .returned (.pointer (some ⟨w.heap.size + 1, 0, none⟩)) ∧ Hid (CS W w' x bm (w.heap.size + 1) w.heap.size S S base vb L) := by
  refine (copyI_any w x bm S h.out.ix).mono ?_
  rintro e w' ⟨rfl, H⟩
  exact ⟨rfl, h.out.grown H.out.2.1, H.out.1, by have := h.out.ix.lt; omega, h.out.few⟩
/-- What is kept of a list, taken anew. -/
theorem cs_keep {W w : World} {x bm y by_ base : Nat} {S T : List Rw} {vb : Value} {L : List De} (h : Hid (CS W w x bm y by_ S T base vb L)) {v : Value} {M : List De} (hv : Hid (DSl w v M)) (hM : M.length < 4000000000000) (hW : W.heap.size ≤ by_) :
    Calls Try.prog 11 #[v] w fun e w' => ∃ p c, e = .returned (.slice p M.length c) ∧ Hid (AS W w' w'.heap.size x bm y by_ S T (.slice p M.length c) M (fun _ _ _ => False)) := by
  refine (copy_any w v M hv.out (by omega)).mono ?_
  rintro e w' ⟨v', rfl, H⟩
  obtain ⟨p, c, rfl⟩ := H.out.1.dsl.shape
  have hxl := heap_lt h.out.ks.ix.cell
  have hyl := heap_lt h.out.iy.cell
  have hbl := h.out.ks.ix.lt
  have hbyl := h.out.iy.lt
  have hs := H.out.2.size
  refine ⟨p, c, rfl, h.out.ks.ix.keep H.out.2 id id, h.out.iy.keep H.out.2 id id, h.out.ne, ?_, h.out.ks.keep.trans H.out.2, hW, h.out.ks.few, by have := h.out.fy; omega, H.out.1.dsl, ?_, ?_, fun _ _ _ h => h.elim⟩
  · rintro rfl
    obtain ⟨D, ⟨es, cl, hb, _⟩, _⟩ := h.out.iy.map
    have := h.out.ks.ix.cell
    rw [hb] at this; cases this
  · intro g hg
    have := World.ownsRow.lt H.out.1 g hg
    omega
  · have := h.out.ks.keep.size
    omega
theorem as_row {W w : World} {s x bm y by_ : Nat} {S T : List Rw} {vk : Value} {L : List De} {F : Nat → Nat → Value → Prop} (h : Hid (AS W w s x bm y by_ S T vk L F)) (d : Int) (M : List De) (hM : lstS S d = M) :
    Calls Try.prog 12 #[.pointer (some ⟨x, 0, none⟩), .int .i64 d] w fun e w' => ∃ p c, e = .returned (.slice p M.length c) ∧ Hid (AS W w' s x bm y by_ S T vk L F) ∧ Hid (RowD w' w.heap.size (.slice p M.length c) M) ∧ Hid (Keeps (fun _ => False) w w') := by
  refine (list_any w x bm S h.out.ix d (by have := h.out.fx; omega)).mono ?_
  rintro e w' ⟨v, rfl, H⟩
  subst hM
  obtain ⟨p, c, rfl⟩ := (DSl.of_row H.out.1 rfl).shape
  exact ⟨p, c, rfl, h.out.grown H.out.2, H.out.1, H.out.2⟩

end Go.Proofs.Ytendmohjodeelab
