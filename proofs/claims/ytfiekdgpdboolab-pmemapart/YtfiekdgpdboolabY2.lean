import Derived.Test.YtfiekdgpdboolabP2
import Derived.Handy
namespace Go.Proofs.Ytfiekdgpdboolab
open Go.RowKit Go.Maps

section
variable {P : Program} (w : World)

/-- append onto an own row: where the new row lies; a row that lies anew leaves the old one as it was. -/
theorem run_append_stay (t ty : TypeId) (base : Nat) (e : TypeId) (i : TypeInfo) (z : Value) (size bytes : Nat) (ht : P.underlying t = some (.slice e)) (hi : P.info? e = some i) (hz : i.zero = some z)
    (hsize : i.size = size) (hby : i.bytes = bytes) (hzs : z.cells.size = size) (hsz : 0 < size)
    (v : Value) (n : Nat) (xs : List Value) (hown : w.ownsRow base e size v n xs)
    (ad : Addr) (m c : Nat) (news : List Value) (hl : news.length = m * size) (hnews : ∀ j u, news[j]? = some u → w.cell? (ad.add j) = some u) (h1 : ∀ u ∈ news, u.oneCell' = true)
    (hm : 0 < m) (h63 : n + m ≤ maxLen) (hbytes : (n + m) * bytes ≤ 140737488355328) (hbase : base ≤ w.heap.size) (H : Nat) (hH : w.heap.size = H) :
    ∃ g cap w', (Builtin.append_ #[t, t] ty #[v, .slice (some ad) m c]).run P w = .ok (.slice (some ⟨g, 0, none⟩) (n + m) cap) w' ∧
      w'.ownsRow base e size (.slice (some ⟨g, 0, none⟩) (n + m) cap) (n + m) (xs ++ news) ∧ w.grownBy w' v.ownBlock ∧ (v.ownBlock = some g ∨ (g = H ∧ w.grownBy w' none)) ∧ g < w'.heap.size := by
  obtain ⟨g, cap, w', hr, h2, h3, h4, h5⟩ := run_append_lies (P := P) w t ty base e i z size bytes ht hi hz hsize hby hzs hsz v n xs hown ad m c news hl hnews h1 hm h63 hbytes hbase H hH
  refine ⟨g, cap, w', hr, h2, h3, ?_, h5⟩
  rcases h4 with h4 | h4
  · exact Or.inl h4
  · rcases hown.2 with ⟨rfl, _⟩ | ⟨g', cap', cur, rfl, hbg, hg, hnc, hcm, hcs, htake⟩
    · exact Or.inr ⟨h4, h3⟩
    · by_cases hroom : n + m ≤ cap'
      · have hfit : n * i.size + news.length ≤ cur.size := by rw [hsize, hl, hcs, ← Nat.add_mul]; exact Nat.mul_le_mul_right _ hroom
        have hr2 := run_append_room (P := P) w t ty e i ht hi g' n cap' cur hg ad m c news (by rw [hsize]; exact hl) hnews h1 hroom hfit
        rw [hr] at hr2
        simp only [Result.ok.injEq, Value.slice.injEq, Option.some.injEq, Addr.mk.injEq] at hr2
        exact Or.inl (by rw [hr2.1.1.1]; rfl)
      · have holds : ∀ j u, xs[j]? = some u → w.cell? ((⟨g', 0, none⟩ : Addr).add j) = some u := hown.cells (g := g') rfl
        have hr2 := run_append_grow (P := P) w t ty e i z ht hi hz ⟨g', 0, none⟩ n cap' xs (by rw [hsize]; exact hown.1) holds ad m c news (by rw [hsize]; exact hl) hnews (by omega) (by simp only [maxLen] at h63; omega) (growslice_fits (by omega) (by rw [hby]; exact hbytes))
        rw [hr] at hr2
        simp only [Result.ok.injEq] at hr2
        refine Or.inr ⟨h4, ?_⟩
        rw [hr2.2]
        exact ⟨rfl, rfl, rfl, by simp, fun k hk _ => heap_alloc_old w.drew _ k hk⟩

theorem wp_append_stay {o : Oper} {a : Act} {K : Act → World → Prop} {Q : Exit → Act → World → Prop} (s x : Operand) (t : TypeId)
    (ho : o.op = .call { callee := .builtin .append, args := #[s, x], argTypes := #[t, t] })
    (base : Nat) (e : TypeId) (i : TypeInfo) (z : Value) (size bytes : Nat) (ht : P.underlying t = some (.slice e)) (hi : P.info? e = some i) (hz : i.zero = some z)
    (hsize : i.size = size) (hby : i.bytes = bytes) (hzs : z.cells.size = size) (hsz : 0 < size)
    (v : Value) (n : Nat) (xs : List Value) (hs : a.eval s = v) (hown : w.ownsRow base e size v n xs)
    (ad : Addr) (m c : Nat) (news : List Value) (hx : a.eval x = .slice (some ad) m c) (hl : news.length = m * size) (hnews : ∀ j u, news[j]? = some u → w.cell? (ad.add j) = some u) (h1 : ∀ u ∈ news, u.oneCell' = true)
    (hm : 0 < m) (h63 : n + m ≤ maxLen) (hbytes : (n + m) * bytes ≤ 140737488355328) (hbase : base ≤ w.heap.size) (H : Nat) (hH : w.heap.size = H)
    (h : ∀ g cap w', w'.ownsRow base e size (.slice (some ⟨g, 0, none⟩) (n + m) cap) (n + m) (xs ++ news) → w.grownBy w' v.ownBlock → (v.ownBlock = some g ∨ (g = H ∧ w.grownBy w' none)) → g < w'.heap.size → K (a.put o.dst (.slice (some ⟨g, 0, none⟩) (n + m) cap)) w') : o.wp P a w K Q := by
  obtain ⟨g, cap, w', hr, h2, h3, h4, h5⟩ := run_append_stay (P := P) w t o.type base e i z size bytes ht hi hz hsize hby hzs hsz v n xs hown ad m c news hl hnews h1 hm h63 hbytes hbase H hH
  unfold Oper.wp execOp
  simp only [ho, resolve, invoke, builtin, Sem.run_bind, Sem.run_pure, Result.andThen_ok, List.map_toArray, List.map_cons, List.map_nil, hs, hx, hr]
  exact h g cap w' h2 h3 h4 h5

theorem wpList_append_stay {ops : Array Oper} {rest : List Oper} {o : Oper} {a : Act} {Q : Exit → Act → World → Prop} (hgd : o.guard = none) (s x : Operand) (t : TypeId)
    (ho : o.op = .call { callee := .builtin .append, args := #[s, x], argTypes := #[t, t] })
    (base : Nat) (e : TypeId) (i : TypeInfo) (z : Value) (size bytes : Nat) (ht : P.underlying t = some (.slice e)) (hi : P.info? e = some i) (hz : i.zero = some z)
    (hsize : i.size = size) (hby : i.bytes = bytes) (hzs : z.cells.size = size) (hsz : 0 < size)
    (v : Value) (n : Nat) (xs : List Value) (hs : a.eval s = v) (hown : w.ownsRow base e size v n xs)
    (ad : Addr) (m c : Nat) (news : List Value) (hx : a.eval x = .slice (some ad) m c) (hl : news.length = m * size) (hnews : ∀ j u, news[j]? = some u → w.cell? (ad.add j) = some u) (h1 : ∀ u ∈ news, u.oneCell' = true)
    (hm : 0 < m) (h63 : n + m ≤ maxLen) (hbytes : (n + m) * bytes ≤ 140737488355328) (hbase : base ≤ w.heap.size) (H : Nat) (hH : w.heap.size = H)
    (h : ∀ g cap w', w'.ownsRow base e size (.slice (some ⟨g, 0, none⟩) (n + m) cap) (n + m) (xs ++ news) → w.grownBy w' v.ownBlock → (v.ownBlock = some g ∨ (g = H ∧ w.grownBy w' none)) → g < w'.heap.size → wpList P ops Q rest (a.put o.dst (.slice (some ⟨g, 0, none⟩) (n + m) cap)) w') : wpList P ops Q (o :: rest) a w :=
  wpList_plain hgd fun _ hK => wp_append_stay w s x t ho base e i z size bytes ht hi hz hsize hby hzs hsz v n xs hs hown ad m c news hx hl hnews h1 hm h63 hbytes hbase H hH fun g cap w' h2 h3 h4 h5 => hK _ _ (h g cap w' h2 h3 h4 h5)

theorem step_append_stay {ops : Array Oper} {o : Oper} {a : Act} {K : Act → World → Prop} {Q : Exit → Act → World → Prop} {E : Prop} (hgd : o.guard = none) (s x : Operand) (t : TypeId)
    (ho : o.op = .call { callee := .builtin .append, args := #[s, x], argTypes := #[t, t] })
    (base : Nat) (e : TypeId) (i : TypeInfo) (z : Value) (size bytes : Nat) (ht : P.underlying t = some (.slice e)) (hi : P.info? e = some i) (hz : i.zero = some z)
    (hsize : i.size = size) (hby : i.bytes = bytes) (hzs : z.cells.size = size) (hsz : 0 < size)
    (v : Value) (n : Nat) (xs : List Value) (hs : a.eval s = v) (hown : w.ownsRow base e size v n xs)
    (ad : Addr) (m c : Nat) (news : List Value) (hx : a.eval x = .slice (some ad) m c) (hl : news.length = m * size) (hnews : ∀ j u, news[j]? = some u → w.cell? (ad.add j) = some u) (h1 : ∀ u ∈ news, u.oneCell' = true)
    (hm : 0 < m) (h63 : n + m ≤ maxLen) (hbytes : (n + m) * bytes ≤ 140737488355328) (hbase : base ≤ w.heap.size) (H : Nat) (hH : w.heap.size = H)
    (h : ∀ g cap w', w'.ownsRow base e size (.slice (some ⟨g, 0, none⟩) (n + m) cap) (n + m) (xs ++ news) → w.grownBy w' v.ownBlock → (v.ownBlock = some g ∨ (g = H ∧ w.grownBy w' none)) → g < w'.heap.size → K (a.put o.dst (.slice (some ⟨g, 0, none⟩) (n + m) cap)) w') :
    if Region.wanted o (yielded ops a.tmps) = true then Oper.wp P o a w K Q else E := by
  have hw : Region.wanted o (yielded ops a.tmps) = true := by simp [Region.wanted, hgd]
  rw [if_pos hw]
  exact wp_append_stay w s x t ho base e i z size bytes ht hi hz hsize hby hzs hsz v n xs hs hown ad m c news hx hl hnews h1 hm h63 hbytes hbase H hH h
end

/-- The old row's cells behind an append. -/
theorem stay_cell {w w' : World} {base : Nat} {e : TypeId} {size n m g cap H b : Nat} {v : Value} {xs news : List Value} (hown : w.ownsRow base e size v n xs)
    (h2 : w'.ownsRow base e size (.slice (some ⟨g, 0, none⟩) (n + m) cap) (n + m) (xs ++ news)) (h4 : v.ownBlock = some g ∨ (g = H ∧ w.grownBy w' none)) (hb : v.ownBlock = some b) (j : Nat) (u : Value) (hj : xs[j]? = some u) :
    w'.cell? ⟨b, j, none⟩ = some u := by
  have hjl := (List.getElem?_eq_some_iff.1 hj).1
  have hc : w.cell? ⟨b, j, none⟩ = some u := by
    have := hown.cells hb j u hj
    have hadd : (⟨b, 0, none⟩ : Addr).add j = ⟨b, j, none⟩ := by unfold Addr.add; split <;> simp_all
    rwa [hadd] at this
  rcases h4 with h4 | ⟨_, h4⟩
  · rw [hb] at h4
    cases h4
    rw [h2.cellAt j (by rw [← h2.1, List.length_append]; omega), List.getElem?_append_left hjl]
    exact hj
  · exact h4.cell hc (by simp)

/-- A struct of three written anew. -/
theorem set3_cells {w : World} {R : Nat} {a b c : Value} {t : TypeId} (h : w.heap[R]? = some (.cells #[a, b, c] t (0, 0))) (x y z : Value) :
    (w.setCell ⟨R, 0, none⟩ x).cell? ⟨R, 0, none⟩ = some x ∧ ((w.setCell ⟨R, 0, none⟩ x).setCell ⟨R, 1, none⟩ y).cell? ⟨R, 1, none⟩ = some y ∧
    (((w.setCell ⟨R, 0, none⟩ x).setCell ⟨R, 1, none⟩ y).setCell ⟨R, 2, none⟩ z).cell? ⟨R, 2, none⟩ = some z := by
  have h1 := setCell_block (a := ⟨R, 0, none⟩) (v := x) h rfl
  have h2 := setCell_block (a := ⟨R, 1, none⟩) (v := y) h1 rfl
  have h3 := setCell_block (a := ⟨R, 2, none⟩) (v := z) h2 rfl
  simp at h1 h2 h3
  exact ⟨by simp [World.cell?, h1], by simp [World.cell?, h2], by simp [World.cell?, h3]⟩

set_option maxHeartbeats 1000000 in
set_option maxRecDepth 20000 in
/-- lend: a list written full with its mark, and more behind it. -/
theorem lend_any (w : World) (b n : Nat) (m : Int) (cs : List Value) (hb : w.heap[b]? = some (.cells cs.toArray 5 (0, 0))) (hn : cs.length = n) (hn0 : 0 < n) (hn' : n ≤ 10000) :
    Calls Try.prog 25 #[.slice (some ⟨b, 0, none⟩) n n, .int .u8 m] w fun e w' => ∃ g c, e = .returned (.agg #[.slice (some ⟨b, 0, none⟩) n n, .slice (some ⟨g, 0, none⟩) (n + 9 : Nat) c, .int .u8 m]) ∧
      (∀ i, i < n → w'.cell? ⟨b, i, none⟩ = some (.int .u8 m)) ∧ (∀ i, i < n + 9 → w'.cell? ⟨g, i, none⟩ = some (.int .u8 m)) ∧ (g = b ∨ w.heap.size ≤ g) ∧ g < w'.heap.size ∧ Keeps (fun k => k = b) w w' := by
  obtain ⟨i0, hi, hz0, hz1, hz2⟩ := info_parts info5
  have hr0 : w.rowIs b 5 n (fun i => cs.getD i (.int .u8 0)) := ⟨cs.toArray, hb, by simpa using hn, fun i hi => by
    have : i < cs.length := by omega
    simp [List.getD_eq_getElem?_getD, this]⟩
  have hbl : b < w.heap.size := heap_lt hb
  have HR0 := Hid.mk' (hr0.alloc (.cells #[.slice none 0 0, .slice none 0 0, .int .u8 0] 55))
  have hres := (MapKept.heap_alloc w (.cells #[.slice none 0 0, .slice none 0 0, .int .u8 0] 55)).1
  have HK0 := Hid.mk' (Keeps.of (X := fun k => k = b) (World.grownBy_alloc w (.cells #[.slice none 0 0, .slice none 0 0, .int .u8 0] 55) none) (by simp))
  obtain ⟨w1, hw1⟩ : ∃ w1, w1 = w.alloc (.cells #[.slice none 0 0, .slice none 0 0, .int .u8 0] 55) := ⟨_, rfl⟩
  have hw1s : w1.heap.size = w.heap.size + 1 := by rw [hw1]; simp
  rw [← hw1] at HR0 hres HK0
  have HRES := Hid.mk' hres
  clear hr0 hb hn hres
  go_enter Try.func25, Try.ntmps25
  go_wp2
  rw [← hw1]
  go_loopw [5] (fun i wr => ∃ k : Nat, k ≤ n ∧ i = .int .i64 k ∧ Hid (wr.rowIs b 5 n (fun i => if i < k then .int .u8 m else cs.getD i (.int .u8 0)) ∧ Keeps (fun k => k = b) w1 wr)) (fun i _ => n - (intOf i).toNat)
  case atStart => exact ⟨0, by omega, rfl, HR0.out.congr (fun i _ => by simp), Keeps.refl _ _⟩
  case round =>
    obtain ⟨k, hk, rfl, hrel⟩ := hrel
    by_cases hlt : k < n
    · have hc := hrel.out.1.cell hlt
      have hf := hrel.out.1.frozen k
      have HX : Hid ((wr.setCell ⟨b, k, none⟩ (.int .u8 m)).rowIs b 5 n (fun i => if i < k + 1 then .int .u8 m else cs.getD i (.int .u8 0)) ∧ Keeps (fun k => k = b) w1 (wr.setCell ⟨b, k, none⟩ (.int .u8 m))) := by
        refine ⟨(hrel.out.1.set k (.int .u8 m)).congr (fun i _ => ?_), hrel.out.2.step (grownBy_setCell wr ⟨b, k, none⟩ _) (by rintro j hj; cases hj; exact Or.inl rfl)⟩
        by_cases h1 : i = k
        · simp [h1]
        · by_cases h2 : i < k
          · simp [h1, h2]; omega
          · have : ¬ i < k + 1 := by omega
            simp [h1, h2, this]
      have hlt' : (k : Int) < (n : Int) := by omega
      have hk0 : (0 : Int) ≤ (k : Int) := by omega
      clear hrel
      go_wp2
      go_roundw
      case rel => exact ⟨k + 1, by omega, by go_num, HX.out⟩
      case measure => simp [intOf]; omega
    · obtain rfl : k = n := by omega
      have HX := Hid.mk' (show wr.ownsRow 0 5 1 (.slice (some ⟨b, 0, none⟩) k k) k (List.replicate k (.int .u8 m)) ∧ (∀ i, i < k → wr.cell? ⟨b, i, none⟩ = some (.int .u8 m)) ∧ Keeps (fun j => j = b) w1 wr from by
        refine ⟨⟨by simp, Or.inr ?_⟩, fun i hi => by have := hrel.out.1.cell hi; simpa [hi] using this, hrel.out.2⟩
        obtain ⟨c, h1, h2, h3⟩ := hrel.out.1
        refine ⟨b, k, c, rfl, Nat.zero_le _, h1, Nat.le_refl _, by unfold maxLen; omega, by simpa using h2, ?_⟩
        apply List.ext_getElem?
        intro i
        by_cases hi : i < k
        · have := h3 i hi
          rw [List.getElem?_take, if_pos (by omega), List.getElem?_replicate, if_pos hi]
          simpa [hi] using this
        · rw [List.getElem?_take, if_neg (by omega), List.getElem?_replicate, if_neg hi])
      clear hrel
      go_wp2
      go_loopw [6, 7] (fun v i wr => ∃ j : Nat, j ≤ 9 ∧ i = .int .i64 j ∧ wr.ownsRow 0 5 1 v (k + j) (List.replicate (k + j) (.int .u8 m)) ∧ Hid ((∀ i, i < k → wr.cell? ⟨b, i, none⟩ = some (.int .u8 m)) ∧ (v.ownBlock = some b ∨ ∃ g, v.ownBlock = some g ∧ w1.heap.size ≤ g) ∧ Keeps (fun j => j = b) w1 wr)) (fun _ i _ => 9 - (intOf i).toNat)
      case atStart => exact ⟨0, by omega, rfl, HX.out.1, HX.out.2.1, Or.inl rfl, HX.out.2.2⟩
      case round =>
        obtain ⟨j, hj, rfl, hown, hrel⟩ := hrel
        by_cases hlj : j < 9
        · have hlj' : (j : Int) < 9 := by omega
          have hsz := hrel.out.2.2.size
          clear HX HR0
          go_wp2_with (first
            | (at_builtin; go_must (refine wpList_append_stay _ rfl _ _ 33 rfl 0 5 i0 (.int .u8 0) 1 1 Try.underlying33 hi hz0 hz1 hz2 rfl (by decide) u6 (k + j) (List.replicate (k + j) (.int .u8 m)) rfl (hown.alloc _) ⟨wr.heap.size, 0, none⟩ 1 1 [.int .u8 m] rfl rfl (cell_one_new _ _ _) (by simp [Value.oneCell']) (by decide) (by unfold maxLen; omega) (by omega) (by simp) (wr.heap.size + 1) (by simp) ?_); intro g2 c2 w2 hown2 hgrow2 hloc2 hlt2))
          go_roundw
          case rel =>
            obtain ⟨q1, q2, q3⟩ := hrel.out
            have e1 : List.replicate (k + j) (Value.int .u8 m) ++ [.int .u8 m] = List.replicate (k + (j + 1)) (.int .u8 m) := by
              rw [← Nat.add_assoc, List.replicate_succ']
            refine ⟨j + 1, by omega, by go_num, by rw [← e1]; exact hown2, fun i hi => ?_, ?_, ?_⟩
            · rcases q2 with q2 | ⟨g, q2, q4⟩
              · exact stay_cell (hown.alloc _) hown2 hloc2 q2 i _ (by rw [List.getElem?_replicate, if_pos (by omega)])
              · refine hgrow2.cell ((World.grownBy_alloc wr _ none).cell (q1 i hi) (by simp)) ?_
                rw [q2]; simp; omega
            · rcases hloc2 with h | ⟨h, _⟩
              · rw [h] at q2
                rcases q2 with q2 | ⟨g, q2, q4⟩
                · exact Or.inl q2
                · exact Or.inr ⟨g, q2, q4⟩
              · exact Or.inr ⟨g2, rfl, by omega⟩
            · refine (q3.step (World.grownBy_alloc wr _ none) (by simp)).step hgrow2 ?_
              intro i hi
              rcases q2 with q2 | ⟨g, q2, q4⟩
              · rw [hi] at q2; cases q2; exact Or.inl rfl
              · rw [hi] at q2; cases q2; exact Or.inr q4
          case measure => simp [intOf]; omega
        · obtain rfl : j = 9 := by omega
          obtain ⟨g, cap, rfl, _, hgl⟩ := hown.form (by omega)
          have HO := Hid.mk' hown
          have hrb := (hrel.out.2.2.block w.heap.size (by omega) (by omega)).trans HRES.out
          have c0 : wr.cell? ⟨w.heap.size, 0, none⟩ = some (.slice none 0 0) := by simp [World.cell?, hrb]
          have c1 : wr.cell? ⟨w.heap.size, 1, none⟩ = some (.slice none 0 0) := by simp [World.cell?, hrb]
          have c2 : wr.cell? ⟨w.heap.size, 2, none⟩ = some (.int .u8 0) := by simp [World.cell?, hrb]
          have f0 : wr.frozen? ⟨w.heap.size, 0, none⟩ = false := by simp [World.frozen?, hrb]
          have f1 : wr.frozen? ⟨w.heap.size, 1, none⟩ = false := by simp [World.frozen?, hrb]
          have f2 : wr.frozen? ⟨w.heap.size, 2, none⟩ = false := by simp [World.frozen?, hrb]
          obtain ⟨d0, d1, d2⟩ := set3_cells hrb (.slice (some ⟨b, 0, none⟩) k k) (.slice (some ⟨g, 0, none⟩) (k + 9) cap) (.int .u8 m)
          clear hown HX HR0 hrb
          go_wp2
          refine bodyPost_ret (v := .agg #[.slice (some ⟨b, 0, none⟩) k k, .slice (some ⟨g, 0, none⟩) (k + 9) cap, .int .u8 m]) (by simp [results, Try.results25, go_sem, d0, d1, d2]) rfl ?_
          obtain ⟨q1, q2, q3⟩ := hrel.out
          have hg : ∀ x y z : Value, wr.grownBy (((wr.setCell ⟨w.heap.size, 0, none⟩ x).setCell ⟨w.heap.size, 1, none⟩ y).setCell ⟨w.heap.size, 2, none⟩ z) (some w.heap.size) := fun x y z =>
            grownBy_trans (grownBy_trans (grownBy_setCell _ ⟨w.heap.size, 0, none⟩ _) (grownBy_setCell _ ⟨w.heap.size, 1, none⟩ _)) (grownBy_setCell _ ⟨w.heap.size, 2, none⟩ _)
          have hgb : g = b ∨ w.heap.size + 1 ≤ g := by
            rcases q2 with q2 | ⟨g', q2, q4⟩
            · simp [Value.ownBlock] at q2; exact Or.inl q2
            · simp [Value.ownBlock] at q2; exact Or.inr (by omega)
          refine ⟨g, cap, rfl, fun i hi => (hg _ _ _).cell (q1 i hi) (by simp; omega), fun i hi => (hg _ _ _).cell ?_ (by simp; omega), by omega, Nat.lt_of_lt_of_le hgl (hg _ _ _).size, (HK0.out.trans q3).step (hg _ _ _) (by rintro j hj; cases hj; exact Or.inr (Nat.le_refl _))⟩
          rw [HO.out.cellAt i (by omega), List.getElem?_replicate, if_pos (by omega)]

end Go.Proofs.Ytfiekdgpdboolab
